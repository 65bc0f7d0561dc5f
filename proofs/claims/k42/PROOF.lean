import PyProof.Rows.All
import Wide.All
import OpenK.AllK
import Wide.FinOn
import HandS.ForMost
import HandS.ExcInit
import HandS.Defaults
import HandS.ExcOwn
import HandS.Wide
import HandS.Conv
import HandS.IsInst
import HandS.Deep
import HandS.Style
import HandS.Property
import HandS.Evl
import HandS.TupAny
import PyProof.ReprRoads
import PyProof.FitsInt
import KE.GoesEnum
import KE.GoesMore
import HandS.Dict
import HandS.Zip
import HandS.NamedTupSort
import HandS.SlotsOwn
import PyProof.InstNe
import KE.DatumOrd
import PySem.Challenge.RW_sevenninths_k42_shares_add_and_rise
import HandS.Gcd
import KE.KMathGC
import HandS.Iter
import KE.KTupSum
import HandS.Strs
import HandS.ExcField
import HandS.ExcIs
import HandS.WordsExc
import KE.KExcIs
import HandS.TupMul
import PyProof.StrOps2
import PyProof.StrLawsRepr
import PyProof.InstSpecial
import HandS.ClsMeth
import HandS.WideBits
import KE.KOpsOwn
import PyProof.TwoTypes
import PyProof.Pure
section
set_option Elab.async false
set_option linter.all false
set_option maxRecDepth 100000
/-! The hand layer's room, with one thing more: nothing is being shown around the call (so a repr of a container may be read). The words of the layer that speak of room are said anew over it. -/
namespace Wk
open PySem PySem.Spec PyProof.Rows L2

structure Room (k : Nat) (A : Around) : Prop extends L2.Room k A where
  gd : A.guards = some []
section
variable {j k : Nat} {A : Around}
theorem Room.mono (r : Room k A) (h : j ≤ k) : Room j A := ⟨r.toRoom.mono h, r.gd⟩
theorem Room.deeper (r : Room (k + 1) A) (env : Env) : Room k (A.deeper env) := ⟨r.toRoom.deeper env, r.gd⟩
theorem Room.in1 (r : Room (k + 1) A) : Room k A.in1 := ⟨r.toRoom.in1, r.gd⟩
theorem Room.make (r : Room (k + 1) A) (C : Addr) (us : List Value) (kw : List (Str × Value)) : Room k (A.under (.builtin "type.__call__" ⟨.ref C :: us, kw⟩)) :=
  ⟨r.toRoom.make C us kw, by
    have h : (Code.builtin "type.__call__" ⟨.ref C :: us, kw⟩).guards = [] := by simp [Code.guards, Code.isGuard, guardIds]
    show pushGuards (Code.builtin "type.__call__" ⟨.ref C :: us, kw⟩).guards A.guards = some []
    rw [h]; exact r.gd⟩
theorem Room.depth (r : Room k A) : A.depth < recursionLimit := r.toRoom.depth
theorem Room.units (r : Room k A) : A.units + 64 < cLine := r.toRoom.units
theorem Room.units0 (r : Room k A) : A.units < cLine := r.toRoom.units0
theorem hu_of (r : Room k A) : A.units + 1 < cLine := L2.hu_of r.toRoom
end

/-- a def keeps a promise, called where there is room and nothing is being shown -/
structure FnOk (P : Program) (w : World) (K : PySem.W.Frag) (mg : Str → Option Value) (base : Heap) (CX : CXT) (k : Nat) (f : Addr) (fd : FuncData) (ps : List Str) (sp : Sp) : Prop where
  len : ∀ vs H Q E, sp vs H Q E → vs.length = ps.length
  run : ∀ (A : Around) (outer : List Env) (s : Shared) (H : Hp) (args : Args) (us : List Value) (vs : List V) (Q : VK) (E : XK), Room k A → Env0 P w K mg base A outer s H →
    BindsTo s fd args (ps.zip us) → Vals vs us → sp vs H Q E → codeAny (model P w) A (.call (.ref f) args) (CR CX outer P w H s Q E) s
section
variable {P : Program} {w : World} {K : PySem.W.Frag} {mg : Str → Option Value} {base : Heap} {CX : CXT} {j k : Nat} {f : Addr} {fd : FuncData} {ps : List Str} {sp sp' : Sp}
theorem FnOk.mono (F : FnOk P w K mg base CX j f fd ps sp) (h : j ≤ k) : FnOk P w K mg base CX k f fd ps sp := ⟨F.len, fun _ _ _ _ _ _ _ _ _ r => F.run _ _ _ _ _ _ _ _ _ (r.mono h)⟩
theorem FnOk.imp (F : FnOk P w K mg base CX k f fd ps sp) (h : ∀ vs H Q E, sp' vs H Q E → sp vs H Q E) : FnOk P w K mg base CX k f fd ps sp' :=
  ⟨fun _ _ _ _ q => F.len _ _ _ _ (h _ _ _ _ q), fun _ _ _ _ _ _ _ _ _ r e b v q => F.run _ _ _ _ _ _ _ _ _ r e b v (h _ _ _ _ q)⟩
end

section
variable {X : Cx} {CX : CXT} {k : Nat} {f C : Addr} {fd : FuncData} {ps : List Str} {sp : Sp} {dvs : List V} {ds : List Value} {E : XK} {x m : Str} {p pos apos : Pos} {e o : Expr} {es : List Expr} {ta : TE} {t : TA}
theorem run_fn {pins : List (Addr × Obj)} {σ : L2.St} {H : Hp} {s : Shared} {Q : VK} {us : List Value} {vs : List V} (F : FnOk X.prog X.w X.K X.mg X.base CX k f fd ps sp) (hr : Room k X.A) (hb : Binds X.K fd ps ds) (hd : Vals dvs ds) (hx : Passes CX X E)
    (I : Inv X pins σ H s) (r : Vals vs us) (h : sp (vs ++ dvs) H Q E) : wpAny (model X.prog X.w) X.A (call (.ref f) us) (EP X pins σ Q) X.xe s := by
  have rr : Vals (vs ++ dvs) (us ++ ds) := r.append hd
  have ll : (us ++ ds).length = ps.length := rr.length ▸ F.len _ _ _ _ h
  refine wpAny_call (codeAny_mono (F.run X.A X.stack s H ⟨us, []⟩ _ _ Q E hr I.env0 (hb s us I.kIn ll) rr h) fun r s' hq => ?_)
  rcases r with e | fl
  · exact hx pins σ H s e s' I hq
  · cases fl with
    | ret u => exact I.after hq
    | _ => exact hq.elim
theorem pe_call (F : FnOk X.prog X.w X.K X.mg X.base CX k f fd ps sp) (hr : Room k X.A) (hg : Gl X x) (hm : X.mg x = some (.ref f)) (hk : PySem.W.keepIn X.K (.ref f) = true) (hb : Binds X.K fd ps ds) (hd : Vals dvs ds) (hx : Passes CX X E)
    (ha : PA X (e :: es) t) (hdb : (x == ("__debug__" : Str)) = false := by decide) (he : starEach (e :: es) X.env = (false, eval e X.env) :: starEach es X.env := by rfl) (hpl : (backTo pos (starEach es X.env)).any (·.1) = false := by rfl) :
    PE X (.Call (.Name x p) (e :: es) [] pos) (tCall sp dvs E t) := by
  refine ⟨fun pins s σ H Q I h => wpAny_Call_Name_kw (ld_glob I hg hm ?_ hdb)⟩
  refine PySem.W.callWith_K (h₀ := X.base) I.ok.mod.kin hk (thn (ha.run pos pins s σ H _ I h) fun us s1 z => ?_) he hpl
  obtain ⟨vs, H1, I1, r, q⟩ := z
  exact ⟨I1.kIn, run_fn F hr hb hd hx I1 r q⟩
theorem pe_call0 (F : FnOk X.prog X.w X.K X.mg X.base CX k f fd ps sp) (hr : Room k X.A) (hg : Gl X x) (hm : X.mg x = some (.ref f)) (hk : PySem.W.keepIn X.K (.ref f) = true) (hb : Binds X.K fd ps ds) (hd : Vals dvs ds) (hx : Passes CX X E)
    (hdb : (x == ("__debug__" : Str)) = false := by decide) : PE X (.Call (.Name x p) [] [] pos) (tCall sp dvs E tNil) :=
  ⟨fun _ _ _ _ _ I h => wpAny_Call_Name_kw (ld_glob I hg hm (PySem.W.callWith_K0 I.kIn hk (run_fn (us := []) F hr hb hd hx I .nil h)) hdb)⟩
theorem pe_meth {pl : Sem Bool} (he : PE X o ta) (c : Cls X.K C) (hm : Meth X.K C m f) (F : FnOk X.prog X.w X.K X.mg X.base CX k f fd ps sp) (hr : Room k X.A) (hb : Binds X.K fd ps ds) (hd : Vals dvs ds) (hx : Passes CX X E) (ha : PA X (e :: es) t)
    (hst : starEach (e :: es) X.env = (false, eval e X.env) :: starEach es X.env := by rfl) (hpl : (backTo pos (starEach es X.env)).any (·.1) = false := by rfl)
    (ht : eval (.Call (.Attribute o m apos) (e :: es) [] pos) X.env = (do
      let v ← eval o X.env
      standAt apos.atName
      let (g, first) ← holding [v] (getMethod v m pl)
      callWith pos g first (backTo pos (starEach (e :: es) X.env)) (backToKw pos (keywordEach [] X.env))) := by rfl) :
    PE X (.Call (.Attribute o m apos) (e :: es) [] pos) (tMeth C m sp dvs E ta t) := by
  refine ⟨fun pins s σ H Q I h => PySem.W.methodCall_KW (pl := pl) (thn (he.run pins s σ H _ I h) fun u s1 z => ?_) ht⟩
  obtain ⟨x, H1, I1, rx, a, dx, fs, ex, ea, l, q⟩ := z
  subst ex
  obtain rfl : u = Value.ref a := rx
  refine getmeth_ok I1 ea c hm l (PySem.W.callWith_K (first := [.ref a]) (h₀ := X.base) I.ok.mod.kin hm.kp (thn (ha.run pos pins s1 σ H1 _ I1 q) fun us s2 z => ?_) hst hpl)
  obtain ⟨vs, H2, I2, r, q2⟩ := z
  exact ⟨I2.kIn, run_fn (us := .ref a :: us) (vs := .ref a :: vs) F hr hb hd hx I2 (.cons rfl r) q2⟩
theorem pe_meth0 {pl : Sem Bool} (he : PE X o ta) (c : Cls X.K C) (hm : Meth X.K C m f) (F : FnOk X.prog X.w X.K X.mg X.base CX k f fd ps sp) (hr : Room k X.A) (hb : Binds X.K fd ps ds) (hd : Vals dvs ds) (hx : Passes CX X E)
    (ht : eval (.Call (.Attribute o m apos) [] [] pos) X.env = (do
      let v ← eval o X.env
      standAt apos.atName
      let (g, first) ← holding [v] (getMethod v m pl)
      callWith pos g first (backTo pos (starEach [] X.env)) (backToKw pos (keywordEach [] X.env))) := by rfl) :
    PE X (.Call (.Attribute o m apos) [] [] pos) (tMeth C m sp dvs E ta tNil) := by
  refine ⟨fun pins s σ H Q I h => PySem.W.methodCall_KW (pl := pl) (thn (he.run pins s σ H _ I h) fun u s1 z => ?_) ht⟩
  obtain ⟨x, H1, I1, rx, a, dx, fs, ex, ea, l, q⟩ := z
  subst ex
  obtain rfl : u = Value.ref a := rx
  exact getmeth_ok I1 ea c hm l (PySem.W.callWith_K0 (first := [.ref a]) I1.kIn hm.kp (run_fn (us := [.ref a]) (vs := [.ref a]) F hr hb hd hx I1 (.cons rfl .nil) q))

theorem run_make {pins : List (Addr × Obj)} {σ : L2.St} {H : Hp} {s : Shared} {Q : VK} {us : List Value} {vs : List V} (M : Mk X.K C f) (F : FnOk X.prog X.w X.K X.mg X.base CX k f fd ps sp) (hr : Room (k + 1) X.A) (hb : Binds X.K fd ps ds) (hd : Vals dvs ds)
    (hx : Passes CX X E) (I : Inv X pins σ H s) (r : Vals vs us)
    (h : ∀ x dx, H x = none → H dx = none → dx ≠ x → sp (.ref x :: (vs ++ dvs)) (upd (upd H dx (.own x)) x (.ins C dx [])) (fun v H2 => v = .non ∧ Q (.ref x) H2) E) :
    wpAny (model X.prog X.w) X.A (call (.ref C) us) (EP X pins σ Q) X.xe s := by
  have q0 := h _ _ (I.hok.fresh (Nat.le_succ s.heap.objs.size)) (I.hok.fresh (Nat.le_refl _)) (Nat.ne_of_lt (Nat.lt_succ_self _))
  have I2 := Inv.made (C := C) I
  have rr : Vals (V.ref (s.heap.objs.size + 1) :: (vs ++ dvs)) (Value.ref (s.heap.objs.size + 1) :: (us ++ ds)) := .cons rfl (r.append hd)
  have ll : (Value.ref (s.heap.objs.size + 1) :: us ++ ds).length = ps.length := by
    have e := rr.length
    rw [F.len _ _ _ _ q0] at e
    exact e.symm
  have run := F.run _ X.stack _ _ ⟨Value.ref (s.heap.objs.size + 1) :: us, []⟩ _ _ _ E (hr.make C us []) (I2.env0.make C us []) (hb _ (Value.ref (s.heap.objs.size + 1) :: us) I2.kIn ll) rr q0
  refine wpAny_call (make_map (f := f) I.kIn M.makes M.init (beq_iff_eq.mp M.fn) (codeAny_mono run fun r s' hq => ?_))
  rcases r with e | fl
  · exact hx pins σ _ _ e s' I2 hq
  · cases fl with
    | ret u =>
      obtain ⟨v, H', I3, rv, ev, q3⟩ := I2.after hq
      subst ev
      exact ⟨rv, ⟨V.ref (s.heap.objs.size + 1), H', I3, rfl, q3⟩⟩
    | _ => exact hq.elim
theorem pe_make (M : Mk X.K C f) (F : FnOk X.prog X.w X.K X.mg X.base CX k f fd ps sp) (hr : Room (k + 1) X.A) (hg : Gl X x) (hm : X.mg x = some (.ref C)) (hb : Binds X.K fd ps ds) (hd : Vals dvs ds) (hx : Passes CX X E)
    (ha : PA X (e :: es) t) (hdb : (x == ("__debug__" : Str)) = false := by decide) (he : starEach (e :: es) X.env = (false, eval e X.env) :: starEach es X.env := by rfl) (hpl : (backTo pos (starEach es X.env)).any (·.1) = false := by rfl) :
    PE X (.Call (.Name x p) (e :: es) [] pos) (tMake C sp dvs E t) := by
  refine ⟨fun pins s σ H Q I h => wpAny_Call_Name_kw (ld_glob I hg hm ?_ hdb)⟩
  refine PySem.W.callWith_K (h₀ := X.base) I.ok.mod.kin M.kp (thn (ha.run pos pins s σ H _ I h) fun us s1 z => ?_) he hpl
  obtain ⟨vs, H1, I1, r, q⟩ := z
  exact ⟨I1.kIn, run_make M F hr hb hd hx I1 r q⟩
end

/-- a def, by its body -/
theorem fn_of {CX : CXT} {P : Program} {w : World} {K : PySem.W.Frag} {mg : Str → Option Value} {base : Heap} {k : Nat} {f : Addr} {name qual : Str} {params : Arguments} {body : List Stmt} {scope : Scope} {dV kV doc pm cdv ct oc : Value} {an od : Option Addr}
    {osl : Array (Option Value)} {N ps : List Str} {sp : Sp} (lk : K.lookup f = some ⟨oc, od, .func (PySem.W.fnOf name qual params body scope dV kV doc pm an cdv ct), osl⟩) (hcd : PySem.W.codeIn K cdv qual = true) (S : FnScope N ps scope)
    (len : ∀ vs H Q E, sp vs H Q E → vs.length = ps.length)
    (hbody : ∀ (A : Around) (outer : List Env) (s : Shared) (H : Hp) (vs : List V) (Q : VK) (E : XK), Room k (A.deeper (envOfC qual scope s.heap.objs.size f cdv)) → sp vs H Q E →
      ∃ t, PSs (cxOf CX P w K mg base N qual scope f cdv A outer s H E) body t ∧ t { nx := fun _ H' => Q .non H', rt := Q } (start N vs) H) :
    FnOk P w K mg base CX (k + 1) f (PySem.W.fnOf name qual params body scope dV kV doc pm an cdv ct) ps sp := by
  refine ⟨len, fun A outer s H args us vs Q E hr e0 hb r hsp => ?_⟩
  have KX : K.In s.heap := e0.mod.kin.keeps fun b o e => (e0.bs b o e).1
  have hkind : ∀ y ∈ ps.zip us, scope.names.lookup y.1 = some .local ∨ (scope.names.lookup y.1 = some .cell ∧ ((cellsFrom (s.heap.objs.size + 1) scope.names []).lookup y.1).isSome = true) := by
    intro y hy
    exact (S.par y.1 (List.of_mem_zip (a := y.1) (b := y.2) hy).1).imp id fun q => ⟨q, PySem.W.cellsFrom_some _ _ _ (.inl q)⟩
  refine codeAny_call_function hr.depth (KX _ _ lk) rfl S.co S.gen rfl (PySem.W.codeRec_of KX hcd) (hb _ _ _ _ (wpAny_newFunctionEnv_cells S.kind hkind fun env he s1 x => ?_))
  subst he
  refine ⟨(e0.mod.nolimit.keeps fun b o e => (e0.bs b o e).1).keeps x.toInCall.keep, codeAny_func ?_⟩
  obtain ⟨t, ht, hq⟩ := hbody A outer s H vs Q E (hr.deeper _) hsp
  have I : Inv (cxOf CX P w K mg base N qual scope f cdv A outer s H E) [] (start N vs) H s1 := inv_start S hr.hd e0 (len _ _ _ _ hsp) r x
  refine wpAny_mono (ht.run [] s1 (start N vs) H _ I hq) (fun fl s' hs => ?_) fun e s' hs => hs
  cases fl with
  | ret u => obtain ⟨v, σ', H', J, rv, q⟩ := hs; exact ⟨v, H', J.os, J.bare, J.base, J.hok, rv, q⟩
  | next => obtain ⟨σ', H', J, q⟩ := hs; exact ⟨.non, H', J.os, J.bare, J.base, J.hok, rfl, q⟩
  | brk => obtain ⟨_, _, _, q⟩ := hs; exact q.elim
  | cont => obtain ⟨_, _, _, q⟩ := hs; exact q.elim
section
variable {P : Program} {w : World} {K : PySem.W.Frag} {mg : Str → Option Value} {base : Heap}
theorem _root_.L2.Fun.okG {x qual : Str} {st : Stmt} {f : Addr} {fd : FuncData} {N ps : List Str} {k : Nat} {sp : Sp} (F : Fun K x qual st f fd) (S : FnScope N ps (defScope st)) (len : ∀ vs H Q E, sp vs H Q E → vs.length = ps.length)
    (hbody : ∀ (cdv : Value) (A : Around) (outer : List Env) (s : Shared) (H : Hp) (vs : List V) (Q : VK) (E : XK), Room k (A.deeper (envOfC qual (defScope st) s.heap.objs.size f cdv)) → sp vs H Q E →
      ∃ t, PSs (cxOf CX0 P w K mg base N qual (defScope st) f cdv A outer s H E).nox (defBody st) t ∧ t { nx := fun _ H' => Q .non H', rt := Q } (start N vs) H) : FnOk P w K mg base CX0 (k + 1) f fd ps sp := by
  obtain ⟨oc, od, kV, doc, pm, an, cdv, ct, osl, rfl, lk, hcd⟩ := F.ex
  exact fn_of lk hcd S len fun A outer s H vs Q E hr hsp => let ⟨t, h, q⟩ := hbody cdv A outer s H vs Q E hr hsp; ⟨t, h.nox, q⟩
theorem _root_.L2.Fun.okXG {x qual : Str} {st : Stmt} {f : Addr} {fd : FuncData} {N ps : List Str} {k : Nat} {sp : Sp} (F : Fun K x qual st f fd) (S : FnScope N ps (defScope st)) (len : ∀ vs H Q E, sp vs H Q E → vs.length = ps.length)
    (hbody : ∀ (cdv : Value) (A : Around) (outer : List Env) (s : Shared) (H : Hp) (vs : List V) (Q : VK) (E : XK), Room k (A.deeper (envOfC qual (defScope st) s.heap.objs.size f cdv)) → sp vs H Q E →
      ∃ t, PSs (cxOf (L2.CX P w) P w K mg base N qual (defScope st) f cdv A outer s H E) (defBody st) t ∧ t { nx := fun _ H' => Q .non H', rt := Q } (start N vs) H) : FnOk P w K mg base (L2.CX P w) (k + 1) f fd ps sp := by
  obtain ⟨oc, od, kV, doc, pm, an, cdv, ct, osl, rfl, lk, hcd⟩ := F.ex
  exact fn_of lk hcd S len fun A outer s H vs Q E hr hsp => hbody cdv A outer s H vs Q E hr hsp
end

/-- the head: the promise of the law's def, at the heap behind the top -/
theorem law_call {P : Program} {w : World} {K : PySem.W.Frag} {mg mb : Str → Option Value} {CX : CXT} {k : Nat} {fa a : Addr} {fd : FuncData} {x : Str} {sp : Sp} {s₁ : Shared} {vs : List Value} {ns : List Int}
    (KX : K.In s₁.heap) (hns : s₁.heap.Ns mainGlobals mg) (hb : s₁.heap.Ns builtinsNs mb) (hbb : ∀ x : Str, x ≠ "__name__" → mb x = bootBuiltins x) (hlim : s₁.heap.NoLimit) (hg : s₁.gens = #[])
    (ha : s₁.heap.get? a = some { cls := .type "list", data := .seq vs.toArray }) (hi : IntsAre vs ns) (hl : ns.length ≤ sizeLine) (hr : Room k callerA)
    (F : ∀ base : Heap, K.In base → base.Ns mainGlobals mg → FnOk P w K mg base CX k fa fd [x] sp) (hbind : ∀ (s : Shared) (u : Value), BindsTo s fd ⟨[u], []⟩ [(x, u)])
    (hsp : ∀ H : Hp, Only H → SqL K H a (ns.map V.int) → sp [.ref a] H (fun v _ => v = .bl true) fun _ _ _ => False)
    (hCX : ∀ H e s', CX [] H s₁ (fun _ _ _ => False) e s' → False) :
    codeAny (model P w) callerA (.call (.ref fa) ⟨[.ref a], []⟩) (fun r s' => r = .ok (.ret (.bool true)) ∧ OldK s₁.heap s'.heap ∧ s'.os = s₁.os ∧ AllBare s'.gens) s₁ := by
  have rv := vals_ints hi
  have lenV := hi.length
  have main : ∀ H : Hp, Only H → SqL K H a (ns.map V.int) → HOk P w H s₁.heap → (∀ b, H b ≠ none → b = a) → (H a ≠ none → K.lookup a = none) →
      codeAny (model P w) callerA (.call (.ref fa) ⟨[.ref a], []⟩) (fun r s' => r = .ok (.ret (.bool true)) ∧ OldK s₁.heap s'.heap ∧ s'.os = s₁.os ∧ AllBare s'.gens) s₁ := by
    intro H hO hS hok hA hK
    have ata : ∀ {b : Addr}, H b ≠ none → b = a := fun q => hA _ q
    have below : ∀ {b : Addr} {m : Str → Option Value}, s₁.heap.Ns b m → (hidT s₁.heap H).Ns b m := by
      rintro b m ⟨o, es, ep, e, d, r⟩
      refine ⟨o, es, ep, hidT_get e (Classical.byContradiction fun q => ?_), d, r⟩
      obtain rfl := ata q
      rw [ha] at e
      cases e
      cases (show Data.seq vs.toArray _ = Data.dict es ep from d)
    have hKb : K.In (hidT s₁.heap H) := fun b o e => hidT_get (KX b o e) (Classical.byContradiction fun q => by
      obtain rfl := ata q
      rw [hK q] at e
      cases e)
    have e0 : Env0 P w K mg (hidT s₁.heap H) callerA [] s₁ H := ⟨rfl, ⟨hKb, below hns, ⟨mb, below hb, hbb⟩, let ⟨mc, h1, h2⟩ := hlim; ⟨mc, below h1, h2⟩⟩, fun _ _ e => of_hidT e, Nat.le_of_eq (hidT_size _ _), trivial,
      fun b z => absurd (show b ∈ ([] : List Addr) from z) (by simp), hok, .of_eq hg⟩
    refine codeAny_mono ((F _ hKb (below hns)).run callerA [] s₁ H ⟨[.ref a], []⟩ [.ref a] [.ref a] _ _ hr e0 (hbind s₁ (.ref a)) (.cons rfl .nil) (hsp H hO hS)) fun r s' h => ?_
    rcases r with e | fl
    · exact (hCX H e s' h).elim
    · cases fl with
      | ret u =>
        obtain ⟨v, H', os, bare, un, hok', r', q⟩ := h
        obtain rfl : v = .bl true := q
        obtain rfl : u = Value.bool true := r'
        refine ⟨rfl, OldK.of_keep fun b o e => ?_, os, bare⟩
        cases q : H b with
        | none => exact un.keep b o e q (by intro z; exact absurd (show b ∈ ([] : List Addr) from z) (by simp)) (by simp)
        | some u =>
          rcases hO b with z | ⟨ob, xs, z⟩
          · rw [q] at z; cases z
          · obtain ⟨e1, _⟩ := hok b _ z
            obtain ⟨e2, _⟩ := hok' b _ (un.frzs b ob _ z)
            rw [e] at e1
            cases e1
            exact e2
      | _ => exact False.elim h
  cases hk : K.lookup a with
  | some o =>
    have e := KX a o hk
    rw [ha] at e
    cases e
    exact main (fun _ => none) (fun _ => .inl rfl) (.inr ⟨_, vs.toArray, _, hk, rfl, rfl, rfl, by rw [List.size_toArray, lenV]; exact hl, by simpa using rv⟩) (fun b u z => by cases (show (none : Option HO) = some u from z)) (fun b z => absurd rfl z) fun z => absurd rfl z
  | none =>
    refine main (fun b => if b = a then some (.frz { cls := .type "list", data := .seq vs.toArray } (.lst (ns.map V.int))) else none) (fun b => ?_) (.inl (.inr ⟨{ cls := .type "list", data := .seq vs.toArray }, if_pos rfl⟩)) (fun b u z => ?_) (fun b z => ?_) fun _ => hk
    · by_cases q : b = a
      · exact .inr ⟨_, _, if_pos q⟩
      · exact .inl (if_neg q)
    · by_cases q : b = a
      · cases (if_pos q).symm.trans z
        subst q
        exact ⟨ha, by rw [List.length_map]; exact hl, vs, _, rv, ha⟩
      · cases (if_neg q).symm.trans z
    · exact Classical.byContradiction fun q => z (if_neg q)

/-- the end: what k_head leaves, from the law's promise -/
theorem walk_of {l : PySem.W.OpenLaw} {n k : Nat} {q : Program} {loose : List Str} {XP : (Str → Option Value) → Heap → Prop} {YP : World → Heap → Prop} {d : DefRec} {K : Params → PySem.W.Frag} {CX : World → CXT} {sp : World → Sp} {x : Str}
    (hn : l.most = some n) (hn2 : n ≤ sizeLine) (hdf : d.params.defaults = []) (hr : Room k callerA)
    (hY : ∀ (w : World) (h : Heap), YP w h → (K w.params).In h)
    (F : ∀ (w : World) (mg : Str → Option Value) (fa : Addr) (h : Heap), (K w.params).In h → h.Ns mainGlobals mg → mg d.name = some (.ref fa) →
      ∃ fd : FuncData, (∀ (s : Shared) (u : Value), BindsTo s fd ⟨[u], []⟩ [(x, u)]) ∧
        ∀ base : Heap, (K w.params).In base → base.Ns mainGlobals mg → FnOk l.prog w (K w.params) mg base (CX w) k fa fd [x] (sp w))
    (hsp : ∀ (w : World) (H : Hp) (a : Addr) (ns : List Int), ns.length ≤ n → Only H → SqL (K w.params) H a (ns.map V.int) → sp w [.ref a] H (fun v _ => v = .bl true) fun _ _ _ => False)
    (hCX : ∀ (w : World) (H : Hp) (s : Shared) (e : Value) (s' : Shared), CX w [] H s (fun _ _ _ => False) e s' → False) :
    PySem.W.WalkO q loose XP YP l.row.toRowW d [] (fun f vs => PySem.call f vs) := by
  refine Att.attach_call hn hdf fun w s₀ s₁ mg mb fa o pm cd doc a vs ns G Y ho hd hcd hmg hobj hints hlen hg => ?_
  obtain ⟨fd, hb, hF⟩ := F w mg fa _ (hY w _ Y) G.T.g hmg
  exact law_call (hY w _ Y) G.T.g G.T.b G.T.builtins G.T.nolimit hg hobj hints (Nat.le_trans hlen hn2) hr hF hb (fun H hO hS => hsp w H a ns hlen hO hS) fun H e s' => hCX w H s₁ e s'
end Wk
end
section
set_option Elab.async false
set_option linter.all false
set_option maxRecDepth 100000
/-! calls with keywords, calls of defs that may raise, errors that are made: over the room of Q0 -/
namespace Wk
open PySem PySem.Spec PyProof.Rows L2
section
variable {X : Cx} {CX : CXT} {k n : Nat} {f C : Addr} {fd : FuncData} {ps ks : List Str} {sp : Sp} {x m : Str} {p pos apos : Pos} {e o : Expr} {es : List Expr} {kws : List Keyword} {ta te : TE} {t tk : TA} {g : List Value → List Value → List Value} {gV : List V → List V → List V}
theorem run_fnN {E : XK} {pins : List (Addr × Obj)} {σ : L2.St} {H : Hp} {s : Shared} {Q : VK} {us ws : List Value} {vs zs : List V} (F : FnOk X.prog X.w X.K X.mg X.base CX k f fd ps sp) (hr : Room k X.A) (hb : KBn X.K fd ps n ks g gV) (hx : Passes CX X E)
    (I : Inv X pins σ H s) (r : Vals vs us) (rz : Vals zs ws) (l1 : vs.length = n) (l2 : zs.length = ks.length) (h : sp (gV vs zs) H Q E) : wpAny (model X.prog X.w) X.A (call (.ref f) us (ks.zip ws)) (EP X pins σ Q) X.xe s := by
  have rr := hb.rel r rz
  have run := F.run X.A X.stack s H ⟨us, ks.zip ws⟩ (g us ws) (gV vs zs) Q E hr I.env0 (hb.to s us ws I.kIn (r.length.symm.trans l1) (rz.length.symm.trans l2)) rr h
  refine wpAny_call (codeAny_mono run fun r s' hq => ?_)
  rcases r with e | fl
  · exact hx pins σ H s e s' I hq
  · cases fl with
    | ret u => exact I.after hq
    | _ => exact hq.elim
theorem pe_callN {E : XK} (F : FnOk X.prog X.w X.K X.mg X.base CX k f fd ps sp) (hr : Room k X.A) (hg : Gl X x) (hm : X.mg x = some (.ref f)) (hk : PySem.W.keepIn X.K (.ref f) = true) (hb : KBn X.K fd ps n ks g gV) (hx : Passes CX X E)
    (ha : PA X (e :: es) t) (hkw : PK X kws tk) (hall : (backToKw pos (keywordEach kws X.env)).all (·.1.isSome) = true := by rfl) (hks : (backToKw pos (keywordEach kws X.env)).filterMap (·.1) = ks := by rfl)
    (hdb : (x == ("__debug__" : Str)) = false := by decide) (he : starEach (e :: es) X.env = (false, eval e X.env) :: starEach es X.env := by rfl)
    (hpl : ((backTo pos (starEach (e :: es) X.env)).any (·.1) || (backToKw pos (keywordEach kws X.env)).any (·.1.isNone)) = false := by rfl) :
    PE X (.Call (.Name x p) (e :: es) kws pos) (tCallN n ks.length sp gV E t tk) := by
  refine ⟨fun pins s σ H Q I h => wpAny_Call_Name_kw (ld_glob I hg hm ?_ hdb)⟩
  refine PySem.W.callWith_KW (h₀ := X.base) I.ok.mod.kin hk hall (thn (ha.run pos pins s σ H _ I h) fun us s1 z => ?_) hpl he
  obtain ⟨vs, H1, I1, r, q⟩ := z
  refine thn (hkw.run pos pins s1 σ H1 _ I1 q) fun ws s2 z2 => ?_
  obtain ⟨zs, H2, I2, rz, l1, l2, q2⟩ := z2
  rw [hks]
  exact ⟨I2.kIn, run_fnN F hr hb hx I2 r rz l1 l2 q2⟩
theorem run_fnS {E : L2.St → XK} {pins : List (Addr × Obj)} {σ : L2.St} {H : Hp} {s : Shared} {Q : VK} {us : List Value} {vs : List V} (F : FnOk X.prog X.w X.K X.mg X.base CX k f fd ps sp) (hr : Room k X.A) (hb : Binds X.K fd ps []) (hx : PassesAt CX X σ (E σ))
    (I : Inv X pins σ H s) (r : Vals vs us) (h : sp vs H Q (E σ)) : wpAny (model X.prog X.w) X.A (call (.ref f) us) (EP X pins σ Q) X.xe s := by
  have ll : us.length = ps.length := r.length ▸ F.len _ _ _ _ h
  have b := hb s us I.kIn (by rw [List.append_nil]; exact ll)
  rw [List.append_nil] at b
  refine wpAny_call (codeAny_mono (F.run X.A X.stack s H ⟨us, []⟩ us vs Q (E σ) hr I.env0 b r h) fun r s' hq => ?_)
  rcases r with e | fl
  · exact hx pins H s e s' I hq
  · cases fl with
    | ret u => exact I.after hq
    | _ => exact hq.elim
theorem pe_callS {E : L2.St → XK} (F : FnOk X.prog X.w X.K X.mg X.base CX k f fd ps sp) (hr : Room k X.A) (hg : Gl X x) (hm : X.mg x = some (.ref f)) (hk : PySem.W.keepIn X.K (.ref f) = true) (hb : Binds X.K fd ps []) (hx : ∀ σ, PassesAt CX X σ (E σ))
    (ha : PA X (e :: es) t) (hdb : (x == ("__debug__" : Str)) = false := by decide) (he : starEach (e :: es) X.env = (false, eval e X.env) :: starEach es X.env := by rfl) (hpl : (backTo pos (starEach es X.env)).any (·.1) = false := by rfl) :
    PE X (.Call (.Name x p) (e :: es) [] pos) (tCallS sp E t) := by
  refine ⟨fun pins s σ H Q I h => wpAny_Call_Name_kw (ld_glob I hg hm ?_ hdb)⟩
  refine PySem.W.callWith_K (h₀ := X.base) I.ok.mod.kin hk (thn (ha.run pos pins s σ H _ I h) fun us s1 z => ?_) he hpl
  obtain ⟨vs, H1, I1, r, q⟩ := z
  exact ⟨I1.kIn, run_fnS F hr hb (hx σ) I1 r q⟩
/-- an own error is made -/
theorem pmk_oex {fI : Addr} {ds : List Value} {dvs : List V} (T : OexC X.K C) (iC : PySem.W.findIn X.K (.ref C) "__init__" = some (some (.ref fI))) (tI : PySem.W.typeIn X.K (.ref fI) = some (.type "function"))
    (F1 : FnOk X.prog X.w X.K X.mg X.base CX k fI fd ps sp) (hr : Room (k + 1) X.A) (hb : Binds X.K fd ps ds) (hd : Vals dvs ds) (hx : Passes CX X (fun _ _ _ => False)) (hg : Gl X x) (hm : X.mg x = some (.ref C)) (ha : PA X (e :: es) t)
    (hdb : (x == ("__debug__" : Str)) = false := by decide) (he : starEach (e :: es) X.env = (false, eval e X.env) :: starEach es X.env := by rfl) (hpl : (backTo pos (starEach es X.env)).any (·.1) = false := by rfl) :
    PMk X (.Call (.Name x p) (e :: es) [] pos) (tMkO C sp dvs t) := by
  intro pins s σ H Q I h
  obtain ⟨nm, q, N, bs, bm, sn, sub, ab, col, dd, k0, k1, k2, k3, k5, hC, hbm⟩ := T.cls
  refine wpAny_Call_Name_kw (ld_glob I hg hm ?_ hdb)
  refine PySem.W.callWith_K (h₀ := X.base) I.ok.mod.kin T.kC (thn (ha.run pos pins s σ H _ I h) fun us s1 z => ?_) he hpl
  obtain ⟨vs, H1, I1, r1, hz, q1⟩ := z
  refine ⟨I1.kIn, ?_⟩
  show wpAny _ _ (call (.ref C) us) _ _ _
  obtain ⟨hp, g, dr, tk, os⟩ := s1
  have up : hp.objs.size ≤ hp.objs.size + 1 := Nat.le_succ _
  have q0 := q1 (hp.objs.size + 1) (I1.hok.fresh up)
  have kk : ∀ b o, hp.get? b = some o → ((hp.push (PySem.W.kdv_tup us)).push (PySem.HandSPX.excO C hp.objs.size)).get? b = some o := fun _ _ e => Heap.get?_push_of_some _ (Heap.get?_push_of_some _ e)
  have hget : ((hp.push (PySem.W.kdv_tup us)).push (PySem.HandSPX.excO C hp.objs.size)).get? (hp.objs.size + 1) = some (PySem.HandSPX.excO C hp.objs.size) := by heap_get
  have I2 : Inv X pins σ (upd H1 (hp.objs.size + 1) (exo (hp.objs.size + 1) C none)) ⟨(hp.push (PySem.W.kdv_tup us)).push (PySem.HandSPX.excO C hp.objs.size), g, dr, tk, os⟩ :=
    I1.laid (t' := tk) (a := hp.objs.size + 1) (o := exo (hp.objs.size + 1) C none) (h' := (hp.push (PySem.W.kdv_tup us)).push (PySem.HandSPX.excO C hp.objs.size)) kk up (exo_ok hget)
  have rr : Vals (V.ref (hp.objs.size + 1) :: (vs ++ dvs)) (Value.ref (hp.objs.size + 1) :: (us ++ ds)) := .cons rfl (r1.append hd)
  have ll : (Value.ref (hp.objs.size + 1) :: us ++ ds).length = ps.length := by
    have e := rr.length
    rw [F1.len _ _ _ _ q0] at e
    exact e.symm
  have few : us.length ≤ sizeLine := by
    rw [← Paired.length r1, sizeLine_eq]
    omega
  have run := F1.run _ X.stack _ _ ⟨Value.ref (hp.objs.size + 1) :: us, []⟩ _ _ _ (fun _ _ _ => False) (hr.make C us []) (I2.env0.make C us []) (hb _ (Value.ref (hp.objs.size + 1) :: us) I2.kIn ll) rr q0
  refine wpAny_call (PySem.HandSPX.call_own F.excBase_ValueError (fun Y => PySem.HandSPX.refsVE_contains Y bm hbm) (I1.kIn _ _ hC) (PySem.W.looks_findIn I1.kIn iC) (fun self => PySem.W.bind_fn I1.kIn self tI) few (codeAny_mono run fun r s' hq => ?_))
  rcases r with er | fl
  · exact hx pins σ _ _ er s' I2 hq
  · cases fl with
    | ret u =>
      obtain ⟨v, H2, os2, bare2, un2, hok2, rv, ev, d, fs, ea, ed, hd1, q2⟩ := hq
      subst ev
      obtain ⟨h2, g2, d2, t2, os'⟩ := s'
      exact ⟨rv, mk_end (raises_own T.exC T.tyC) I1 up kk un2 hok2 os2 bare2 ea ed hd1 q2⟩
    | _ => exact hq.elim
end
end Wk
end
section
set_option Elab.async false
set_option linter.all false
set_option maxRecDepth 100000
/-! Short words of my own over the hand layer: defs by name (At, Keep), readings step by step, heaps but for one place. -/
namespace Wk
open PySem PySem.Spec PyProof.Rows L2

section
variable {P : Program} {w : World} {K : PySem.W.Frag} {mg : Str → Option Value} {base : Heap}
/-- the def x of the text, as the top left it -/
def At (K : PySem.W.Frag) (mg : Str → Option Value) (x : Str) (st : Stmt) (ps : List Str) : Prop :=
  ∃ f fd, Fun K x x st f fd ∧ mg x = some (.ref f) ∧ Binds K fd ps []
/-- x keeps sp and raises nothing -/
def Keep (P : Program) (w : World) (K : PySem.W.Frag) (mg : Str → Option Value) (base : Heap) (k : Nat) (x : Str) (ps : List Str) (sp : Sp) : Prop :=
  ∃ f fd, FnOk P w K mg base CX0 k f fd ps sp ∧ mg x = some (.ref f) ∧ PySem.W.keepIn K (.ref f) = true ∧ Binds K fd ps []
theorem Keep.of {x : Str} {st : Stmt} {N ps : List Str} {k : Nat} {sp : Sp} (a : At K mg x st ps) (S : FnScope N ps (defScope st)) (len : ∀ vs H Q E, sp vs H Q E → vs.length = ps.length)
    (hbody : ∀ (f : Addr) (cdv : Value) (A : Around) (outer : List Env) (s : Shared) (H : Hp) (vs : List V) (Q : VK) (E : XK), Room k (A.deeper (envOfC x (defScope st) s.heap.objs.size f cdv)) → sp vs H Q E →
      ∃ t, PSs (cxOf CX0 P w K mg base N x (defScope st) f cdv A outer s H E).nox (defBody st) t ∧ t { nx := fun _ H' => Q .non H', rt := Q } (start N vs) H) : Keep P w K mg base (k + 1) x ps sp := by
  obtain ⟨f, fd, F, g, b⟩ := a
  exact ⟨f, fd, F.okG S len (fun cdv A outer s H vs Q E hr h => hbody f cdv A outer s H vs Q E hr h), g, F.kp, b⟩
theorem Keep.mono {x : Str} {ps : List Str} {j k : Nat} {sp : Sp} (G : Keep P w K mg base j x ps sp) (h : j ≤ k) : Keep P w K mg base k x ps sp := by
  obtain ⟨f, fd, F, r⟩ := G
  exact ⟨f, fd, F.mono h, r⟩
theorem Keep.imp {x : Str} {ps : List Str} {k : Nat} {sp sp' : Sp} (G : Keep P w K mg base k x ps sp) (h : ∀ vs H Q E, sp' vs H Q E → sp vs H Q E) : Keep P w K mg base k x ps sp' := by
  obtain ⟨f, fd, F, r⟩ := G
  exact ⟨f, fd, F.imp h, r⟩
end
section
variable {X : Cx} {k : Nat} {x : Str} {ps : List Str} {sp : Sp} {p pos : Pos} {e : Expr} {es : List Expr} {t : TA}
theorem pe_k (G : Keep X.prog X.w X.K X.mg X.base k x ps sp) (hr : Room k X.A) (hg : Gl X x) (ha : PA X (e :: es) t) (hdb : (x == ("__debug__" : Str)) = false := by decide)
    (he : starEach (e :: es) X.env = (false, eval e X.env) :: starEach es X.env := by rfl) (hpl : (backTo pos (starEach es X.env)).any (·.1) = false := by rfl) :
    PE X (.Call (.Name x p) (e :: es) [] pos) (tCall sp [] E0 t) := by
  obtain ⟨f, fd, F, g, kp, b⟩ := G
  exact pe_call F hr hg g kp b .nil pass0 ha hdb he hpl
theorem pe_k0 (G : Keep X.prog X.w X.K X.mg X.base k x ps sp) (hr : Room k X.A) (hg : Gl X x) (hdb : (x == ("__debug__" : Str)) = false := by decide) : PE X (.Call (.Name x p) [] [] pos) (tCall sp [] E0 tNil) := by
  obtain ⟨f, fd, F, g, kp, b⟩ := G
  exact pe_call0 F hr hg g kp b .nil pass0 hdb
end

/-! ### the heap but for one place -/
/-- what was tracked stands, but perhaps at p -/
theorem szl {n : Nat} (h : n ≤ 100000) : n ≤ sizeLine := Nat.le_trans h (by decide)
theorem szlt {n : Nat} (h : n < 100000) : n < sizeLine := Nat.lt_of_lt_of_le h (by decide)
def ExP (p : Addr) (H H' : Hp) : Prop := ∀ b o, b ≠ p → H b = some o → H' b = some o
theorem ExP.refl (p : Addr) (H : Hp) : ExP p H H := fun _ _ _ h => h
theorem ExP.trans {p : Addr} {H H1 H2 : Hp} (a : ExP p H H1) (b : ExP p H1 H2) : ExP p H H2 := fun c o n h => b c o n (a c o n h)
theorem ExP.upd {p : Addr} {H : Hp} {o : HO} : ExP p H (upd H p o) := fun b u n h => by rw [upd_ne n]; exact h
theorem ExP.new {p q : Addr} {H : Hp} {o : HO} (h : H q = none) : ExP p H (L2.upd H q o) := fun b u n e => by rw [upd_ne (ne_of_none e h)]; exact e
theorem _root_.L2.Same.exP {p : Addr} {H H' : Hp} (h : Same H H') : ExP p H H' := fun b o _ e => h b o e
theorem same_new {q : Addr} {H : Hp} {o : HO} (h : H q = none) : Same H (L2.upd H q o) := fun b u e => by rw [upd_ne (ne_of_none e h)]; exact e

/-! ### readings, one step each -/
section
variable {σ : L2.St} {H : Hp} {D : Ends} {ta tb te tc : TE} {t u : TS} {tt tt' : TT} {Q : VK} {QT : Bool → Hp → Prop} {i : Nat} {v x y : V}
theorem r_seq (h : t { D with nx := u D } σ H) : tSeq t u D σ H := h
theorem r_next (h : D.nx σ H) : tNext D σ H := h
theorem r_set (h : te σ H fun v H' => D.nx (σ.set i (some v)) H') : tAsg te (gName i) D σ H := h
theorem r_asgS {tv to ti : TE} {ts : TSet} (h : tv σ H fun v H1 => to σ H1 fun o H2 => ti σ H2 fun i H3 => ts o i v H3 fun H4 => D.nx σ H4) : tAsg tv (gSub to ti ts) D σ H := h
theorem r_ret (h : te σ H D.rt) : tRet te D σ H := h
theorem r_drop (h : te σ H fun _ H' => D.nx σ H') : tDrop te D σ H := h
theorem r_if {tc : TT} (h : tc σ H fun b H1 => if b = true then t D σ H1 else u D σ H1) : tIfS tc t u D σ H := h
theorem r_var (e : σ[i]? = some (some v)) (h : Q v H) : tVar i σ H Q := ⟨v, e, h⟩
theorem r_c (h : Q v H) : tC v σ H Q := h
theorem r_op {r : R2} (h : ta σ H fun x H1 => tb σ H1 fun y H2 => r x y H2 Q) : tOp r ta tb σ H Q := h
theorem r_un {r : V → Hp → VK → Prop} (h : ta σ H fun x H1 => r x H1 Q) : tUn r ta σ H Q := h
theorem r_I0 {g : Int → Int → V} {a b : Int} (h : Q (g a b) H) : rI0 g (.int a) (.int b) H Q := ⟨a, b, rfl, rfl, h⟩
theorem r_I {C : Int → Int → Prop} {g : Int → Int → V} {a b : Int} (c : C a b) (h : Q (g a b) H) : rI C g (.int a) (.int b) H Q := ⟨a, b, rfl, rfl, c, h⟩
theorem r_U {g : Int → V} {a : Int} (h : Q (g a) H) : rU g (.int a) H Q := ⟨a, rfl, h⟩
theorem r_eq (s : scal x y = true) (h : Q (.bl (decide (x = y))) H) : rEq x y H Q := ⟨s, h⟩
theorem r_ne (s : scal x y = true) (h : Q (.bl (!decide (x = y))) H) : rNe x y H Q := ⟨s, h⟩
theorem r_test {te : TE} (h : te σ H fun x H' => ∃ k, x = .bl k ∧ QT k H') : tTest te σ H QT := h
theorem r_B {te : TE} (h : te σ H fun x H' => ∃ k, x = .bl k ∧ QT k H') : tB te σ H QT := h
theorem r_k {b : Bool} {R : Bool → Prop} (h : R b) : ∃ k, V.bl b = .bl k ∧ R k := ⟨b, rfl, h⟩
theorem r_if1 {c A B : Prop} [Decidable c] (h1 : c → A) (h2 : ¬ c → B) : if decide c = true then A else B := by
  by_cases h : c
  · rw [if_pos (decide_eq_true h)]; exact h1 h
  · rw [if_neg (by simpa using h)]; exact h2 h
theorem r_ifN {c A B : Prop} [Decidable c] (h1 : ¬ c → A) (h2 : c → B) : if (!decide c) = true then A else B := by
  by_cases h : c
  · rw [if_neg (by simpa using h)]; exact h2 h
  · rw [if_pos (by simpa using h)]; exact h1 h
theorem r_ifI {a b : Int} {A B : Prop} (h1 : a = b → A) (h2 : a ≠ b → B) : if decide (V.int a = V.int b) = true then A else B :=
  r_if1 (fun h => h1 (V.int.inj h)) (fun h => h2 fun e => h (by rw [e]))
theorem r_ifNI {a b : Int} {A B : Prop} (h1 : a ≠ b → A) (h2 : a = b → B) : if (!decide (V.int a = V.int b)) = true then A else B :=
  r_ifN (fun h => h1 fun e => h (by rw [e])) (fun h => h2 (V.int.inj h))
theorem r_ifB {b : Bool} {A B : Prop} (h1 : b = true → A) (h2 : b = false → B) : if b = true then A else B := by
  cases b with
  | true => exact h1 rfl
  | false => exact h2 rfl
theorem r_ifnB {b : Bool} {A B : Prop} (h1 : b = false → A) (h2 : b = true → B) : if (!b) = true then A else B := by
  cases b with
  | true => exact h2 rfl
  | false => exact h1 rfl
theorem r_T {A B : Prop} (h : A) : if true = true then A else B := h
theorem r_F {A B : Prop} (h : B) : if false = true then A else B := h
theorem r_not (h : tt σ H fun c H1 => QT (!c) H1) : tNot tt σ H QT := h
theorem r_and (h : tt σ H fun c H1 => if c = true then tt' σ H1 QT else QT false H1) : tAnd tt tt' σ H QT := h
theorem r_or (h : tt σ H fun c H1 => if c = true then QT true H1 else tt' σ H1 QT) : tOr tt tt' σ H QT := h
theorem r_andV (h : ta σ H fun x H1 => ∃ c, x = .bl c ∧ if c = true then tb σ H1 Q else Q (.bl false) H1) : tAndV ta tb σ H Q := h
theorem r_orV (h : ta σ H fun x H1 => ∃ c, x = .bl c ∧ if c = true then Q (.bl true) H1 else tb σ H1 Q) : tOrV ta tb σ H Q := h
theorem r_notV (h : ta σ H fun x H1 => ∃ c, x = .bl c ∧ Q (.bl (!c)) H1) : tNotV ta σ H Q := h
theorem r_nil {QA : List V → Hp → Prop} (h : QA [] H) : tNil σ H QA := h
theorem r_cons {ta : TE} {tr : TA} {QA : List V → Hp → Prop} (h : ta σ H fun x H1 => tr σ H1 fun xs H2 => QA (x :: xs) H2) : tCons ta tr σ H QA := h
theorem r_CB {r : List V → Hp → VK → Prop} {ta : TA} (h : ta σ H fun vs H1 => r vs H1 Q) : tCB r ta σ H Q := h
theorem r_lst {ta : TA} (h : ta σ H fun xs H1 => xs.length ≤ sizeLine ∧ ∀ p, H1 p = none → Q (.ref p) (upd H1 p (.lst xs))) : tLst ta σ H Q := h
theorem r_tup {ta : TA} (h : ta σ H fun xs H1 => xs.length ≤ sizeLine ∧ ∀ p, H1 p = none → Q (.ref p) (upd H1 p (.tup xs))) : tTup ta σ H Q := h
theorem r_call {sp : Sp} {ta : TA} (h : ta σ H fun vs H1 => sp (vs ++ []) H1 Q E0) : tCall sp [] E0 ta σ H Q := h
theorem r_BM {K : PySem.W.Frag} {T : String} {r : V → List V → Hp → VK → Prop} {ta : TA} (h : te σ H fun x H1 => tyV K T x H1 ∧ ta σ H1 fun xs H2 => r x xs H2 Q) : tBM K T r te ta σ H Q := h
theorem r_BM0 {K : PySem.W.Frag} {T : String} {r : V → List V → Hp → VK → Prop} (h : te σ H fun x H1 => tyV K T x H1 ∧ r x [] H1 Q) : tBM0 K T r te σ H Q := h
theorem r_ixL {K : PySem.W.Frag} {p : Addr} {xs : List V} {j : Int} (hs : SqL K H p xs) (ha : atI xs j = some v) (h : Q v H) : rIxL K (.ref p) (.int j) H Q := ⟨p, xs, j, v, rfl, rfl, hs, ha, h⟩
theorem r_ixT {K : PySem.W.Frag} {p : Addr} {xs : List V} {j : Int} (hs : SqT K H p xs) (ha : atI xs j = some v) (h : Q v H) : rIxT K (.ref p) (.int j) H Q := ⟨p, xs, j, v, rfl, rfl, hs, ha, h⟩
theorem r_setL {p : Addr} {xs : List V} {k : Int} {j : Nat} {QS : Hp → Prop} (hs : H p = some (.lst xs)) (ha : ixN xs.length k = some j) (h : QS (upd H p (.lst (xs.set j v)))) : rSetL (.ref p) (.int k) v H QS := ⟨p, xs, k, j, rfl, rfl, hs, ha, h⟩
end
end Wk
namespace Wk
open PySem PySem.Spec PyProof.Rows L2
section
variable {K : PySem.W.Frag} {H : Hp} {Q : VK} {p : Addr} {xs : List V}
/-- list(l), tuple(l), len(l) -/
theorem r_listL (hs : SqL K H p xs) (h : ∀ l, H l = none → Q (.ref l) (upd H l (.lst xs))) : ∃ p' ys, [V.ref p] = [V.ref p'] ∧ (SqL K H p' ys ∨ SqT K H p' ys) ∧ ∀ l, H l = none → Q (.ref l) (upd H l (.lst ys)) := ⟨p, xs, rfl, .inl hs, h⟩
theorem r_listT (hs : SqT K H p xs) (h : ∀ l, H l = none → Q (.ref l) (upd H l (.lst xs))) : ∃ p' ys, [V.ref p] = [V.ref p'] ∧ (SqL K H p' ys ∨ SqT K H p' ys) ∧ ∀ l, H l = none → Q (.ref l) (upd H l (.lst ys)) := ⟨p, xs, rfl, .inr hs, h⟩
theorem r_tupL (hs : SqL K H p xs) (h : ∀ l, H l = none → Q (.ref l) (upd H l (.tup xs))) : ∃ p' ys, [V.ref p] = [V.ref p'] ∧ ((SqL K H p' ys ∧ ∀ l, H l = none → Q (.ref l) (upd H l (.tup ys))) ∨ (SqT K H p' ys ∧ Q (.ref p') H)) := ⟨p, xs, rfl, .inl ⟨hs, h⟩⟩
theorem r_tupT (hs : SqT K H p xs) (h : Q (.ref p) H) : ∃ p' ys, [V.ref p] = [V.ref p'] ∧ ((SqL K H p' ys ∧ ∀ l, H l = none → Q (.ref l) (upd H l (.tup ys))) ∨ (SqT K H p' ys ∧ Q (.ref p') H)) := ⟨p, xs, rfl, .inr ⟨hs, h⟩⟩
theorem r_lenL (hs : SqL K H p xs) (h : Q (.int xs.length) H) : ∃ p' ys, [V.ref p] = [V.ref p'] ∧ (SqL K H p' ys ∨ SqT K H p' ys) ∧ Q (.int ys.length) H := ⟨p, xs, rfl, .inl hs, h⟩
theorem r_lenT (hs : SqT K H p xs) (h : Q (.int xs.length) H) : ∃ p' ys, [V.ref p] = [V.ref p'] ∧ (SqL K H p' ys ∨ SqT K H p' ys) ∧ Q (.int ys.length) H := ⟨p, xs, rfl, .inr hs, h⟩
theorem r_abs {i : Int} (h : Q (.int (if i < 0 then -i else i)) H) : ∃ j, [V.int i] = [V.int j] ∧ Q (.int (if j < 0 then -j else j)) H := ⟨i, rfl, h⟩
theorem r_int {i : Int} (h : Q (.int i) H) : (∃ j, [V.int i] = [V.int j] ∧ Q (.int j) H) ∨ ∃ k, [V.int i] = [V.bl k] ∧ Q (.int (if k then 1 else 0)) H := .inl ⟨i, rfl, h⟩
theorem r_intB {b : Bool} (h : Q (.int (if b then 1 else 0)) H) : (∃ j, [V.bl b] = [V.int j] ∧ Q (.int j) H) ∨ ∃ k, [V.bl b] = [V.bl k] ∧ Q (.int (if k then 1 else 0)) H := .inr ⟨b, rfl, h⟩
theorem r_max2 {i j : Int} (h : Q (.int (if j > i then j else i)) H) : ∃ i' j', [V.int i, V.int j] = [V.int i', V.int j'] ∧ Q (.int (if j' > i' then j' else i')) H := ⟨i, j, rfl, h⟩
theorem r_append {v : V} (hs : H p = some (.lst xs)) (hz : xs.length < sizeLine) (h : Q .non (upd H p (.lst (xs ++ [v])))) : rAppend (.ref p) [v] H Q := ⟨p, xs, v, rfl, rfl, hs, hz, h⟩
theorem r_tyL (h : H p = some (.lst xs)) {R : Prop} (r : R) : tyV K "list" (.ref p) H ∧ R := ⟨.inl ⟨rfl, _, SqL.of h⟩, r⟩
end
end Wk
namespace Wk
open PySem PySem.Spec PyProof.Rows L2
section
variable {H : Hp} {Q : VK} {a b : Int} {g : Int → Int → V}
theorem r_mod (c : 0 < b) (h : Q (g a b) H) : rI (fun _ j => 0 < j) g (.int a) (.int b) H Q := ⟨a, b, rfl, rfl, c, h⟩
theorem r_pow (c : CPow a b) (h : Q (g a b) H) : rI CPow g (.int a) (.int b) H Q := ⟨a, b, rfl, rfl, c, h⟩
theorem r_mul (c : CMul a b) (h : Q (g a b) H) : rI CMul g (.int a) (.int b) H Q := ⟨a, b, rfl, rfl, c, h⟩
theorem r_div (c : CDivW a b) (h : Q (g a b) H) : rI CDivW g (.int a) (.int b) H Q := ⟨a, b, rfl, rfl, c, h⟩
/-- an item of a list of ints -/
theorem at_map {ns : List Int} {i : Int} (h0 : 0 ≤ i) (h : i < ns.length) : ∃ z, ns[i.toNat]? = some z ∧ atI (ns.map V.int) i = some (.int z) := by
  have hj : i.toNat < ns.length := by omega
  refine ⟨ns[i.toNat], List.getElem?_eq_getElem hj, ?_⟩
  have e : i = (i.toNat : Int) := by omega
  exact at_of e (by rw [List.getElem?_map, List.getElem?_eq_getElem hj]; rfl)
theorem at_nat {xs : List V} {i : Int} {v : V} (h0 : 0 ≤ i) (h : xs[i.toNat]? = some v) : atI xs i = some v := at_of (j := i.toNat) (by omega) h
end
end Wk
/-! the layer's rules with the written part named, so that a reading within a comprehension does not hang on its block -/
namespace Wk
open PySem PySem.Spec PyProof.Rows L2
section
variable {X : Cx} {e o l a b : Expr} {es : List Expr} {te to tl ta tb : TE} {t : TA} {tg : Expr} {T : String} {name : Str} {id : String} {r : V → List V → Hp → VK → Prop} {apos pos : Pos}
def rTupOf (K : PySem.W.Frag) : List V → Hp → VK → Prop := fun xs H Q => ∃ p ys, xs = [.ref p] ∧ ((SqL K H p ys ∧ ∀ l, H l = none → Q (.ref l) (upd H l (.tup ys))) ∨ (SqT K H p ys ∧ Q (.ref p) H))
def rListOf (K : PySem.W.Frag) : List V → Hp → VK → Prop := fun xs H Q => ∃ p ys, xs = [.ref p] ∧ (SqL K H p ys ∨ SqT K H p ys) ∧ ∀ l, H l = none → Q (.ref l) (upd H l (.lst ys))
def rLenOf (K : PySem.W.Frag) : List V → Hp → VK → Prop := fun xs H Q => ∃ p ys, xs = [.ref p] ∧ (SqL K H p ys ∨ SqT K H p ys) ∧ Q (.int ys.length) H
theorem c_tup (K : PySem.W.Frag) (hK : X.K = K := by rfl) : CallR X (.type "tuple") (rTupOf K) := by subst hK; exact call_tuple_of
theorem c_list (K : PySem.W.Frag) (hK : X.K = K := by rfl) : CallR X (.type "list") (rListOf K) := by subst hK; exact call_list_of
theorem c_len (K : PySem.W.Frag) (hK : X.K = K := by rfl) : CallR X (.builtin "len") (rLenOf K) := by subst hK; exact call_len_seq
theorem x_list (K : PySem.W.Frag) (hK : X.K = K := by rfl) : IxR X (rIxL K) := by subst hK; exact ix_list
theorem x_tup (K : PySem.W.Frag) (hK : X.K = K := by rfl) : IxR X (rIxT K) := by subst hK; exact ix_tup
theorem x_lt (K : PySem.W.Frag) (hK : X.K = K := by rfl) : IxR X (fun x y H Q => rIxL K x y H Q ∨ rIxT K x y H Q) := by subst hK; exact ix_list.or ix_tup
theorem i_list (K : PySem.W.Frag) (hl : PE X l tl) (hK : X.K = K := by rfl) : PI X tg l (iList K tl) := by subst hK; exact pi_list hl
theorem i_tup (K : PySem.W.Frag) (hl : PE X l tl) (hK : X.K = K := by rfl) : PI X tg l (iTup K tl) := by subst hK; exact pi_tup hl
theorem PI.or {wi wi' : TI} (h : PI X tg l wi) (h' : PI X tg l wi') : PI X tg l (fun σ H R => wi σ H R ∨ wi' σ H R) := ⟨fun pins s σ H R I q => q.elim (h.run pins s σ H R I) (h'.run pins s σ H R I)⟩
theorem i_seq (K : PySem.W.Frag) (hl : PE X l tl) (hK : X.K = K := by rfl) : PI X tg l (fun σ H R => iList K tl σ H R ∨ iTup K tl σ H R) := PI.or (i_list K hl hK) (i_tup K hl hK)
theorem e_bm0 (K : PySem.W.Frag) (pa : PlainAttrs T) (slot : Slot T name id) (hty : typeOf (.builtin id) = pure (.type "method_descriptor")) (hm : MtR X id r) (ho : PE X o to)
    (hbase : attributeBase o name X.env (eval o X.env) = eval o X.env := by rfl) (hline : (apos.endLine == pos.line) = true := by rfl) (hK : X.K = K := by rfl) : PE X (.Call (.Attribute o name apos) [] [] pos) (tBM0 K T r to) := by subst hK; exact pe_bm0 pa slot hty hm ho hbase hline
theorem c_inL (K : PySem.W.Frag) (hK : X.K = K := by rfl) : OpR X (compareOp .In) (rIn K false) := by subst hK; exact op_in_seq
theorem c_notIn (K : PySem.W.Frag) (hK : X.K = K := by rfl) : OpR X (compareOp .NotIn) (rIn K true) := by subst hK; exact op_notIn_seq
theorem c_eqD (K : PySem.W.Frag) (hu : X.A.units + 64 < cLine) (hK : X.K = K := by rfl) : OpR X (compareOp .Eq) (rEqD K) := by subst hK; exact op_eqD hu
theorem c_neD (K : PySem.W.Frag) (hu : X.A.units + 64 < cLine) (hK : X.K = K := by rfl) : OpR X (compareOp .NotEq) (rNeD K) := by subst hK; exact op_neD hu
theorem m_index (K : PySem.W.Frag) (hK : X.K = K := by rfl) : MtR X "list.index" (rIndex K) := by subst hK; exact mt_index
end
end Wk
namespace Wk
open PySem PySem.Spec PyProof.Rows L2
section
variable {X : Cx} {e o l a b : Expr} {es : List Expr} {te to tl ta tb : TE} {t : TA} {tg : Expr} {T : String} {name f : Str} {id : String} {r : V → List V → Hp → VK → Prop} {apos cpos pos : Pos}
theorem e_bm (K : PySem.W.Frag) (pa : PlainAttrs T) (slot : Slot T name id) (hty : typeOf (.builtin id) = pure (.type "method_descriptor")) (hm : MtR X id r) (ho : PE X o to) (ha : PA X (e :: es) t)
    (hbase : attributeBase o name X.env (eval o X.env) = eval o X.env := by rfl)
    (hfew : ((backTo cpos (starEach (e :: es) X.env)).all (fun x => !x.1) && (backToKw cpos (keywordEach [] X.env)).all (fun x => x.1.isSome)
      && decide ((e :: es).length + ([] : List Keyword).length + (if ([] : List Keyword).isEmpty then 0 else 1) < 30)) = true := by rfl)
    (hline : (apos.endLine == cpos.line) = true := by rfl) (hs : starEach (e :: es) X.env = (false, eval e X.env) :: starEach es X.env := by rfl) (hplain : (backTo cpos (starEach es X.env)).any (·.1) = false := by rfl)
    (hK : X.K = K := by rfl) : PE X (.Call (.Attribute o name apos) (e :: es) [] cpos) (tBM K T r to t) := by subst hK; exact pe_bm pa slot hty hm ho ha hbase hfew hline hs hplain
theorem e_fld (K : PySem.W.Frag) (he : PE X e ta) (hb : attributeBase e f X.env (eval e X.env) = eval e X.env) (hK : X.K = K := by rfl) : PE X (.Attribute e f pos) (tFld K ta f) := by subst hK; exact pe_fld he hb
theorem e_listRg (hc : X.calm = true) (hg : Gl X "list") (hm : X.mg "list" = none) {t : L2.St → Hp → (Int → Int → Hp → Prop) → Prop} {p : Pos} (he : PRg X e t) (na : starEach [e] X.env = (false, eval e X.env) :: starEach [] X.env := by rfl) : PE X (.Call (.Name "list" p) [e] [] pos) (tLstRg t) := pe_listRg hc hg hm he na
end
section
variable {K : PySem.W.Frag} {H : Hp} {Q : VK} {p : Addr} {xs : List V}
theorem n_listL (hs : SqL K H p xs) (h : ∀ l, H l = none → Q (.ref l) (upd H l (.lst xs))) : rListOf K [.ref p] H Q := ⟨p, xs, rfl, .inl hs, h⟩
theorem n_listT (hs : SqT K H p xs) (h : ∀ l, H l = none → Q (.ref l) (upd H l (.lst xs))) : rListOf K [.ref p] H Q := ⟨p, xs, rfl, .inr hs, h⟩
theorem n_tupL (hs : SqL K H p xs) (h : ∀ l, H l = none → Q (.ref l) (upd H l (.tup xs))) : rTupOf K [.ref p] H Q := ⟨p, xs, rfl, .inl ⟨hs, h⟩⟩
theorem n_tupT (hs : SqT K H p xs) (h : Q (.ref p) H) : rTupOf K [.ref p] H Q := ⟨p, xs, rfl, .inr ⟨hs, h⟩⟩
theorem n_lenL (hs : SqL K H p xs) (h : Q (.int xs.length) H) : rLenOf K [.ref p] H Q := ⟨p, xs, rfl, .inl hs, h⟩
theorem n_lenT (hs : SqT K H p xs) (h : Q (.int xs.length) H) : rLenOf K [.ref p] H Q := ⟨p, xs, rfl, .inr hs, h⟩
end
end Wk
namespace Wk
open PySem PySem.Spec PyProof.Rows L2
section
variable {X : Cx}
def rNotInDT (K : PySem.W.Frag) : R2 := fun x y H Q => ∃ d ds, Dp K H x d ∧ Dp K H y (.tuple ds) ∧ SeqAt.shaped d = true ∧ SeqAt.shaped (.tuple ds) = true ∧ Q (.bl (!ds.any fun z => PyData.eqv z d)) H
def rInDT (K : PySem.W.Frag) : R2 := fun x y H Q => ∃ d ds, Dp K H x d ∧ Dp K H y (.tuple ds) ∧ SeqAt.shaped d = true ∧ SeqAt.shaped (.tuple ds) = true ∧ Q (.bl (ds.any fun z => PyData.eqv z d)) H
theorem c_notInDT (K : PySem.W.Frag) (hu : X.A.units + 65 < cLine) (hK : X.K = K := by rfl) : OpR X (compareOp .NotIn) (rNotInDT K) := by
  subst hK
  intro pins s σ H x y v u Q I rx ry h
  obtain ⟨d, ds, hd, he, sd, se, q⟩ := h
  obtain ⟨as, r1⟩ := Dp.reads I d x v hd rx
  obtain ⟨bs, r2⟩ := Dp.reads I (.tuple ds) y u he ry
  exact SeqAt.notIn_tuple_reads r2 r1 (SeqAt.canLay_of_shaped se) (SeqAt.canLay_of_shaped sd) (room_in_shaped sd hu) ⟨.bl _, H, I, rfl, q⟩
theorem c_inDT (K : PySem.W.Frag) (hu : X.A.units + 65 < cLine) (hK : X.K = K := by rfl) : OpR X (compareOp .In) (rInDT K) := by
  subst hK
  intro pins s σ H x y v u Q I rx ry h
  obtain ⟨d, ds, hd, he, sd, se, q⟩ := h
  obtain ⟨as, r1⟩ := Dp.reads I d x v hd rx
  obtain ⟨bs, r2⟩ := Dp.reads I (.tuple ds) y u he ry
  exact SeqAt.in_tuple_reads r2 r1 (SeqAt.canLay_of_shaped se) (SeqAt.canLay_of_shaped sd) (room_in_shaped sd hu) ⟨.bl _, H, I, rfl, q⟩
end
end Wk
namespace Wk
open PySem PySem.Spec PyProof.Rows L2
theorem u65 {k : Nat} {A : Around} (r : Room k A) : A.units + 65 < cLine := by have := r.un; omega
section
variable {X : Cx}
theorem c_catA (K : PySem.W.Frag) (hK : X.K = K := by rfl) : OpR X (binaryOp .Add) (rCatA K) := by subst hK; exact op_catA
end
end Wk
namespace Wk
open PySem PySem.Spec PyProof.Rows L2
section
variable {X : Cx}
theorem m_indexD (K : PySem.W.Frag) (hu : X.A.units + 65 < cLine) (hK : X.K = K := by rfl) : MtR X "list.index" (rIndexD K) := by subst hK; exact mt_indexD hu
end
end Wk
namespace Wk
open PySem PySem.Spec PyProof.Rows L2
/-- a tuple made by the program, of which its object is known: it has no dict -/
def SqZ (H : Hp) (a : Addr) (xs : List V) : Prop := ∃ o : Obj, H a = some (.frz o (.tup xs)) ∧ o.dict = none ∧ o.cls = .type "tuple"
theorem SqZ.sqT {K : PySem.W.Frag} {H : Hp} {a : Addr} {xs : List V} (h : SqZ H a xs) : SqT K H a xs := let ⟨o, e, _⟩ := h; .inl (.inr ⟨o, e⟩)
theorem SqZ.mono {H H' : Hp} {a : Addr} {xs : List V} (s : Same H H') (h : SqZ H a xs) : SqZ H' a xs := let ⟨o, e, r⟩ := h; ⟨o, s _ _ e, r⟩
/-- tuple(x): a new one of a list, the same of a tuple -/
def rTupZ (K : PySem.W.Frag) : List V → Hp → VK → Prop := fun xs H Q => ∃ p ys, xs = [.ref p] ∧ ((SqL K H p ys ∧ ∀ l o, H l = none → o.dict = none → o.cls = .type "tuple" → Q (.ref l) (upd H l (.frz o (.tup ys)))) ∨ (SqT K H p ys ∧ Q (.ref p) H))
section
variable {X : Cx}
theorem c_tupZ (K : PySem.W.Frag) (hK : X.K = K := by rfl) : CallR X (.type "tuple") (rTupZ K) := by
  subst hK
  intro pins s σ H xs us Q I r h
  obtain ⟨p, ys, rfl, h⟩ := h
  obtain ⟨u, rfl, rx⟩ := vals1 r
  cases rx
  rcases h with ⟨hq, q⟩ | ⟨hq, q⟩
  · obtain ⟨its, r', pl, hz⟩ := I.list hq
    have hlen := r'.length
    refine call_tuple_list pl.isList (fun h' kp => ?_) (by simp only [List.size_toArray] <;> omega)
    have I1 : Inv X pins σ H { s with heap := h' } := I.kept (t' := s.toks) kp
    have I2 : Inv X pins σ (upd H h'.objs.size (.frz { cls := .type "tuple", data := .seq its.toArray } (.tup ys))) { s with heap := h'.push { cls := .type "tuple", data := .seq its.toArray } } :=
      I1.laid (t' := s.toks) (fun b o e => Heap.get?_push_of_some _ e) (Nat.le_refl _) ⟨Heap.get?_push_size _ rfl, hz, its, r', IsTup.new _ _⟩
    exact ⟨.ref h'.objs.size, _, I2, rfl, q _ _ (I1.hok.fresh (Nat.le_refl _)) rfl rfl⟩
  · obtain ⟨its, r', pl, hz⟩ := I.tuple hq
    exact call_tuple_same pl ⟨.ref p, H, I, rfl, q⟩
end
section
variable {K : PySem.W.Frag} {H : Hp} {Q : VK} {p : Addr} {xs : List V}
theorem z_tupL (hs : SqL K H p xs) (h : ∀ l o, H l = none → o.dict = none → o.cls = .type "tuple" → Q (.ref l) (upd H l (.frz o (.tup xs)))) : rTupZ K [.ref p] H Q := ⟨p, xs, rfl, .inl ⟨hs, h⟩⟩
theorem z_tupT (hs : SqT K H p xs) (h : Q (.ref p) H) : rTupZ K [.ref p] H Q := ⟨p, xs, rfl, .inr ⟨hs, h⟩⟩
end
end Wk
end
section
set_option Elab.async false
set_option linter.all false
set_option maxRecDepth 100000
/-! comprehensions over range(n) whose items are told by what holds of them; tables of groups in the heap. -/
namespace Wk
open PySem PySem.Spec PyProof.Rows L2
theorem _root_.L2.Same.sqT {K : PySem.W.Frag} {H H' : Hp} {a : Addr} {xs : List V} (e : Same H H') (h : SqT K H a xs) : SqT K H' a xs := by
  rcases h with (h | ⟨o, h⟩) | h
  · exact .inl (.inl (e _ _ h))
  · exact .inl (.inr ⟨o, e _ _ h⟩)
  · exact .inr h
theorem get_snoc {α : Type} {L : List α} {v w : α} {k : Nat} (h : (L ++ [v])[k]? = some w) : (k < L.length ∧ L[k]? = some w) ∨ (k = L.length ∧ w = v) := by
  by_cases c : k < L.length
  · rw [List.getElem?_append_left c] at h; exact .inl ⟨c, h⟩
  · rw [List.getElem?_append_right (by omega)] at h
    by_cases d : k - L.length = 0
    · rw [d] at h
      have e : v = w := by simpa using h
      exact .inr ⟨by omega, e.symm⟩
    · exfalso
      rw [List.getElem?_eq_none (by simp; omega)] at h
      cases h
theorem sqT_mut {K : PySem.W.Frag} {H H' : Hp} {a D : Addr} {xs L : List V} (hD : H D = some (.lst L)) (e : ExP D H H') (h : SqT K H a xs) : SqT K H' a xs := by
  rcases h with (h | ⟨o, h⟩) | h
  · exact .inl (.inl (e _ _ (ne_of h hD (by intro z; cases z)) h))
  · exact .inl (.inr ⟨o, e _ _ (ne_of h hD (by intro z; cases z)) h⟩)
  · exact .inr h
/-- what holds of a value, whatever lists change -/
def Mut (R : V → Hp → Prop) : Prop := ∀ v H1 H2 D L, H1 D = some (.lst L) → ExP D H1 H2 → R v H1 → R v H2
section
variable {K : PySem.W.Frag} {n : Nat} {ta : TA} {j : Nat} {te : TE} {vs : List Nat} {σ : L2.St} {H : Hp} {Q : VK}
theorem lc_rng (R : Nat → V → Hp → Prop) (hn : n ≤ 50000) (hta : ∀ R' : List V → Hp → Prop, R' [.int n] H → ta σ H R')
    (mono : ∀ i, Mut (R i))
    (step : ∀ (i : Nat) H1 (Q' : VK), i < n → Same H H1 → (∀ v H2, Same H1 H2 → R i v H2 → Q' v H2) → te ((wipe σ vs).set j (some (.int (i : Int)))) H1 Q')
    (done : ∀ D L H1, H D = none → Same H H1 → H1 D = some (.lst L) → L.length = n → (∀ i v, L[i]? = some v → R i v H1) → Q (.ref D) H1) (hw : ∀ x, wipe ((wipe σ vs).set j (some x)) vs = wipe σ vs := by intro _; rfl) : tLc (iRng1 ta) (gName j) tYes te vs σ H Q := by
  refine hta _ ⟨n, rfl, by omega, by omega, fun D hD => ?_⟩
  have en : ((n : Int)).toNat = n := Int.toNat_natCast n
  rw [en]
  refine lc_range (lo := 0) (n := n) (fun i H1 => ∃ L, Same H H1 ∧ H1 D = some (.lst L) ∧ L.length = i ∧ ∀ k v, L[k]? = some v → R k v H1) ⟨[], same_new hD, upd_same, rfl, fun k v e => by simp at e⟩ ?_ ?_
  · rintro i H1 hi ⟨L, s1, hL, len, r⟩
    have e0 : (0 : Int) + (i : Int) = (i : Int) := Int.zero_add _
    rw [e0]
    refine ⟨hw _, ?_⟩
    show te _ H1 _
    refine step i H1 _ hi s1 fun v H2 s2 rv => ?_
    have hL2 := s2 _ _ hL
    refine ⟨L, hL2, szlt (by omega), L ++ [v], fun b o e => ?_, upd_same, by rw [List.length_append, len]; rfl, fun k w e => ?_⟩
    · rw [upd_ne (ne_of_none e hD)]; exact s2 _ _ (s1 _ _ e)
    · rcases get_snoc e with ⟨_, q⟩ | ⟨q, rfl⟩
      · exact mono k w H2 _ D L hL2 ExP.upd (mono k w H1 H2 D L hL s2.exP (r k w q))
      · rw [q, len]
        exact mono i w H2 _ D L hL2 ExP.upd rv
  · rintro H1 ⟨L, s1, hL, len, r⟩
    exact done D L H1 hD s1 hL len r
/-- over range(n), the values plain -/
theorem lc_rngV (f : Nat → V) (hn : n ≤ 50000) (hta : ∀ R' : List V → Hp → Prop, R' [.int n] H → ta σ H R')
    (step : ∀ (i : Nat) H1 (Q' : VK), i < n → Same H H1 → (∀ H2, Same H1 H2 → Q' (f i) H2) → te ((wipe σ vs).set j (some (.int (i : Int)))) H1 Q')
    (done : ∀ D H1, H D = none → Same H H1 → H1 D = some (.lst ((List.range n).map f)) → Q (.ref D) H1) (hw : ∀ x, wipe ((wipe σ vs).set j (some x)) vs = wipe σ vs := by intro _; rfl) : tLc (iRng1 ta) (gName j) tYes te vs σ H Q := by
  refine lc_rng (hw := hw) (fun i v _ => v = f i) hn hta (fun i v H1 H2 D L _ _ h => h) (fun i H1 Q' hi s1 k => step i H1 Q' hi s1 fun H2 s2 => k _ _ s2 rfl) (fun D L H1 hD s1 hL len r => ?_)
  have e : L = (List.range n).map f := by
    apply List.ext_getElem?
    intro i
    rw [List.getElem?_map]
    by_cases c : i < n
    · have cl : i < L.length := by omega
      rw [List.getElem?_eq_getElem cl, List.getElem?_range c]
      exact congrArg some (r i _ (List.getElem?_eq_getElem cl))
    · rw [List.getElem?_eq_none (by omega), List.getElem?_eq_none (by rw [List.length_range]; omega)]
      rfl
  rw [e] at hL
  exact done D H1 hD s1 hL
end
/-! ### tables of groups -/
def rowV (n : Nat) (m : Nat → Nat → Nat) (x : Nat) : List V := (List.range n).map fun y => V.int ((m x y : Nat) : Int)
theorem rowV_len {n : Nat} {m : Nat → Nat → Nat} {x : Nat} : (rowV n m x).length = n := by unfold rowV; rw [List.length_map, List.length_range]
theorem rowV_get {n : Nat} {m : Nat → Nat → Nat} {x y : Nat} (h : y < n) : (rowV n m x)[y]? = some (.int ((m x y : Nat) : Int)) := by
  unfold rowV
  rw [List.getElem?_map, List.getElem?_range h]
  rfl
/-- the values L are n tuples, the rows of m -/
def Rows (K : PySem.W.Frag) (H : Hp) (n : Nat) (m : Nat → Nat → Nat) (L : List V) : Prop := L.length = n ∧ ∀ x v, L[x]? = some v → ∃ b, v = .ref b ∧ SqT K H b (rowV n m x)
/-- the same, of which the objects are known -/
def RowsZ (K : PySem.W.Frag) (H : Hp) (n : Nat) (m : Nat → Nat → Nat) (L : List V) : Prop := L.length = n ∧ ∀ x v, L[x]? = some v → ∃ b, v = .ref b ∧ SqZ H b (rowV n m x)
theorem RowsZ.rows {K : PySem.W.Frag} {H : Hp} {n : Nat} {m : Nat → Nat → Nat} {L : List V} (r : RowsZ K H n m L) : Rows K H n m L := ⟨r.1, fun x v e => let ⟨b, e1, q⟩ := r.2 x v e; ⟨b, e1, q.sqT⟩⟩
theorem sqZ_mut {H H' : Hp} {a D : Addr} {xs L : List V} (hD : H D = some (.lst L)) (e : ExP D H H') (h : SqZ H a xs) : SqZ H' a xs := by
  obtain ⟨o, h, r⟩ := h
  exact ⟨o, e _ _ (ne_of h hD (by intro z; cases z)) h, r⟩
theorem RowsZ.getZ {K : PySem.W.Frag} {H : Hp} {n : Nat} {m : Nat → Nat → Nat} {L : List V} (r : RowsZ K H n m L) {x : Nat} (h : x < n) : ∃ b, L[x]? = some (.ref b) ∧ SqZ H b (rowV n m x) := by
  have hl : x < L.length := by rw [r.1]; exact h
  obtain ⟨b, e, q⟩ := r.2 x _ (List.getElem?_eq_getElem hl)
  exact ⟨b, by rw [List.getElem?_eq_getElem hl, e], q⟩
theorem RowsZ.get {K : PySem.W.Frag} {H : Hp} {n : Nat} {m : Nat → Nat → Nat} {L : List V} (r : RowsZ K H n m L) {x : Nat} (h : x < n) : ∃ b, L[x]? = some (.ref b) ∧ SqT K H b (rowV n m x) := let ⟨b, e, q⟩ := r.getZ h; ⟨b, e, q.sqT⟩
theorem RowsZ.mono {K : PySem.W.Frag} {H H' : Hp} {n : Nat} {m : Nat → Nat → Nat} {L : List V} (s : Same H H') (r : RowsZ K H n m L) : RowsZ K H' n m L := ⟨r.1, fun x v e => let ⟨b, e1, q⟩ := r.2 x v e; ⟨b, e1, q.mono s⟩⟩
theorem RowsZ.mut {K : PySem.W.Frag} {H H' : Hp} {D : Addr} {L' : List V} {n : Nat} {m : Nat → Nat → Nat} {L : List V} (hD : H D = some (.lst L')) (s : ExP D H H') (r : RowsZ K H n m L) : RowsZ K H' n m L := ⟨r.1, fun x v e => let ⟨b, e1, q⟩ := r.2 x v e; ⟨b, e1, sqZ_mut hD s q⟩⟩
theorem RowsZ.congr {K : PySem.W.Frag} {H : Hp} {n : Nat} {m m' : Nat → Nat → Nat} {L : List V} (e : ∀ x y, x < n → y < n → m x y = m' x y) (r : RowsZ K H n m L) : RowsZ K H n m' L := ⟨r.1, fun x v h => by
  obtain ⟨b, e1, q⟩ := r.2 x v h
  have hx : x < n := by have := (List.getElem?_eq_some_iff.mp h).1; rw [r.1] at this; exact this
  have er : rowV n m x = rowV n m' x := by
    unfold rowV
    exact List.map_congr_left fun y hy => by rw [e x y hx (List.mem_range.mp hy)]
  exact ⟨b, e1, er ▸ q⟩⟩
theorem mut_rowZ {xs : List V} : Mut fun v H => ∃ b, v = .ref b ∧ SqZ H b xs := fun v H1 H2 D L hD s ⟨b, e, q⟩ => ⟨b, e, sqZ_mut hD s q⟩
/-- at a a list of the rows of m -/
def TabL (K : PySem.W.Frag) (H : Hp) (a : Addr) (n : Nat) (m : Nat → Nat → Nat) : Prop := ∃ L, H a = some (.lst L) ∧ RowsZ K H n m L
theorem Rows.get {K : PySem.W.Frag} {H : Hp} {n : Nat} {m : Nat → Nat → Nat} {L : List V} (r : Rows K H n m L) {x : Nat} (h : x < n) : ∃ b, L[x]? = some (.ref b) ∧ SqT K H b (rowV n m x) := by
  have hl : x < L.length := by rw [r.1]; exact h
  obtain ⟨b, e, q⟩ := r.2 x _ (List.getElem?_eq_getElem hl)
  exact ⟨b, by rw [List.getElem?_eq_getElem hl, e], q⟩
theorem Rows.mono {K : PySem.W.Frag} {H H' : Hp} {n : Nat} {m : Nat → Nat → Nat} {L : List V} (s : Same H H') (r : Rows K H n m L) : Rows K H' n m L := ⟨r.1, fun x v e => by
  obtain ⟨b, e1, q⟩ := r.2 x v e
  exact ⟨b, e1, s.sqT q⟩⟩
theorem TabL.mono {K : PySem.W.Frag} {H H' : Hp} {a : Addr} {n : Nat} {m : Nat → Nat → Nat} (s : Same H H') (t : TabL K H a n m) : TabL K H' a n m := by
  obtain ⟨L, h, r⟩ := t
  exact ⟨L, s _ _ h, r.mono s⟩
theorem Rows.mut {K : PySem.W.Frag} {H H' : Hp} {D : Addr} {L' : List V} {n : Nat} {m : Nat → Nat → Nat} {L : List V} (hD : H D = some (.lst L')) (s : ExP D H H') (r : Rows K H n m L) : Rows K H' n m L := ⟨r.1, fun x v e => by
  obtain ⟨b, e1, q⟩ := r.2 x v e
  exact ⟨b, e1, sqT_mut hD s q⟩⟩
theorem TabL.mut {K : PySem.W.Frag} {H H' : Hp} {a D : Addr} {L' : List V} {n : Nat} {m : Nat → Nat → Nat} (hD : H D = some (.lst L')) (ne : a ≠ D) (s : ExP D H H') (t : TabL K H a n m) : TabL K H' a n m := by
  obtain ⟨L, h, r⟩ := t
  exact ⟨L, s _ _ ne h, r.mut hD s⟩
/-- rows are told by the function below n alone -/
theorem Rows.congr {K : PySem.W.Frag} {H : Hp} {n : Nat} {m m' : Nat → Nat → Nat} {L : List V} (e : ∀ x y, x < n → y < n → m x y = m' x y) (r : Rows K H n m L) : Rows K H n m' L := ⟨r.1, fun x v h => by
  obtain ⟨b, e1, q⟩ := r.2 x v h
  have hx : x < n := by have := (List.getElem?_eq_some_iff.mp h).1; rw [r.1] at this; exact this
  have er : rowV n m x = rowV n m' x := by
    unfold rowV
    exact List.map_congr_left fun y hy => by rw [e x y hx (List.mem_range.mp hy)]
  exact ⟨b, e1, er ▸ q⟩⟩
theorem mut_row {K : PySem.W.Frag} {xs : List V} : Mut fun v H => ∃ b, v = .ref b ∧ SqT K H b xs := fun v H1 H2 D L hD s ⟨b, e, q⟩ => ⟨b, e, sqT_mut hD s q⟩
/-- a table of a group is handed back, new -/
def RetTab (K : PySem.W.Frag) (H : Hp) (n : Nat) (m : Nat → Nat → Nat) (Q : VK) : Prop := ∀ H' a, H a = none → Same H H' → TabL K H' a n m → Q (.ref a) H'
section
variable {K : PySem.W.Frag} {n : Nat} {ta : TA} {tl : TE} {j : Nat} {t : TS} {D : Ends} {σ : L2.St} {H : Hp}
/-- a turn of a loop: what follows it, a break, a return are handed on as letters -/
def TurnOf (Pv : L2.St → Hp → Prop) (D : Ends) (t : TS) (σ : L2.St) (H : Hp) : Prop :=
  ∀ (N B : L2.St → Hp → Prop) (R : V → Hp → Prop), (∀ σ H, Pv σ H → N σ H) → (∀ σ H, D.nx σ H → B σ H) → (∀ v H, D.rt v H → R v H) → t { nx := N, ct := N, bk := B, rt := R } σ H
theorem TurnOf.go {Pv : L2.St → Hp → Prop} {D : Ends} {t : TS} {σ : L2.St} {H : Hp} (h : TurnOf Pv D t σ H) : t { D with nx := Pv, ct := Pv, bk := D.nx } σ H := h Pv D.nx D.rt (fun _ _ q => q) (fun _ _ q => q) (fun _ _ q => q)
theorem f_rng (Pv : Nat → L2.St → Hp → Prop) (hn : n ≤ 1000000) (hta : ∀ R' : List V → Hp → Prop, R' [.int n] H → ta σ H R') (h0 : Pv 0 σ H)
    (step : ∀ (i : Nat) σ' H', i < n → Pv i σ' H' → TurnOf (Pv (i + 1)) D t (σ'.set j (some (.int (i : Int)))) H') (done : ∀ σ' H', Pv n σ' H' → D.nx σ' H') : tFor (iRng1 ta) (gName j) t D σ H := by
  refine hta _ ⟨n, rfl, by omega, by omega, ?_⟩
  have en : ((n : Int)).toNat = n := Int.toNat_natCast n
  rw [en]
  refine for_range (lo := 0) (n := n) Pv h0 (fun i σ' H' hi p => ?_) done
  have e0 : (0 : Int) + (i : Int) = (i : Int) := Int.zero_add _
  rw [e0]
  exact (step i σ' H' hi p).go
theorem f_lst {a : Addr} {xs : List V} (Pv : Nat → L2.St → Hp → Prop) (hs : SqL K H a xs) (htl : ∀ R' : V → Hp → Prop, R' (.ref a) H → tl σ H R') (h0 : Pv 0 σ H) (hl : ∀ i σ' H', Pv i σ' H' → SqL K H' a xs)
    (step : ∀ (i : Nat) x σ' H', xs[i]? = some x → Pv i σ' H' → TurnOf (Pv (i + 1)) D t (σ'.set j (some x)) H') (done : ∀ σ' H', Pv xs.length σ' H' → D.nx σ' H') : tFor (iList K tl) (gName j) t D σ H :=
  htl _ ⟨a, rfl, ⟨xs, hs⟩, for_list (K := K) (a := a) (xs := xs) Pv h0 (fun i σ' H' _ p => hl i σ' H' p) (fun i x σ' H' hx p => (step i x σ' H' hx p).go) done⟩
theorem f_tup {a : Addr} {xs : List V} (Pv : Nat → L2.St → Hp → Prop) (hs : SqT K H a xs) (htl : ∀ R' : V → Hp → Prop, R' (.ref a) H → tl σ H R') (h0 : Pv 0 σ H) (hl : ∀ i σ' H', Pv i σ' H' → SqT K H' a xs)
    (step : ∀ (i : Nat) x σ' H', xs[i]? = some x → Pv i σ' H' → TurnOf (Pv (i + 1)) D t (σ'.set j (some x)) H') (done : ∀ σ' H', Pv xs.length σ' H' → D.nx σ' H') : tFor (iTup K tl) (gName j) t D σ H :=
  htl _ ⟨a, rfl, ⟨xs, hs⟩, for_tup (K := K) (a := a) (xs := xs) Pv h0 (fun i σ' H' _ p => hl i σ' H' p) (fun i x σ' H' hx p => (step i x σ' H' hx p).go) done⟩
end
/-- a list L that grows at p from H0 on, its items told by R -/
structure Grow (R : Nat → V → Hp → Prop) (H0 : Hp) (p : Addr) (i : Nat) (H : Hp) : Prop where
  new : H0 p = none
  same : Same H0 H
  lst : ∃ L, H p = some (.lst L) ∧ L.length = i ∧ ∀ k v, L[k]? = some v → R k v H
theorem Grow.start {R : Nat → V → Hp → Prop} {H0 : Hp} {p : Addr} (h : H0 p = none) : Grow R H0 p 0 (upd H0 p (.lst [])) := ⟨h, same_new h, [], upd_same, rfl, fun k v e => by simp at e⟩
theorem Grow.snoc {R : Nat → V → Hp → Prop} {H0 H : Hp} {p : Addr} {i : Nat} {L : List V} {v : V} (mono : ∀ i, Mut (R i)) (g : Grow R H0 p i H) (hL : H p = some (.lst L)) (r : R i v H) : Grow R H0 p (i + 1) (upd H p (.lst (L ++ [v]))) := by
  obtain ⟨L', h', len, rr⟩ := g.lst
  have e : L = L' := by
    rw [hL] at h'
    injection h' with q; injection q
  subst e
  refine ⟨g.new, fun b o e => by rw [upd_ne (ne_of_none e g.new)]; exact g.same _ _ e, L ++ [v], upd_same, by rw [List.length_append, len]; rfl, fun k w e => ?_⟩
  rcases get_snoc e with ⟨_, q⟩ | ⟨q, rfl⟩
  · exact mono k w H _ p L hL ExP.upd (rr k w q)
  · rw [q, len]
    exact mono i w H _ p L hL ExP.upd r
theorem Grow.mono {R : Nat → V → Hp → Prop} {H0 H H' : Hp} {p : Addr} {i : Nat} (mono : ∀ i, Mut (R i)) (g : Grow R H0 p i H) (s : Same H H') : Grow R H0 p i H' := by
  obtain ⟨L, h, len, r⟩ := g.lst
  exact ⟨g.new, g.same.trans s, L, s _ _ h, len, fun k v e => mono k v H H' p L h s.exP (r k v e)⟩
section
variable {K : PySem.W.Frag} {σ : L2.St} {H : Hp} {D : Ends} {te : TE} {g t : TG} {u : TGs} {v : V} {r : List V} {R : L2.St → Hp → Prop} {i : Nat} {L : List V} {A : Addr → Prop}
theorem r_asgG (h : te σ H fun x H1 => g x σ H1 D.nx) : tAsg te g D σ H := h
theorem r_gName (h : R (σ.set i (some v)) H) : gName i v σ H R := h
theorem r_gNil (h : R σ H) : gNil [] σ H R := ⟨rfl, h⟩
theorem r_gCons (h : t v σ H fun σ' H' => u r σ' H' R) : gCons t u (v :: r) σ H R := ⟨v, r, rfl, h⟩
theorem r_gTup {n : Nat} {a : Addr} (hs : SqT K H a r) (hl : r.length = n) (h : u r σ H R) : gTup K n u (.ref a) σ H R := ⟨a, r, rfl, hs, hl, h⟩
theorem r_new (h : L.length ≤ 100000) (k : ∀ p, A p) : L.length ≤ sizeLine ∧ ∀ p, A p := ⟨szl h, k⟩
theorem r_par {i j : Nat} {ta : TA} (h : ta σ H fun vs H1 => ∃ v w, vs = [v, w] ∧ D.nx ((σ.set i (some v)).set j (some w)) H1) : tPar i j ta D σ H := h
end
theorem cdivN (a b : Nat) : ((a : Int) / (b : Int)) = ((a / b : Nat) : Int) := (Int.natCast_ediv _ _).symm
theorem cmodN (a b : Nat) : ((a : Int) % (b : Int)) = ((a % b : Nat) : Int) := (Int.natCast_emod _ _).symm
theorem caddN (a b : Nat) : ((a : Int) + (b : Int)) = ((a + b : Nat) : Int) := (Int.natCast_add _ _).symm
theorem cmulN (a b : Nat) : ((a : Int) * (b : Int)) = ((a * b : Nat) : Int) := (Int.natCast_mul _ _).symm
section
variable {σ : L2.St} {H : Hp} {D : Ends}
theorem r_par3 {i j l : Nat} {ta : TA} (h : ta σ H fun vs H1 => ∃ u v w, vs = [u, v, w] ∧ D.nx (((σ.set i (some u)).set j (some v)).set l (some w)) H1) : tPar3 i j l ta D σ H := h
theorem r_lstRg1 {ta : TE} {Q : VK} (h : ta σ H fun x H1 => ∃ n, x = .int n ∧ (RgOk 0 n ∧ ∀ q, H1 q = none → Q (.ref q) (upd H1 q (.lst (rgV 0 n))))) : tLstRg (tRg1 ta) σ H Q := h
theorem r_tupRg1 {ta : TE} {Q : VK} (h : ta σ H fun x H1 => ∃ n, x = .int n ∧ (RgOk 0 n ∧ ∀ q, H1 q = none → Q (.ref q) (upd H1 q (.tup (rgV 0 n))))) : tTupRg (tRg1 ta) σ H Q := h
end
/-- a list or tuple whose items are told one by one -/
theorem list_eq {L : List V} {f : Nat → V} {n : Nat} (len : L.length = n) (r : ∀ i v, L[i]? = some v → v = f i) : L = (List.range n).map f := by
  apply List.ext_getElem?
  intro i
  rw [List.getElem?_map]
  by_cases c : i < n
  · have cl : i < L.length := by omega
    rw [List.getElem?_eq_getElem cl, List.getElem?_range c]
    exact congrArg some (r i _ (List.getElem?_eq_getElem cl))
  · rw [List.getElem?_eq_none (by omega), List.getElem?_eq_none (by rw [List.length_range]; omega)]
    rfl
theorem mut_val {f : V} : Mut fun v _ => v = f := fun _ _ _ _ _ _ _ h => h
section
variable {K : PySem.W.Frag} {j : Nat} {tl te : TE} {vs : List Nat} {σ : L2.St} {H : Hp} {Q : VK} {a : Addr} {xs : List V}
/-- over a list: the items told by R -/
theorem lc_lst (R : Nat → V → Hp → Prop) (hs : SqL K H a xs) (hz : xs.length ≤ 50000) (htl : ∀ R' : V → Hp → Prop, R' (.ref a) H → tl σ H R') (mono : ∀ i, Mut (R i))
    (step : ∀ (i : Nat) x H1 (Q' : VK), xs[i]? = some x → Same H H1 → (∀ v H2, Same H1 H2 → R i v H2 → Q' v H2) → te ((wipe σ vs).set j (some x)) H1 Q')
    (done : ∀ D L H1, H D = none → Same H H1 → H1 D = some (.lst L) → L.length = xs.length → (∀ i v, L[i]? = some v → R i v H1) → Q (.ref D) H1) (hw : ∀ x, wipe ((wipe σ vs).set j (some x)) vs = wipe σ vs := by intro _; rfl) : tLc (iList K tl) (gName j) tYes te vs σ H Q := by
  refine htl _ ⟨a, rfl, ⟨xs, hs⟩, fun D hD => ?_⟩
  refine lc_list (K := K) (a := a) (xs := xs) (fun i H1 => ∃ L, Same H H1 ∧ H1 D = some (.lst L) ∧ L.length = i ∧ ∀ k v, L[k]? = some v → R k v H1) ⟨[], same_new hD, upd_same, rfl, fun k v e => by simp at e⟩ (fun i H1 _ ⟨_, s1, _⟩ => s1.seq hs) ?_ ?_
  · rintro i x H1 hx ⟨L, s1, hL, len, r⟩
    have hi : i < xs.length := (List.getElem?_eq_some_iff.mp hx).1
    refine ⟨hw _, ?_⟩
    show te _ H1 _
    refine step i x H1 _ hx s1 fun v H2 s2 rv => ?_
    have hL2 := s2 _ _ hL
    refine ⟨L, hL2, szlt (by omega), L ++ [v], fun b o e => ?_, upd_same, by rw [List.length_append, len]; rfl, fun k w e => ?_⟩
    · rw [upd_ne (ne_of_none e hD)]; exact s2 _ _ (s1 _ _ e)
    · rcases get_snoc e with ⟨_, q⟩ | ⟨q, rfl⟩
      · exact mono k w H2 _ D L hL2 ExP.upd (mono k w H1 H2 D L hL (L2.Same.exP s2) (r k w q))
      · rw [q, len]
        exact mono i w H2 _ D L hL2 ExP.upd rv
  · rintro H1 ⟨L, s1, hL, len, r⟩
    exact done D L H1 hD s1 hL len r
end
/-- a list of the numbers o 0 .. o (n - 1) -/
def natsV (n : Nat) (o : Nat → Nat) : List V := (List.range n).map fun i => V.int ((o i : Nat) : Int)
theorem natsV_len {n : Nat} {o : Nat → Nat} : (natsV n o).length = n := by unfold natsV; rw [List.length_map, List.length_range]
theorem natsV_get {n : Nat} {o : Nat → Nat} {i : Nat} (h : i < n) : (natsV n o)[i]? = some (.int ((o i : Nat) : Int)) := by
  unfold natsV
  rw [List.getElem?_map, List.getElem?_range h]
  rfl
theorem natsV_flat {n : Nat} {o : Nat → Nat} : (natsV n o).all flatV = true := by
  unfold natsV
  rw [List.all_map]
  exact List.all_eq_true.mpr fun _ _ => rfl
theorem rgV_nats (n : Nat) : rgV 0 (n : Int) = natsV n id := by
  unfold rgV natsV
  have e : ((n : Int) - 0).toNat = n := by omega
  rw [e]
  exact List.map_congr_left fun i _ => by rw [Int.zero_add]; rfl
section
variable {K : PySem.W.Frag} {j : Nat} {tl te : TE} {vs : List Nat} {σ : L2.St} {H : Hp} {Q : VK} {a : Addr} {xs : List V}
/-- over a tuple: the items told by R -/
theorem lc_tpl (R : Nat → V → Hp → Prop) (hs : SqT K H a xs) (hz : xs.length ≤ 50000) (htl : ∀ R' : V → Hp → Prop, R' (.ref a) H → tl σ H R') (mono : ∀ i, Mut (R i))
    (step : ∀ (i : Nat) x H1 (Q' : VK), xs[i]? = some x → Same H H1 → (∀ v H2, Same H1 H2 → R i v H2 → Q' v H2) → te ((wipe σ vs).set j (some x)) H1 Q')
    (done : ∀ D L H1, H D = none → Same H H1 → H1 D = some (.lst L) → L.length = xs.length → (∀ i v, L[i]? = some v → R i v H1) → Q (.ref D) H1) (hw : ∀ x, wipe ((wipe σ vs).set j (some x)) vs = wipe σ vs := by intro _; rfl) : tLc (iTup K tl) (gName j) tYes te vs σ H Q := by
  refine htl _ ⟨a, rfl, ⟨xs, hs⟩, fun D hD => ?_⟩
  refine lc_tup (K := K) (a := a) (xs := xs) (fun i H1 => ∃ L, Same H H1 ∧ H1 D = some (.lst L) ∧ L.length = i ∧ ∀ k v, L[k]? = some v → R k v H1) ⟨[], same_new hD, upd_same, rfl, fun k v e => by simp at e⟩ (fun i H1 _ ⟨_, s1, _⟩ => s1.sqT hs) ?_ ?_
  · rintro i x H1 hx ⟨L, s1, hL, len, r⟩
    have hi : i < xs.length := (List.getElem?_eq_some_iff.mp hx).1
    refine ⟨hw _, ?_⟩
    show te _ H1 _
    refine step i x H1 _ hx s1 fun v H2 s2 rv => ?_
    have hL2 := s2 _ _ hL
    refine ⟨L, hL2, szlt (by omega), L ++ [v], fun b o e => ?_, upd_same, by rw [List.length_append, len]; rfl, fun k w e => ?_⟩
    · rw [upd_ne (ne_of_none e hD)]; exact s2 _ _ (s1 _ _ e)
    · rcases get_snoc e with ⟨_, q⟩ | ⟨q, rfl⟩
      · exact mono k w H2 _ D L hL2 ExP.upd (mono k w H1 H2 D L hL (L2.Same.exP s2) (r k w q))
      · rw [q, len]
        exact mono i w H2 _ D L hL2 ExP.upd rv
  · rintro H1 ⟨L, s1, hL, len, r⟩
    exact done D L H1 hD s1 hL len r
end
end Wk
end
section
set_option Elab.async false
set_option linter.all false
set_option maxRecDepth 100000
/-! repr of data at any depth -/
namespace Wk
open PySem PySem.Spec PyProof.Rows L2
def rRepr (K : PySem.W.Frag) : List V → Hp → VK → Prop := fun xs H Q => ∃ x d, xs = [x] ∧ Dp K H x d ∧ d.showable = true ∧ d.hasDict = false ∧ d.depth ≤ 60 ∧ d.shown.length ≤ sizeLine ∧ Q (.str d.shown) H
theorem Room.u65 {k : Nat} {A : Around} (r : Room k A) : A.units + 65 < cLine := by have := r.un; omega
theorem c_repr (K : PySem.W.Frag) {k : Nat} {X : Cx} (hr : Room k X.A) (hK : X.K = K := by rfl) : CallR X (.builtin "repr") (rRepr K) := by
  subst hK
  intro pins s σ H xs us Q I r h
  obtain ⟨x, d, rfl, hd, hs, hn, hdep, hsz, q⟩ := h
  obtain ⟨u, rfl, rx⟩ := vals1 r
  have hu := hr.u65
  have seq : ∀ (a : Addr) as, Reads s.heap (.ref a) d as → wpAny (model X.prog X.w) X.A (call (.builtin "repr") [.ref a]) (EP X pins σ Q) X.xe s := fun a as rd =>
    repr_of_reads' rd hs (PyData.noDict_hsm hn) hr.gd (by omega) (fun _ _ e => e) (fun h' u tk kp => ⟨.str d.shown, H, I.kept (t' := tk) kp, ⟨_, rfl⟩, q⟩) hsz
  obtain ⟨as, rd⟩ := Dp.reads I d x u hd rx
  cases hd with
  | non =>
    simp only [PyData.shown] at q
    cases rx
    exact PySem.P.repr_of_none ⟨.str _, H, I.tok _, ⟨_, rfl⟩, q⟩
  | bl b =>
    simp only [PyData.shown] at q
    cases rx
    exact PySem.P.repr_of_bool ⟨.str _, H, I.tok _, ⟨_, rfl⟩, by cases b <;> exact q⟩
  | int i =>
    simp only [PyData.shown] at q
    obtain ⟨t, rfl⟩ := rx
    exact PySem.P.repr_of_int (by simpa [PyData.showable] using hs) ⟨.str _, H, I.tok _, ⟨_, rfl⟩, q⟩
  | str z =>
    simp only [PyData.shown] at q hsz
    obtain ⟨t, rfl⟩ := rx
    exact PySem.P.repr_of_str ⟨.str _, H, I.tok _, ⟨_, rfl⟩, q⟩ hsz
  | lst hq ha => cases rx; exact seq _ as rd
  | tup hq ha => cases rx; exact seq _ as rd
/-! the length of what is shown -/
theorem join_le : ∀ ts : List Str, (Str.join ", " ts).length ≤ piled ts
  | [] => by decide
  | t :: ts => by have := join_length_add (t :: ts) (by simp); omega
theorem tupleText_le (ts : List Str) : (tupleText ts).length ≤ piled ts + 3 := by
  unfold tupleText
  rw [strLen_append, strLen_append]
  have e1 : ((("(" : String) : Str)).length = 1 := rfl
  have e3 : (((if ts.length == 1 then ",)" else ")" : String) : Str)).length ≤ 2 := by split <;> decide
  have := join_le ts
  omega
/-- whole numbers of at most 60 figures -/
def Few (z : Int) : Prop := z.natAbs < 10 ^ 60
theorem Few.shown {z : Int} (h : Few z) : (PyData.shown (.int z)).length ≤ 61 := by
  simp only [PyData.shown]
  have e := int_text_length_le10 (k := 60) (by decide) h
  rw [PySem.ofString_length]
  exact e
theorem Few.showable {z : Int} (h : Few z) : PyData.showable (.int z) = true := by
  simp only [PyData.showable, decide_eq_true_eq]
  by_cases c : z.natAbs = 0
  · rw [c]; decide
  · refine (Nat.log2_lt c).mpr (Nat.lt_of_lt_of_le h ?_)
    exact Nat.le_trans (Nat.pow_le_pow_left (by decide : 10 ≤ 2 ^ 4) 60) (by rw [← Nat.pow_mul]; exact Nat.pow_le_pow_right (by decide) (by decide))
theorem few_of {z : Int} (h0 : -(10 ^ 40) < z) (h1 : z < 10 ^ 40) : Few z := by
  unfold Few
  omega
def iD (ns : List Int) : List PyData := ns.map PyData.int
theorem iD_all {ns : List Int} (h : ∀ z ∈ ns, Few z) : PyData.showableAll (iD ns) = true ∧ PyData.hasDictAll (iD ns) = false ∧ PyData.depthAll (iD ns) = 0 ∧ piled (PyData.shownAll (iD ns)) ≤ 63 * ns.length := by
  induction ns with
  | nil => exact ⟨by simp [iD, PyData.showableAll], by simp [iD, PyData.hasDictAll], by simp [iD, PyData.depthAll], by simp [iD, PyData.shownAll, piled]⟩
  | cons z ns ih =>
    obtain ⟨a, b, c, d⟩ := ih fun x hx => h x (List.mem_cons_of_mem _ hx)
    have hz := h z List.mem_cons_self
    have l := hz.shown
    refine ⟨?_, ?_, ?_, ?_⟩
    · simp only [iD, List.map_cons, PyData.showableAll] at a ⊢
      rw [hz.showable, a]; rfl
    · simp only [iD, List.map_cons, PyData.hasDictAll, PyData.hasDict] at b ⊢
      rw [b]; rfl
    · simp only [iD, List.map_cons, PyData.depthAll, PyData.depth] at c ⊢
      rw [c]; rfl
    · simp only [iD, List.map_cons, PyData.shownAll] at d ⊢
      rw [piled_cons, List.length_cons]
      omega
theorem dp_ints {K : PySem.W.Frag} {H : Hp} : ∀ ns : List Int, DpAll K H (ns.map V.int) (iD ns)
  | [] => .nil
  | z :: ns => .cons (.int z) (dp_ints ns)
section
variable {K : PySem.W.Frag} {H : Hp} {Q : VK} {a : Addr}
theorem r_reprT {ns : List Int} (hs : SqT K H a (ns.map V.int)) (h : ∀ z ∈ ns, Few z) (hl : ns.length ≤ 10000) (q : Q (.str (PyData.shown (.tuple (iD ns)))) H) : rRepr K [.ref a] H Q := by
  obtain ⟨h1, h2, h3, h4⟩ := iD_all h
  refine ⟨_, _, rfl, .tup hs (dp_ints ns), ?_, ?_, ?_, ?_, q⟩
  · simp only [PyData.showable]; exact h1
  · simp only [PyData.hasDict]; exact h2
  · simp only [PyData.depth, h3]; decide
  · simp only [PyData.shown]
    refine Nat.le_trans (tupleText_le _) ?_
    rw [sizeLine_eq]; omega
theorem r_reprI {z : Int} (h : Few z) (q : Q (.str (PyData.shown (.int z))) H) : rRepr K [.int z] H Q := by
  refine ⟨_, _, rfl, .int z, h.showable, by simp only [PyData.hasDict], by simp only [PyData.depth]; decide, ?_, q⟩
  have := h.shown
  rw [sizeLine_eq]; omega
end
end Wk
end
section
set_option Elab.async false
set_option linter.all false
set_option maxRecDepth 100000
/-! t[::-1] of a tuple -/
namespace Wk
open PySem PySem.Spec PyProof.Rows L2
section
variable {prog : Program} {w : World} {A : Around} {E : Value → Shared → Prop} {s : Shared}
theorem adjust_rev (n : Nat) : Builtin.Slice.sliceAdjust none none (-1) (n : Int) = ((n : Int) - 1, -1) := by
  unfold Builtin.Slice.sliceAdjust
  rfl
theorem places_rev (n : Nat) : Builtin.Slice.slicePlaces ((n : Int) - 1) (-1) (-1) = n := by
  unfold Builtin.Slice.slicePlaces
  have h1 : ¬ ((-1 : Int) > 0) := by omega
  simp only [h1, if_false]
  have e : (- -1 : Int) = 1 := rfl
  rw [e]
  simp only [Int.ediv_one]
  split <;> omega
theorem fm_congr {α β : Type} {f g : α → Option β} : ∀ {l : List α}, (∀ a ∈ l, f a = g a) → l.filterMap f = l.filterMap g
  | [], _ => rfl
  | a :: l, h => by
    have ih := fm_congr (l := l) fun b hb => h b (List.mem_cons_of_mem _ hb)
    rw [List.filterMap_cons, List.filterMap_cons, h a List.mem_cons_self, ih]
theorem pick_rev (xs : Array Value) : ((List.range xs.size).filterMap fun (m : Nat) => xs[((xs.size : Int) - 1 + (m : Int) * -1).toNat]?) = xs.toList.reverse := by
  have e : (List.range xs.size).filterMap (fun (m : Nat) => xs[((xs.size : Int) - 1 + (m : Int) * -1).toNat]?) = ((List.range xs.size).map fun k => xs.size - 1 - k).filterMap (xs[·]?) := by
    rw [List.filterMap_map]
    refine fm_congr fun m hm => ?_
    have := List.mem_range.mp hm
    show xs[_]? = xs[xs.size - 1 - m]?
    have q : ((xs.size : Int) - 1 + (m : Int) * -1).toNat = xs.size - 1 - m := by omega
    rw [q]
  rw [e, PySem.W.krv_range, List.filterMap_reverse, PySem.W.krv_all]
theorem getItem_tuple_rev {t sl : Addr} {items : Array Value} {vs : Value} {Q : Value → Shared → Prop} (ht : IsTup s.heap t items) (hs : s.heap.IsSliceOf sl .none .none vs) (ps : IsPart vs (some (-1)))
    (h : Q (.ref s.heap.objs.size) { s with heap := s.heap.push { cls := .type "tuple", data := .seq items.toList.reverse.toArray } })
    (hsz : items.size ≤ sizeLine) : wpAny (model prog w) A (getItem (.ref t) (.ref sl)) Q E s := by
  have htake : sizeOk (.seq items.toList.reverse.toArray) := by
    show items.toList.reverse.toArray.size ≤ sizeLine
    rw [List.size_toArray, List.length_reverse, Array.length_toList]
    exact hsz
  obtain ⟨os, hos, hcs, hds⟩ := id hs
  have hTs : s.TypeIs (.ref sl) "slice" := ⟨os, hos, hcs⟩
  unfold getItem
  try with_reducible refine wpAny_holding ?_
  first | refine wpAny_bind (wpAny_pure ?_) | skip
  refine wpAny_bind (wpAny_sequenceKey ht.typeIs (by decide) ?_)
  refine wpAny_bind (wpAny_callSpecial?_slot (name := Str.ofString "__getitem__") ht.typeIs PyProof.Rows.slot_tuple_getitem
    (wpAny_call_entry PyProof.Rows.slot_tuple_getitem ht.typeIs entry_tuple_getitem ?_ (args_tuple_getitem _ _)))
  show wpAny _ _ (Builtin.Tuple.tupleItemsOf (.ref t) >>= _) _ _ s
  refine wpAny_bind (tupleItemsOf_ ht ?_)
  refine wpAny_bind (wpAny_typeOf hTs ?_)
  rw [if_pos (by decide)]
  refine wpAny_bind ?_
  · unfold Builtin.Slice.sliceApplied Builtin.Slice.sliceFields
    refine wpAny_bind (wpAny_bind (wpAny_field hos hds (x := .none) rfl (wpAny_bind (wpAny_field hos hds (x := .none) rfl (wpAny_bind (wpAny_field hos hds (x := vs) rfl (wpAny_pure ?_)))))))
    refine wpAny_bind (HT.slicePart_ ps ?_)
    show wpAny _ _ (if ((-1 : Int) == 0) = true then _ else _) _ _ s
    rw [if_neg (by decide)]
    refine wpAny_bind (HT.slicePart_ .none (wpAny_bind (HT.slicePart_ .none (wpAny_bind (wpAny_pure ?_)))))
    show wpAny _ _ (match Builtin.Slice.sliceAdjust none none (-1) (items.size : Int) with | (lo, hi) => pure (lo, (-1 : Int), Builtin.Slice.slicePlaces lo hi (-1))) _ _ s
    rw [adjust_rev]
    show wpAny _ _ (pure ((items.size : Int) - 1, (-1 : Int), Builtin.Slice.slicePlaces ((items.size : Int) - 1) (-1) (-1))) _ _ s
    rw [places_rev]
    refine wpAny_pure ?_
    have hno : ¬ (((((items.size : Int) - 1) == 0 && (-1 : Int) == 1 && items.size == items.size)) = true) := by
      intro q
      rw [Bool.and_eq_true, Bool.and_eq_true] at q
      exact absurd (eq_of_beq q.1.2) (by decide)
    show wpAny _ _ (if (((items.size : Int) - 1) == 0 && (-1 : Int) == 1 && items.size == items.size) = true then _ else _) _ _ s
    rw [if_neg hno, pick_rev]
    first
      | exact wpAny_bind (m := Builtin.Tuple.tupleExact _) (wpAny_newObj_type (wpAny_pure ⟨_, rfl, wpAny_pure h⟩) htake)
      | exact wpAny_bind (m := Builtin.Tuple.tupleExact _) (wpAny_newObj_type (wpAny_bind (wpAny_pure (wpAny_pure ⟨_, rfl, wpAny_pure h⟩))) htake)
      | exact wpAny_bind (wpAny_bind (m := Builtin.Tuple.tupleExact _) (wpAny_newObj_type (wpAny_pure (wpAny_pure ⟨_, rfl, wpAny_pure h⟩)) htake))
      | exact wpAny_bind (wpAny_bind (m := Builtin.Tuple.tupleExact _) (wpAny_newObj_type (wpAny_pure ⟨_, rfl, wpAny_pure h⟩) htake))
end
def tRevT (K : PySem.W.Frag) (te : TE) : TE := fun σ H Q => te σ H fun x H1 => ∃ a xs, x = .ref a ∧ SqT K H1 a xs ∧ ∀ p, H1 p = none → Q (.ref p) (upd H1 p (.tup xs.reverse))
theorem pe_revT {X : Cx} (K : PySem.W.Frag) {e : Expr} {te : TE} {k : Nat} {p1 p2 p3 pos : Pos} (he : PE X e te) (hK : X.K = K := by rfl) : PE X (.Subscript e (.Slice none none (some (.UnaryOp .USub (.Constant (.int 1) k p1) p2)) p3) pos) (tRevT K te) := by
  subst hK
  refine ⟨fun pins s σ H Q I h => ?_⟩
  refine Subscript_ (thn (he.run pins s σ H _ I h) fun v s1 ⟨x, H1, I1, r1, q1⟩ => ?_)
  obtain ⟨a, xs, ex, hx, q⟩ := q1
  subst ex
  cases r1
  have hst : PO X (some (.UnaryOp .USub (.Constant (.int 1) k p1) p2)) (tPart (tUn (rU fun i => .int (-i)) (tC (.int 1)))) := po_some (pe_un un_neg pe_int)
  refine wpAny_Slice (thn (po_none.run pins s1 σ H1 (fun o H2 => o = none ∧ H2 = H1) I1 ⟨rfl, rfl⟩) fun vl s2 ⟨l, H2, I2, pl, el, e2⟩ => ?_)
  subst el e2
  refine thn (po_none.run pins s2 σ H2 (fun o H3 => o = none ∧ H3 = H2) I2 ⟨rfl, rfl⟩) fun vu s3 ⟨u, H3, I3, pu, eu, e3⟩ => ?_
  subst eu e3
  refine thn (hst.run pins s3 σ H3 (fun o H4 => o = some (-1) ∧ H4 = H3) I3 ⟨1, rfl, -1, rfl, rfl, rfl⟩) fun vs s4 ⟨o, H4, I4, ps, eo, e4⟩ => ?_
  subst eo e4
  cases pl
  cases pu
  have I5 : Inv X pins σ H4 { s4 with heap := s4.heap.push { cls := .type "slice", data := .fields #[.none, .none, vs] } } := I4.kept (t' := s4.toks) fun b ob q => Heap.get?_push_of_some _ q
  obtain ⟨its, r, ht, hz⟩ := I5.tuple hx
  have hlen := r.length
  refine tail_any (ops := [.ref a, .ref s4.heap.objs.size]) ht.typeIs (PyProof.Rows.slot_tuple_getitem.lookup) ?_ (by with_unfolding_all rfl)
  refine getItem_tuple_rev ht (Heap.IsSliceOf.new _ .none .none vs) ps ?_ (by rw [List.size_toArray]; omega)
  refine ⟨.ref _, _, I5.laid (t' := s4.toks) (o := .tup xs.reverse) (fun b ob q => Heap.get?_push_of_some _ q) (Nat.le_refl _) ?_, rfl, q _ (I5.hok.fresh (Nat.le_refl _))⟩
  exact ⟨by rw [List.length_reverse]; exact hz, _, r.reverse, IsTup.new _ _⟩
theorem r_revT {K : PySem.W.Frag} {te : TE} {σ : L2.St} {H : Hp} {Q : VK} (h : te σ H fun x H1 => ∃ a xs, x = .ref a ∧ SqT K H1 a xs ∧ ∀ p, H1 p = none → Q (.ref p) (upd H1 p (.tup xs.reverse))) : tRevT K te σ H Q := h
end Wk
end
section
set_option linter.all false
/-! Groups on the numbers below n, as functions: the ones that are made. Core Lean. -/
namespace G
structure IsNe (n : Nat) (m : Nat → Nat → Nat) (e : Nat) : Prop where
  lt : e < n
  l : ∀ x, x < n → m e x = x
  r : ∀ x, x < n → m x e = x
structure Grp (n : Nat) (m : Nat → Nat → Nat) : Prop where
  cl : ∀ x y, x < n → y < n → m x y < n
  as : ∀ x y z, x < n → y < n → z < n → m (m x y) z = m x (m y z)
  ne : ∃ e, IsNe n m e ∧ ∀ x, x < n → ∃ y, y < n ∧ m x y = e ∧ m y x = e
theorem Grp.pos {n m} (g : Grp n m) : 0 < n := by
  obtain ⟨e, h, _⟩ := g.ne
  exact Nat.lt_of_le_of_lt (Nat.zero_le _) h.lt
theorem IsNe.uniq {n m e f} (a : IsNe n m e) (b : IsNe n m f) : e = f := (b.r e a.lt).symm.trans (a.l f b.lt)
/-! ### cyclic -/
def cyc (n : Nat) (x y : Nat) : Nat := (x + y) % n
theorem cyc_grp {n : Nat} (h : 0 < n) : Grp n (cyc n) where
  cl := fun x y _ _ => Nat.mod_lt _ h
  as := fun x y z _ _ _ => by
    unfold cyc
    rw [Nat.mod_add_mod, Nat.add_mod_mod, Nat.add_assoc]
  ne := ⟨0, ⟨h, fun x hx => by unfold cyc; rw [Nat.zero_add, Nat.mod_eq_of_lt hx], fun x hx => by unfold cyc; rw [Nat.add_zero, Nat.mod_eq_of_lt hx]⟩, fun x hx => by
    by_cases e : x = 0
    · subst e; exact ⟨0, h, by unfold cyc; simp, by unfold cyc; simp⟩
    · refine ⟨n - x, by omega, ?_, ?_⟩
      · unfold cyc; rw [show x + (n - x) = n by omega, Nat.mod_self]
      · unfold cyc; rw [show n - x + x = n by omega, Nat.mod_self]⟩
/-! ### products -/
def prd (k : Nat) (m1 m2 : Nat → Nat → Nat) (x y : Nat) : Nat := m1 (x / k) (y / k) * k + m2 (x % k) (y % k)
theorem dm {a b k : Nat} (h : b < k) : (a * k + b) / k = a ∧ (a * k + b) % k = b := by
  have hk : 0 < k := by omega
  constructor
  · rw [Nat.mul_comm, Nat.mul_add_div hk, Nat.div_eq_of_lt h, Nat.add_zero]
  · rw [Nat.mul_comm, Nat.mul_add_mod, Nat.mod_eq_of_lt h]
theorem lt_mul {a b n k : Nat} (ha : a < n) (hb : b < k) : a * k + b < n * k := by
  have : (a + 1) * k ≤ n * k := Nat.mul_le_mul_right _ ha
  rw [Nat.succ_mul] at this
  omega
theorem prd_grp {n k : Nat} {m1 m2 : Nat → Nat → Nat} (g1 : Grp n m1) (g2 : Grp k m2) : Grp (n * k) (prd k m1 m2) := by
  have hk := g2.pos
  have dv : ∀ x, x < n * k → x / k < n := fun x hx => Nat.div_lt_of_lt_mul (by rw [Nat.mul_comm]; exact hx)
  have md : ∀ x, x % k < k := fun x => Nat.mod_lt _ hk
  have sp : ∀ x, x / k * k + x % k = x := fun x => by rw [Nat.mul_comm]; exact Nat.div_add_mod x k
  have c2 : ∀ x y, m2 (x % k) (y % k) < k := fun x y => g2.cl _ _ (md x) (md y)
  refine ⟨fun x y hx hy => lt_mul (g1.cl _ _ (dv x hx) (dv y hy)) (c2 x y), fun x y z hx hy hz => ?_, ?_⟩
  · unfold prd
    rw [(dm (c2 x y)).1, (dm (c2 x y)).2, (dm (c2 y z)).1, (dm (c2 y z)).2, g1.as _ _ _ (dv x hx) (dv y hy) (dv z hz), g2.as _ _ _ (md x) (md y) (md z)]
  · obtain ⟨e1, ⟨l1, a1, b1⟩, i1⟩ := g1.ne
    obtain ⟨e2, ⟨l2, a2, b2⟩, i2⟩ := g2.ne
    refine ⟨e1 * k + e2, ⟨lt_mul l1 l2, fun x hx => ?_, fun x hx => ?_⟩, fun x hx => ?_⟩
    · unfold prd
      rw [(dm l2).1, (dm l2).2, a1 _ (dv x hx), a2 _ (md x), sp]
    · unfold prd
      rw [(dm l2).1, (dm l2).2, b1 _ (dv x hx), b2 _ (md x), sp]
    · obtain ⟨y1, h1, p1, q1⟩ := i1 _ (dv x hx)
      obtain ⟨y2, h2, p2, q2⟩ := i2 _ (md x)
      refine ⟨y1 * k + y2, lt_mul h1 h2, ?_, ?_⟩
      · unfold prd; rw [(dm h2).1, (dm h2).2, p1, p2]
      · unfold prd; rw [(dm h2).1, (dm h2).2, q1, q2]
/-! ### dihedral: (a, s) as a + n * s -/
def dih (n : Nat) (x y : Nat) : Nat := if x / n = 0 then (x % n + y % n) % n + n * (y / n) else (x % n + (n - y % n)) % n + n * (1 - y / n)
theorem dih_grp {n : Nat} (h : 0 < n) : Grp (2 * n) (dih n) := by
  have md : ∀ x, x % n < n := fun x => Nat.mod_lt _ h
  have dv : ∀ x, x < 2 * n → x / n < 2 := fun x hx => Nat.div_lt_of_lt_mul (by rw [Nat.mul_comm]; exact hx)
  have sp : ∀ x, x % n + n * (x / n) = x := fun x => Nat.mod_add_div x n
  have two : ∀ q : Nat, q < 2 → q = 0 ∨ q = 1 := by omega
  have d1 : ∀ a s, a < n → (a + n * s) / n = s := fun a s ha => by rw [Nat.add_mul_div_left _ _ h, Nat.div_eq_of_lt ha, Nat.zero_add]
  have m1 : ∀ a s, a < n → (a + n * s) % n = a := fun a s ha => by rw [Nat.add_mul_mod_self_left, Nat.mod_eq_of_lt ha]
  have lt : ∀ a s, a < n → s < 2 → a + n * s < 2 * n := fun a s ha hs => by
    have : s = 0 ∨ s = 1 := by omega
    rcases this with rfl | rfl <;> omega
  -- sums modulo n, with a number taken away
  have ms : ∀ a b, a < n → b < n → (a + (n - b)) % n = if b ≤ a then a - b else a + n - b := fun a b ha hb => by
    by_cases c : b ≤ a
    · rw [if_pos c, show a + (n - b) = (a - b) + n by omega, Nat.add_mod_right, Nat.mod_eq_of_lt (by omega)]
    · rw [if_neg c, Nat.mod_eq_of_lt (by omega)]; omega
  have ps : ∀ a b, a < n → b < n → (a + b) % n = if a + b < n then a + b else a + b - n := fun a b ha hb => by
    by_cases c : a + b < n
    · rw [if_pos c, Nat.mod_eq_of_lt c]
    · rw [if_neg c, Nat.mod_eq_sub_mod (by omega), Nat.mod_eq_of_lt (by omega)]
  have val : ∀ a s b t, a < n → s < 2 → b < n → t < 2 → dih n (a + n * s) (b + n * t) = if s = 0 then (a + b) % n + n * t else (a + (n - b)) % n + n * (1 - t) := fun a s b t ha hs hb ht => by
    unfold dih
    rw [d1 a s ha, d1 b t hb, m1 a s ha, m1 b t hb]
  refine ⟨fun x y hx hy => ?_, fun x y z hx hy hz => ?_, ?_⟩
  · unfold dih
    split
    · exact lt _ _ (md _) (dv y hy)
    · exact lt _ _ (md _) (Nat.lt_succ_of_le (Nat.sub_le 1 _))
  · rw [← sp x, ← sp y, ← sp z]
    generalize ha : x % n = a
    generalize hs : x / n = s
    generalize hb : y % n = b
    generalize ht : y / n = t
    generalize hc : z % n = c
    generalize hu : z / n = u
    have a0 : a < n := ha ▸ md x
    have b0 : b < n := hb ▸ md y
    have c0 : c < n := hc ▸ md z
    have s0 : s < 2 := hs ▸ dv x hx
    have t0 : t < 2 := ht ▸ dv y hy
    have u0 : u < 2 := hu ▸ dv z hz
    have es : s = 0 ∨ s = 1 := by omega
    have et : t = 0 ∨ t = 1 := by omega
    rw [val a s b t a0 s0 b0 t0, val b t c u b0 t0 c0 u0]
    rcases es with rfl | rfl
    · rcases et with rfl | rfl
      · simp only [if_true]
        rw [val _ _ _ _ (md _) (by omega) c0 u0, val _ _ _ _ a0 (by omega) (md _) u0]
        simp only [if_true]
        rw [Nat.mod_add_mod, Nat.add_mod_mod, Nat.add_assoc]
      · simp only [if_true, Nat.succ_ne_zero, if_false, Nat.one_ne_zero]
        rw [val _ _ _ _ (md _) (by omega) c0 u0, val _ _ _ _ a0 (by omega) (md _) (by omega)]
        simp only [if_true, Nat.one_ne_zero, if_false]
        rw [Nat.mod_add_mod, Nat.add_mod_mod, Nat.add_assoc]
    · have e1 : ∀ q, (if (1 : Nat) = 0 then q else (a + (n - b)) % n + n * (1 - t)) = (a + (n - b)) % n + n * (1 - t) := fun q => if_neg (by decide)
      rw [e1]
      rcases et with rfl | rfl
      · simp only [if_true]
        rw [val _ _ _ _ (md _) (by omega) c0 u0, val _ _ _ _ a0 (by omega) (md _) u0]
        simp only [Nat.sub_zero, Nat.one_ne_zero, if_false]
        rw [ms a b a0 b0, ps b c b0 c0]
        by_cases q : b ≤ a
        · rw [if_pos q]
          by_cases r : b + c < n
          · rw [if_pos r, ms _ _ (by omega) c0, ms _ _ a0 (by omega)]
            congr 1
            split <;> split <;> omega
          · rw [if_neg r, ms _ _ (by omega) c0, ms _ _ a0 (by omega)]
            congr 1
            split <;> split <;> omega
        · rw [if_neg q]
          by_cases r : b + c < n
          · rw [if_pos r, ms _ _ (by omega) c0, ms _ _ a0 (by omega)]
            congr 1
            split <;> split <;> omega
          · rw [if_neg r, ms _ _ (by omega) c0, ms _ _ a0 (by omega)]
            congr 1
            split <;> split <;> omega
      · simp only [Nat.sub_self, Nat.one_ne_zero, if_false]
        rw [val _ _ _ _ (md _) (by omega) c0 u0, val _ _ _ _ a0 (by omega) (md _) (by omega)]
        simp only [if_true, Nat.one_ne_zero, if_false]
        rw [ms a b a0 b0, ms b c b0 c0]
        have eu : 1 - (1 - u) = u := by omega
        rw [eu]
        congr 1
        by_cases q : b ≤ a
        · rw [if_pos q]
          by_cases r : c ≤ b
          · rw [if_pos r, ps _ _ (by omega) c0, ms _ _ a0 (by omega)]
            split <;> split <;> omega
          · rw [if_neg r, ps _ _ (by omega) c0, ms _ _ a0 (by omega)]
            split <;> split <;> omega
        · rw [if_neg q]
          by_cases r : c ≤ b
          · rw [if_pos r, ps _ _ (by omega) c0, ms _ _ a0 (by omega)]
            split <;> split <;> omega
          · rw [if_neg r, ps _ _ (by omega) c0, ms _ _ a0 (by omega)]
            split <;> split <;> omega
  · have v0 : ∀ x, x < 2 * n → dih n 0 x = x := fun x hx => by
      have := val 0 0 (x % n) (x / n) h (by omega) (md x) (dv x hx)
      rw [if_pos rfl, sp, Nat.mul_zero, Nat.add_zero, Nat.zero_add, Nat.mod_mod, sp] at this
      exact this
    refine ⟨0, ⟨by omega, v0, fun x hx => ?_⟩, fun x hx => ?_⟩
    · have := val (x % n) (x / n) 0 0 (md x) (dv x hx) h (by omega)
      rw [sp, Nat.mul_zero, Nat.add_zero] at this
      rw [this]
      have : x / n = 0 ∨ x / n = 1 := two _ (dv x hx)
      rcases this with e | e
      · rw [if_pos e, Nat.add_zero, Nat.add_zero, Nat.mod_mod]
        have := sp x; rw [e, Nat.mul_zero, Nat.add_zero] at this; exact this
      · rw [if_neg (by rw [e]; decide), Nat.sub_zero, Nat.add_mod_right, Nat.mod_mod]
        have := sp x; rw [e] at this; simpa using this
    · have : x / n = 0 ∨ x / n = 1 := two _ (dv x hx)
      have p0 := sp x
      rcases this with e | e
      · rw [e, Nat.mul_zero, Nat.add_zero] at p0
        have xl : x < n := by rw [← p0]; exact md x
        by_cases z : x = 0
        · subst z; exact ⟨0, by omega, v0 0 (by omega), v0 0 (by omega)⟩
        · refine ⟨n - x, by omega, ?_, ?_⟩
          · have := val x 0 (n - x) 0 xl (by omega) (by omega) (by omega)
            rw [Nat.mul_zero, Nat.add_zero, Nat.add_zero, if_pos rfl, show x + (n - x) = n by omega, Nat.mod_self] at this
            exact this
          · have := val (n - x) 0 x 0 (by omega) (by omega) xl (by omega)
            rw [Nat.mul_zero, Nat.add_zero, Nat.add_zero, if_pos rfl, show n - x + x = n by omega, Nat.mod_self] at this
            exact this
      · refine ⟨x, hx, ?_, ?_⟩
        all_goals
          have := val (x % n) (x / n) (x % n) (x / n) (md x) (dv x hx) (md x) (dv x hx)
          rw [sp, e, if_neg (by decide), show x % n + (n - x % n) = n by have := md x; omega, Nat.mod_self] at this
          simpa using this
/-! ### renamed -/
structure Perm (n : Nat) (o p : Nat → Nat) : Prop where
  ol : ∀ x, x < n → o x < n
  pl : ∀ x, x < n → p x < n
  po : ∀ x, x < n → p (o x) = x
  op : ∀ x, x < n → o (p x) = x
def ren (m : Nat → Nat → Nat) (o p : Nat → Nat) (x y : Nat) : Nat := p (m (o x) (o y))
theorem ren_grp {n : Nat} {m : Nat → Nat → Nat} {o p : Nat → Nat} (g : Grp n m) (h : Perm n o p) : Grp n (ren m o p) := by
  have c : ∀ x y, x < n → y < n → m (o x) (o y) < n := fun x y hx hy => g.cl _ _ (h.ol x hx) (h.ol y hy)
  refine ⟨fun x y hx hy => h.pl _ (c x y hx hy), fun x y z hx hy hz => ?_, ?_⟩
  · unfold ren
    rw [h.op _ (c x y hx hy), h.op _ (c y z hy hz), g.as _ _ _ (h.ol x hx) (h.ol y hy) (h.ol z hz)]
  · obtain ⟨e, ⟨l, a, b⟩, i⟩ := g.ne
    refine ⟨p e, ⟨h.pl e l, fun x hx => ?_, fun x hx => ?_⟩, fun x hx => ?_⟩
    · unfold ren; rw [h.op e l, a _ (h.ol x hx), h.po x hx]
    · unfold ren; rw [h.op e l, b _ (h.ol x hx), h.po x hx]
    · obtain ⟨y, hy, p1, p2⟩ := i (o x) (h.ol x hx)
      refine ⟨p y, h.pl y hy, ?_, ?_⟩
      · unfold ren; rw [h.op y hy, p1]
      · unfold ren; rw [h.op y hy, p2]
end G
end
section
set_option linter.all false

namespace G
/-! ### the quaternions: the law's own formula -/
def qN (u v : Nat) : Bool := !((u == 1 && v == 2) || (u == 2 && v == 3) || (u == 3 && v == 1))
def qua (x y : Nat) : Nat :=
  if 0 < x / 2 ∧ x / 2 = y / 2 then 1 - (x + y) % 2
  else if 0 < x / 2 ∧ 0 < y / 2 then 2 * (6 - x / 2 - y / 2) + ((x + y) % 2 + if qN (x / 2) (y / 2) then 1 else 0) % 2
  else 2 * (x / 2 + y / 2) + (x + y) % 2
theorem qua_grp : Grp 8 qua where
  cl := by
    have h : ∀ x : Fin 8, ∀ y : Fin 8, qua x y < 8 := by decide +kernel
    exact fun x y hx hy => h ⟨x, hx⟩ ⟨y, hy⟩
  as := by
    have h : ∀ x : Fin 8, ∀ y : Fin 8, ∀ z : Fin 8, qua (qua x y) z = qua x (qua y z) := by decide +kernel
    exact fun x y z hx hy hz => h ⟨x, hx⟩ ⟨y, hy⟩ ⟨z, hz⟩
  ne := by
    have h1 : ∀ x : Fin 8, qua 0 x = x ∧ qua x 0 = x := by decide +kernel
    have h2 : ∀ x : Fin 8, ∃ y : Fin 8, qua x y = 0 ∧ qua y x = 0 := by decide +kernel
    refine ⟨0, ⟨by decide, fun x hx => (h1 ⟨x, hx⟩).1, fun x hx => (h1 ⟨x, hx⟩).2⟩, fun x hx => ?_⟩
    obtain ⟨y, p⟩ := h2 ⟨x, hx⟩
    exact ⟨y, y.2, p⟩
/-! ### the permutations of three numbers -/
def prow (k : Nat) (row : List Nat) (n : Nat) : List (List Nat) := ((List.range n).filter fun v => decide (v ∉ row)).map fun v => row ++ [v]
def pstep (k : Nat) (fs : List (List Nat)) : List (List Nat) := fs.flatMap fun row => prow k row k
def pit (k : Nat) : Nat → List (List Nat)
  | 0 => [[]]
  | n + 1 => pstep k (pit k n)
def perms3 : List (List Nat) := [[0, 1, 2], [0, 2, 1], [1, 0, 2], [1, 2, 0], [2, 0, 1], [2, 1, 0]]
theorem pit3 : pit 3 3 = perms3 := by decide +kernel
theorem pit_small : ∀ i : Fin 4, (pit 3 i).length ≤ 6 ∧ ∀ r, r ∈ pit 3 i → r.length ≤ 3 := by decide +kernel
theorem prow_succ (k : Nat) (row : List Nat) (n : Nat) : prow k row (n + 1) = prow k row n ++ if n ∈ row then [] else [row ++ [n]] := by
  unfold prow
  rw [List.range_succ, List.filter_append, List.map_append]
  congr 1
  by_cases c : n ∈ row
  · rw [if_pos c, List.filter_cons, if_neg (by simp [c])]
    rfl
  · rw [if_neg c, List.filter_cons, if_pos (by simp [c])]
    rfl
theorem prow_len (k : Nat) (row : List Nat) (n : Nat) : (prow k row n).length ≤ n := by
  unfold prow
  rw [List.length_map]
  exact Nat.le_trans (List.length_filter_le _ _) (by rw [List.length_range]; exact Nat.le_refl _)
/-- x after y, by the places of the tuples -/
def cmp3 (x y : Nat) : List Nat := (perms3.getD y []).map fun v => (perms3.getD x []).getD v 0
def sym (x y : Nat) : Nat := perms3.findIdx fun r => decide (r = cmp3 x y)
theorem sym_grp : Grp 6 sym where
  cl := by
    have h : ∀ x : Fin 6, ∀ y : Fin 6, sym x y < 6 := by decide +kernel
    exact fun x y hx hy => h ⟨x, hx⟩ ⟨y, hy⟩
  as := by
    have h : ∀ x : Fin 6, ∀ y : Fin 6, ∀ z : Fin 6, sym (sym x y) z = sym x (sym y z) := by decide +kernel
    exact fun x y z hx hy hz => h ⟨x, hx⟩ ⟨y, hy⟩ ⟨z, hz⟩
  ne := by
    have h1 : ∀ x : Fin 6, sym 0 x = x ∧ sym x 0 = x := by decide +kernel
    have h2 : ∀ x : Fin 6, ∃ y : Fin 6, sym x y = 0 ∧ sym y x = 0 := by decide +kernel
    refine ⟨0, ⟨by decide, fun x hx => (h1 ⟨x, hx⟩).1, fun x hx => (h1 ⟨x, hx⟩).2⟩, fun x hx => ?_⟩
    obtain ⟨y, p⟩ := h2 ⟨x, hx⟩
    exact ⟨y, y.2, p⟩
end G
end
section
set_option Elab.async false
set_option linter.all false
set_option maxRecDepth 100000
/-! for i, x in enumerate(t), t a tuple: a walk of my own over what the library says of such iterators. -/
namespace PySem
open Sem (wp)
/-- enumerate(v), one argument, v told by how it begins -/
theorem myEnumNew {v : Value} {o : Obj} {H : Heap → Prop} (B : Begins v o H) :
    Meets (Builtin.«enumerate.__new__» ⟨[.type "enumerate", v], []⟩) (fun _ R s => H s.heap ∧
      R (.ok (.ret (.ref (s.heap.push o).objs.size)))
        { s with heap := (s.heap.push o).push { cls := .type "enumerate", data := .fields #[.none, .bool false, .ref s.heap.objs.size, rawInt 0, .none, .none] } }) :=
  .of_wp fun prog w A R s h => by
    obtain ⟨hp, g, d, tk, os⟩ := s
    obtain ⟨h1, h⟩ := h
    have sub := sub_enumerate
    have go : ∀ (A : Around) (E : Value → Shared → Prop) (Q : Value → Shared → Prop), Q (.ref hp.objs.size) ⟨hp.push o, g, d, tk, os⟩ → wpAny (model prog w) A (pyIter v) Q E ⟨hp, g, d, tk, os⟩ := fun A E Q q => B.iter prog w A E ⟨hp, g, d, tk, os⟩ Q h1 q
    wp_walk
    refine wpAny_stack_any fun st => wpAny_pure ?_
    split
    · rename_i c _ _ _ _ _
      cases (c == Value.type "enumerate") <;> (wp_walk using go; exact ⟨_, rfl, h⟩)
    · wp_walk using go
      exact ⟨_, rfl, h⟩
end PySem
end
section
set_option Elab.async false
set_option linter.all false
set_option maxRecDepth 100000
namespace PySem
section
variable {prog : Program} {w : World} {A : Around} {E : Value → Shared → Prop} {s : Shared}
theorem myEnumCall {v : Value} {o : Obj} {H : Heap → Prop} {Q : Value → Shared → Prop} (B : Begins v o H) (h1 : H s.heap)
    (h : ∀ h', IsEnum h' (s.heap.objs.size + 1) s.heap.objs.size 0 .none → h'.get? s.heap.objs.size = some o → (∀ b o', s.heap.get? b = some o' → h'.get? b = some o') → Q (.ref (s.heap.objs.size + 1)) { s with heap := h' }) :
    wpAny (model prog w) A (call (.type "enumerate") [v]) Q E s := by
  refine callType_new F.called_enumerate (by decide) (F.typeCall_enumerate_1 _) (F.newCall_enumerate_1 _) (fun obj => F.args_object_init_2 obj _) F.entry_enumerate_new (myEnumNew B) ⟨h1, ?_⟩
  have z : (s.heap.push o).objs.size = s.heap.objs.size + 1 := Heap.size_push ..
  show _ ∧ _
  rw [z]
  have en : IsEnum ((s.heap.push o).push { cls := .type "enumerate", data := .fields #[.none, .bool false, .ref s.heap.objs.size, rawInt 0, .none, .none] }) (s.heap.objs.size + 1) s.heap.objs.size 0 .none := by
    have q := Heap.get?_push_size (s.heap.push o) (o := { cls := .type "enumerate", data := .fields #[.none, .bool false, .ref s.heap.objs.size, rawInt 0, .none, .none] }) rfl
    rw [z] at q
    exact q
  exact ⟨⟨_, en, rfl⟩, h _ en (Heap.get?_push_of_some _ (Heap.get?_push_size _ B.free)) fun b o' x => Heap.get?_push_of_some _ (Heap.get?_push_of_some _ x)⟩
end
end PySem
namespace Wk
open PySem PySem.Spec PyProof.Rows L2
/-- the tuple at a, each item in a new pair with its place -/
def IteT (K : PySem.W.Frag) (a : Addr) : It where
  go := fun i H => ∃ (xs : List V) (x : V), SqT K H a xs ∧ xs[i]? = some x
  yld := fun i H v H' => ∃ T x, v = .ref T ∧ H T = none ∧ H' = upd H T (.tup [.int (i : Nat), x]) ∧ ∀ xs, SqT K H a xs → xs[i]? = some x
  stop := fun i H => ∃ xs : List V, SqT K H a xs ∧ xs.length ≤ i
theorem turnT {P : Program} {w : World} {K : PySem.W.Frag} {elts : List Expr} {kk : Nat} {tpos : Pos} (a e it : Addr) :
    Turn P w K (.Tuple elts kk tpos) (IteT K a) [e, it] e (fun i h => (∃ old, IsEnum h e it ((i : Nat) : Int) old) ∧ h.IsTupleIter it a i ∧ e ≠ it ∧ a ≠ it ∧ a ≠ e) where
  mem := List.mem_cons_self
  obj := fun i h st b hb => by
    obtain ⟨⟨old, he⟩, ⟨o, ho, hc, hd⟩, _⟩ := st
    rcases List.mem_cons.mp hb with z | z
    · subst z
      refine ⟨_, he, fun v q => ?_⟩
      cases q
    · have z := List.mem_singleton.mp z
      subst z
      exact ⟨o, ho, fun v q => by rw [hd] at q; cases q⟩
  keep := fun i h h' st k => by
    obtain ⟨⟨old, he⟩, hi, r⟩ := st
    exact ⟨⟨old, k e (by simp) _ he⟩, hi.at fun o q => k it (by simp) o q, r⟩
  item := by
    intro X hP hw hK hc i pins s σ H E I hf st hg
    subst hP hw hK
    obtain ⟨⟨old, he⟩, hit, hne, hai, hae⟩ := st
    obtain ⟨xs, x, hq, hx⟩ := hg
    obtain ⟨its, rv, p, hz⟩ := I.tuple hq
    obtain ⟨u, hu, ru⟩ := rv.get hx
    have tup : s.heap.IsTuple a its.toArray := p
    have lt : i < its.toArray.size := by
      have q := (List.getElem?_eq_some_iff.mp hu).1
      simpa using q
    have hel : e < s.heap.objs.size := Heap.lt_size he
    have hil : it < s.heap.objs.size := by obtain ⟨_, q, _⟩ := hit; exact Heap.lt_size q
    have hh : X.A.in1.handled = none := I.ok.hd hc
    refine wpAny_pyNext_enum_itemD (Draws.tuple hh it a hai its.toArray) he ⟨hit, tup⟩ lt hne (by simp [hne, hae.symm]) fun y h' tk hy ho st' hT hsz hk => ?_
    have ey : y = u := by
      have q : its.toArray[i]? = some u := by simpa using hu
      exact Option.some.inj (hy.symm.trans q)
    subst ey
    refine ⟨_, rfl, wpAny_letOwnedTupleGo_enum (s := { s with heap := h', toks := tk + 1 }) ho fun h'' he' sb => ?_⟩
    have hT2 : h''.get? s.heap.objs.size = some { cls := .type "tuple", data := .seq #[.int i tk, y] } := (sb.2 _ (Nat.ne_of_gt hel)).trans hT
    have new : ObjOk X.prog X.w (upd H s.heap.objs.size (.tup [.int (i : Nat), x])) h'' s.heap.objs.size (.tup [.int (i : Nat), x]) :=
      ⟨by show 2 ≤ sizeLine; decide, [.int i tk, y], .cons ⟨_, rfl⟩ (.cons ru .nil), ⟨_, hT2, rfl, _, rfl⟩⟩
    have I1 : Inv X pins σ (upd H s.heap.objs.size (.tup [.int (i : Nat), x])) { s with heap := h'', toks := tk + 1 } :=
      I.turnedNew (ch := [e, it]) (fun b ob hb q => (sb.2 b (fun z => hb (by simp [z]))).trans (hk b ob (fun z => hb (by simp [z])) (fun z => hb (by simp [z])) q)) hf (Nat.le_refl _) new
    refine ⟨.ref s.heap.objs.size, _, I1, rfl, ⟨_, x, rfl, I.hok.fresh (Nat.le_refl _), rfl, fun ys hy' => by rw [I.tuple_inj hy' hq]; exact hx⟩, ⟨⟨y, ?_⟩, st'.1.at fun o q => (sb.2 it (Ne.symm hne)).trans q, hne, hai, hae⟩, fun b hb => ?_⟩
    · have e1 : ((i + 1 : Nat) : Int) = (i : Int) + 1 := by omega
      rw [e1]
      exact he'
    · have hb' : b < s.heap.objs.size := by
        rcases List.mem_cons.mp hb with z | z
        · rw [z]; exact hel
        · rw [List.mem_singleton.mp z]; exact hil
      rw [upd_ne (Nat.ne_of_lt hb')]
      exact (hf b hb).1
  done := by
    intro X hP hw hK hc i pins s σ H E I hf st hg
    subst hP hw hK
    obtain ⟨⟨old, he⟩, hit, hne, hai, hae⟩ := st
    obtain ⟨xs, hq, hx⟩ := hg
    obtain ⟨its, rv, p, hz⟩ := I.tuple hq
    have tup : s.heap.IsTuple a its.toArray := p
    have hh : X.A.in1.handled = none := I.ok.hd hc
    obtain ⟨f0, f1, f2, f3, f4, f5⟩ := hf it (by simp)
    have hl := rv.length
    have no : its.toArray[i]? = none := by
      simp only [List.getElem?_toArray]
      exact List.getElem?_eq_none (by omega)
    -- nothing is drawn any more
    have D : Draws X.prog X.w X.A.in1 it [it, a] 0 (fun _ _ => False) (fun _ h => h.IsTupleIter it a i ∧ h.IsTuple a its.toArray) :=
      { live := fun _ _ q => let ⟨o, z, _⟩ := q.1; ⟨o, z⟩
        frame := fun _ _ _ q k => ⟨q.1.at fun o z => k it (by simp) o z, q.2.at fun o z => k a (by simp) o z⟩
        item := fun _ _ _ _ q => absurd q (Nat.not_lt_zero _)
        done := fun _ _ _ q k => wpAny_nextOf_tuple_end hh q.1 q.2 no k }
    exact wpAny_pyNext_enum_endD D he ⟨hit, tup⟩ fun h' eb => ⟨rfl, I.turned (t' := s.toks) (fun b o hb q => eb b o hb q) f0 f1 f3 f4 f5⟩
  self := fun A i s Q E st h => let ⟨⟨_, he⟩, _⟩ := st; wpAny_pyIter_enum he h
def iEnumT (K : PySem.W.Frag) (ta : TA) : TI := fun σ H R => ta σ H fun vs H1 => ∃ a xs, vs = [.ref a] ∧ SqT K H1 a xs ∧ R (IteT K a) H1
theorem i_enumT (K : PySem.W.Frag) {X : Cx} {e : Expr} {ta : TA} {p pos tpos : Pos} {elts : List Expr} {kk : Nat} (hg : Gl X "enumerate") (hm : X.mg "enumerate" = none) (ha : PA X [e] ta) (hK : X.K = K := by rfl)
    (hs : starEach [e] X.env = [(false, eval e X.env)] := by rfl) : PI X (.Tuple elts kk tpos) (.Call (.Name "enumerate" p) [e] [] pos) (iEnumT K ta) := by
  subst hK
  refine ⟨fun pins s σ H R I h => ?_⟩
  refine Call_ (ld_blt I hg hm boot_enumerate (PyProof.Rows.callWith_type1 (thn (ha.run pos pins s σ H _ I h) fun us s1 q1 => ?_) hs rfl))
  obtain ⟨vs, H1, I1, r1, a, xs, ex, hq, q⟩ := q1
  subst ex
  obtain ⟨u, rfl, r⟩ := vals1 r1
  cases r
  obtain ⟨its, rv, tup, hz⟩ := I1.tuple hq
  have al : a < s1.heap.objs.size := tup.lt
  refine myEnumCall (begins_tuple a its.toArray) tup fun h' he hit hk => wpAny_pyIter_enum he ?_
  have I2 : Inv X pins σ H1 { s1 with heap := h' } := I1.kept (t' := s1.toks) hk
  refine ⟨s1.heap.objs.size + 1, [s1.heap.objs.size + 1, s1.heap.objs.size], _, _, H1, rfl, I2, turnT a (s1.heap.objs.size + 1) s1.heap.objs.size, ⟨⟨.none, he⟩, ⟨_, hit, rfl, rfl⟩, Nat.succ_ne_self _, Nat.ne_of_lt al, Nat.ne_of_lt (Nat.lt_succ_of_lt al)⟩, fun b hb => ?_, q⟩
  have le : s1.heap.objs.size ≤ b := by
    rcases List.mem_cons.mp hb with z | z
    · rw [z]; exact Nat.le_succ _
    · rw [List.mem_singleton.mp z]; exact Nat.le_refl _
  exact I1.fpOk le (I1.hok.fresh le)
theorem i_enumL (K : PySem.W.Frag) {X : Cx} {e : Expr} {ta : TA} {p pos tpos : Pos} {elts : List Expr} {kk : Nat} (hg : Gl X "enumerate") (hm : X.mg "enumerate" = none) (ha : PA X [e] ta) (hK : X.K = K := by rfl)
    (hs : starEach [e] X.env = [(false, eval e X.env)] := by rfl) : PI X (.Tuple elts kk tpos) (.Call (.Name "enumerate" p) [e] [] pos) (iEnum K ta) := by
  subst hK
  exact pi_enum hg hm ha hs
/-! loops over them -/
section
variable {K : PySem.W.Frag} {ta : TA} {t : TS} {g : TG} {D : Ends} {σ : L2.St} {H : Hp} {a : Addr} {xs : List V}
theorem f_enumT (Pv : Nat → L2.St → Hp → Prop) (hs : SqT K H a xs) (hta : ∀ R' : List V → Hp → Prop, R' [.ref a] H → ta σ H R') (h0 : Pv 0 σ H) (hl : ∀ i σ' H', Pv i σ' H' → SqT K H' a xs)
    (step : ∀ (i : Nat) x σ' H' T, xs[i]? = some x → Pv i σ' H' → H' T = none → g (.ref T) σ' (upd H' T (.tup [.int (i : Int), x])) fun σ2 H2 => TurnOf (Pv (i + 1)) D t σ2 H2) (done : ∀ σ' H', Pv xs.length σ' H' → D.nx σ' H') (gm : ∀ v σ H R R', (∀ σ H, R σ H → R' σ H) → g v σ H R → g v σ H R') : tFor (iEnumT K ta) g t D σ H := by
  refine hta _ ⟨a, xs, rfl, hs, fun i m σ' H' => m = xs.length - i ∧ i ≤ xs.length ∧ Pv i σ' H', ⟨xs.length, by simp, Nat.zero_le _, h0⟩, ?_⟩
  rintro i m σ' H' ⟨rfl, hi, p⟩
  have q := hl i σ' H' p
  by_cases lt : i < xs.length
  · refine .inr ⟨⟨xs, xs[i], q, List.getElem?_eq_getElem lt⟩, Pv (i + 1), fun σ2 H2 p' => ⟨xs.length - (i + 1), by omega, rfl, lt, p'⟩, fun v H2 y => ?_⟩
    obtain ⟨T, x, rfl, hT, rfl, hx⟩ := y
    exact gm _ _ _ _ _ (fun _ _ z => z.go) (step i x σ' H' T (hx xs q) p hT)
  · have e : i = xs.length := by omega
    subst e
    exact .inl ⟨⟨xs, q, Nat.le_refl _⟩, done σ' H' p⟩
end
/-- the target i, x of such a loop -/
theorem g2_mono {K : PySem.W.Frag} {n i j : Nat} (v : V) (σ : L2.St) (H : Hp) (R R' : L2.St → Hp → Prop) (h : ∀ σ H, R σ H → R' σ H) (q : gTup K n (gCons (gName i) (gCons (gName j) gNil)) v σ H R) : gTup K n (gCons (gName i) (gCons (gName j) gNil)) v σ H R' := by
  obtain ⟨a, xs, rfl, hs, hl, v1, r1, rfl, v2, r2, rfl, e, q⟩ := q
  exact ⟨a, _, rfl, hs, hl, v1, _, rfl, v2, _, rfl, e, h _ _ q⟩
end Wk
end
section
set_option Elab.async false
set_option linter.all false
set_option maxRecDepth 100000
namespace Wk
open PySem PySem.Spec PyProof.Rows L2
section
variable {K : PySem.W.Frag} {ta : TA} {t : TS} {g : TG} {D : Ends} {σ : L2.St} {H : Hp} {a : Addr} {xs : List V}
theorem f_enumL (Pv : Nat → L2.St → Hp → Prop) (hs : SqL K H a xs) (hta : ∀ R' : List V → Hp → Prop, R' [.ref a] H → ta σ H R') (h0 : Pv 0 σ H) (hl : ∀ i σ' H', Pv i σ' H' → SqL K H' a xs)
    (step : ∀ (i : Nat) x σ' H' T, xs[i]? = some x → Pv i σ' H' → H' T = none → g (.ref T) σ' (upd H' T (.tup [.int (i : Int), x])) fun σ2 H2 => TurnOf (Pv (i + 1)) D t σ2 H2) (done : ∀ σ' H', Pv xs.length σ' H' → D.nx σ' H') (gm : ∀ v σ H R R', (∀ σ H, R σ H → R' σ H) → g v σ H R → g v σ H R') : tFor (iEnum K ta) g t D σ H := by
  refine hta _ ⟨a, xs, rfl, hs, fun i m σ' H' => m = xs.length - i ∧ i ≤ xs.length ∧ Pv i σ' H', ⟨xs.length, by simp, Nat.zero_le _, h0⟩, ?_⟩
  rintro i m σ' H' ⟨rfl, hi, p⟩
  have q := hl i σ' H' p
  by_cases lt : i < xs.length
  · refine .inr ⟨⟨xs, xs[i], q, List.getElem?_eq_getElem lt⟩, Pv (i + 1), fun σ2 H2 p' => ⟨xs.length - (i + 1), by omega, rfl, lt, p'⟩, fun v H2 y => ?_⟩
    obtain ⟨T, x, rfl, hT, rfl, hx⟩ := y
    exact gm _ _ _ _ _ (fun _ _ z => z.go) (step i x σ' H' T (hx xs q) p hT)
  · have e : i = xs.length := by omega
    subst e
    exact .inl ⟨⟨xs, q, Nat.le_refl _⟩, done σ' H' p⟩
end
theorem i_enumS (K : PySem.W.Frag) {X : Cx} {e : Expr} {ta : TA} {p pos tpos : Pos} {elts : List Expr} {kk : Nat} (hg : Gl X "enumerate") (hm : X.mg "enumerate" = none) (ha : PA X [e] ta) (hK : X.K = K := by rfl)
    (hs : starEach [e] X.env = [(false, eval e X.env)] := by rfl) : PI X (.Tuple elts kk tpos) (.Call (.Name "enumerate" p) [e] [] pos) (fun σ H R => iEnum K ta σ H R ∨ iEnumT K ta σ H R) := PI.or (i_enumL K hg hm ha hK hs) (i_enumT K hg hm ha hK hs)
theorem tFor_inl {wi wi' : TI} {g : TG} {t : TS} {D : Ends} {σ : L2.St} {H : Hp} (h : tFor wi g t D σ H) : tFor (fun σ H R => wi σ H R ∨ wi' σ H R) g t D σ H := Or.inl h
theorem tFor_inr {wi wi' : TI} {g : TG} {t : TS} {D : Ends} {σ : L2.St} {H : Hp} (h : tFor wi' g t D σ H) : tFor (fun σ H R => wi σ H R ∨ wi' σ H R) g t D σ H := Or.inr h
theorem tLc_inl {wi wi' : TI} {g : TG} {t : TT} {te : TE} {vs : List Nat} {σ : L2.St} {H : Hp} {Q : VK} (h : tLc wi g t te vs σ H Q) : tLc (fun σ H R => wi σ H R ∨ wi' σ H R) g t te vs σ H Q := Or.inl h
theorem tLc_inr {wi wi' : TI} {g : TG} {t : TT} {te : TE} {vs : List Nat} {σ : L2.St} {H : Hp} {Q : VK} (h : tLc wi' g t te vs σ H Q) : tLc (fun σ H R => wi σ H R ∨ wi' σ H R) g t te vs σ H Q := Or.inr h
/-! comprehensions that leave turns out -/
section
variable {K : PySem.W.Frag} {n : Nat} {ta : TA} {j l : Nat} {tt : TT} {te : TE} {vs : List Nat} {σ : L2.St} {H : Hp} {Q : VK} {a : Addr} {xs : List V}
open Evl in
theorem lc_turnF {f : Nat → Bool} {v : Nat → V} {D : Addr} {i : Nat} {σ2 : L2.St} {H1 : Hp} (hi : i < 50000) (hD : H D = none) (s1 : Same H H1) (hL : H1 D = some (.lst (given i f v)))
    (step : ∀ QT : Bool → Hp → Prop, (∀ H2, Same H1 H2 → QT (f i) H2) → tt σ2 H1 QT)
    (val : ∀ H2 (Q' : VK), f i = true → Same H1 H2 → (∀ H3, Same H2 H3 → Q' (v i) H3) → te σ2 H2 Q') :
    tt σ2 H1 fun b H3 => if b = true then te σ2 H3 fun y H4 => ∃ acc, H4 D = some (.lst acc) ∧ acc.length < sizeLine ∧ (Same H (upd H4 D (.lst (acc ++ [y]))) ∧ (upd H4 D (.lst (acc ++ [y]))) D = some (.lst (given (i + 1) f v))) else (Same H H3 ∧ H3 D = some (.lst (given (i + 1) f v))) := by
  refine step _ fun H2 s2 => ?_
  cases hf : f i with
  | true =>
    show te σ2 H2 _
    refine val H2 _ hf s2 fun H3 s3 => ⟨given i f v, s3 _ _ (s2 _ _ hL), szlt (by have := given_len i f v; omega), fun b o e => ?_, ?_⟩
    · rw [upd_ne (ne_of_none e hD)]; exact s3 _ _ (s2 _ _ (s1 _ _ e))
    · rw [given_yes hf]; exact upd_same
  | false =>
    show Same H H2 ∧ H2 D = some (.lst (given (i + 1) f v))
    rw [given_no hf]
    exact ⟨s1.trans s2, s2 _ _ hL⟩
open Evl in
theorem lc_rngF (f : Nat → Bool) (v : Nat → V) (hn : n ≤ 40000) (hta : ∀ R' : List V → Hp → Prop, R' [.int n] H → ta σ H R')
    (step : ∀ (i : Nat) H1 (QT : Bool → Hp → Prop), i < n → Same H H1 → (∀ H2, Same H1 H2 → QT (f i) H2) → tt ((wipe σ vs).set j (some (.int (i : Int)))) H1 QT)
    (val : ∀ (i : Nat) H1 (Q' : VK), i < n → f i = true → Same H H1 → (∀ H2, Same H1 H2 → Q' (v i) H2) → te ((wipe σ vs).set j (some (.int (i : Int)))) H1 Q')
    (done : ∀ D H1, H D = none → Same H H1 → H1 D = some (.lst (given n f v)) → Q (.ref D) H1) (hw : ∀ x, wipe ((wipe σ vs).set j (some x)) vs = wipe σ vs := by intro _; rfl) : tLc (iRng1 ta) (gName j) tt te vs σ H Q := by
  refine hta _ ⟨n, rfl, by omega, by omega, fun D hD => ?_⟩
  have en : ((n : Int)).toNat = n := Int.toNat_natCast n
  rw [en]
  refine lc_range (lo := 0) (n := n) (fun i H1 => Same H H1 ∧ H1 D = some (.lst (given i f v))) ⟨same_new hD, upd_same⟩ ?_ ?_
  · rintro i H1 hi ⟨s1, hL⟩
    have e0 : (0 : Int) + (i : Int) = (i : Int) := Int.zero_add _
    rw [e0]
    refine ⟨hw _, ?_⟩
    exact lc_turnF (by omega) hD s1 hL (fun QT k => step i H1 QT hi s1 k) (fun H2 Q' hf s2 k => val i H2 Q' hi hf (s1.trans s2) k)
  · rintro H1 ⟨s1, hL⟩
    exact done D H1 hD s1 hL
open Evl in
/-- over enumerate(tuple): the target i, x -/
theorem lc_enumF (f : Nat → Bool) (v : Nat → V) (hs : SqT K H a xs) (hz : xs.length ≤ 40000) (hta : ∀ R' : List V → Hp → Prop, R' [.ref a] H → ta σ H R')
    (step : ∀ (i : Nat) x H1 (QT : Bool → Hp → Prop), xs[i]? = some x → Same H H1 → (∀ H2, Same H1 H2 → QT (f i) H2) → tt (((wipe σ vs).set j (some (.int (i : Int)))).set l (some x)) H1 QT)
    (val : ∀ (i : Nat) x H1 (Q' : VK), xs[i]? = some x → f i = true → Same H H1 → (∀ H2, Same H1 H2 → Q' (v i) H2) → te (((wipe σ vs).set j (some (.int (i : Int)))).set l (some x)) H1 Q')
    (done : ∀ D H1, H D = none → Same H H1 → H1 D = some (.lst (given xs.length f v)) → Q (.ref D) H1) (hw : ∀ x y, wipe (((wipe σ vs).set j (some x)).set l (some y)) vs = wipe σ vs := by intro _ _; rfl) :
    tLc (iEnumT K ta) (gTup K 2 (gCons (gName j) (gCons (gName l) gNil))) tt te vs σ H Q := by
  refine hta _ ⟨a, xs, rfl, hs, fun D hD => ?_⟩
  refine ⟨fun i m H1 => m = xs.length - i ∧ i ≤ xs.length ∧ Same H H1 ∧ H1 D = some (.lst (given i f v)), ⟨xs.length, by simp, Nat.zero_le _, same_new hD, upd_same⟩, ?_⟩
  rintro i m H1 ⟨rfl, hi, s1, hL⟩
  have q := s1.sqT hs
  by_cases lt : i < xs.length
  · refine .inr ⟨⟨xs, xs[i], q, List.getElem?_eq_getElem lt⟩, fun H' => Same H H' ∧ H' D = some (.lst (given (i + 1) f v)), fun H2 p' => ⟨xs.length - (i + 1), by omega, rfl, lt, p'⟩, fun z H2 y => ?_⟩
    obtain ⟨T, x, rfl, hT, rfl, hx⟩ := y
    have hx' := hx xs q
    refine r_gTup (SqT.of upd_same) rfl (r_gCons (r_gName (r_gCons (r_gName (r_gNil ⟨hw _ _, ?_⟩)))))
    have s2 := s1.trans (same_new (o := .tup [.int (i : Int), x]) hT)
    exact lc_turnF (by omega) hD s2 (same_new hT _ _ hL) (fun QT k => step i x _ QT hx' s2 k) (fun H2 Q' hf s3 k => val i x H2 Q' hx' hf (s2.trans s3) k)
  · have e : i = xs.length := by omega
    subst e
    exact .inl ⟨⟨xs, q, Nat.le_refl _⟩, done D H1 hD s1 hL⟩
theorem given_none {n : Nat} {f : Nat → Bool} {v : Nat → V} (h : ∀ i, i < n → f i = false) : Evl.given n f v = [] := by
  unfold Evl.given
  rw [List.filter_eq_nil_iff.mpr fun i hi => by rw [h i (List.mem_range.mp hi)]; decide]
  rfl
theorem given_len0 {n : Nat} {f : Nat → Bool} {v : Nat → V} : (Evl.given n f v).length = 0 ↔ ∀ i, i < n → f i = false := by
  unfold Evl.given
  rw [List.length_map, List.length_eq_zero_iff, List.filter_eq_nil_iff]
  exact ⟨fun h i hi => by simpa using h i (List.mem_range.mpr hi), fun h i hi => by rw [h i (List.mem_range.mp hi)]; decide⟩
end
/-! steps of my own -/
section
variable {K : PySem.W.Frag} {H : Hp} {Q : VK} {ta tb tc : TE} {r r' : R2} {σ : L2.St} {x : V} {bs : List Bool} {p : Addr} {C dx : Addr} {fs : List (Str × V)} {f : Str} {v : V}
theorem r_nT {A B : Prop} (h : B) : if (!true) = true then A else B := h
theorem r_nF {A B : Prop} (h : A) : if (!false) = true then A else B := h
theorem r_chain (h : ta σ H fun x H1 => tb σ H1 fun y H2 => r x y H2 fun z H3 => ∃ k, z = .bl k ∧ (if k = true then tc σ H3 fun w' H4 => r' y w' H4 Q else Q (.bl false) H3)) : tChain r r' ta tb tc σ H Q := h
theorem n_isi {c : V} {t u : Value} {b : Bool} (k : ClsV c u) (ty : TyX K H x t) (e : PySem.W.kitOne K t u = some b) (q : Q (.bl b) H) : rIsi K [x, c] H Q := ⟨x, c, t, u, b, rfl, k, ty, e, q⟩
theorem n_isiB {n m : String} {b : Bool} (ty : TyX K H x (.type n)) (e : kitB n m = some b) (q : Q (.bl b) H) : rIsi K [x, .ty m] H Q := n_isi (.ty m) ty (kit_ty e) q
theorem n_isiT {cs : List V} {t : Value} {us : List Value} {b : Bool} (hT : H p = some (.tup cs)) (k : Paired ClsV cs us) (ty : TyX K H x t) (e : PySem.W.kitAny K t us = some b) (q : Q (.bl b) H) : rIsiT K [x, .ref p] H Q := ⟨x, p, cs, t, us, b, rfl, hT, k, ty, e, q⟩
theorem n_all (hs : SqL K H p (bs.map V.bl)) (q : Q (.bl (bs.all id)) H) : rAll K [.ref p] H Q := ⟨p, bs, rfl, hs, q⟩
theorem r_fld (h : ta σ H fun x H1 => ∃ a C dx fs v, x = .ref a ∧ H1 a = some (.ins C dx fs) ∧ Cls K C ∧ NoAttr K C f ∧ fs.lookup f = some v ∧ Q v H1) : tFld K ta f σ H Q := h
theorem n_fld {a : Addr} (e : H a = some (.ins C dx fs)) (c : Cls K C) (n : NoAttr K C f) (l : fs.lookup f = some v) (q : Q v H) : ∃ a' C dx fs v, V.ref a = .ref a' ∧ H a' = some (.ins C dx fs) ∧ Cls K C ∧ NoAttr K C f ∧ fs.lookup f = some v ∧ Q v H := ⟨a, C, dx, fs, v, rfl, e, c, n, l, q⟩
theorem r_sfld {tv : TE} {D : Ends} (h : tv σ H fun y H1 => ta σ H1 fun x H2 => ∃ a C dx fs, x = .ref a ∧ H2 a = some (.ins C dx fs) ∧ Cls K C ∧ NoAttr K C f ∧ fs.length < 1000 ∧ D.nx σ (upd H2 a (.ins C dx (putF f y fs)))) : sFld K ta tv f D σ H := h
end
/-- the type of a list or a tuple -/
theorem sq_ty {K : PySem.W.Frag} {H : Hp} {a : Addr} {xs : List V} (h : SqT K H a xs) : TyX K H (.ref a) (.type "tuple") := by
  rcases h with (e | ⟨o, e⟩) | ⟨o, its, n, e, c, _⟩
  · exact .base (.tup e)
  · exact .fTuple e
  · exact .kTuple e c
theorem sl_ty {K : PySem.W.Frag} {H : Hp} {a : Addr} {xs : List V} (h : SqL K H a xs) : TyX K H (.ref a) (.type "list") := by
  rcases h with (e | ⟨o, e⟩) | ⟨o, its, n, e, c, _⟩
  · exact .base (.lst e)
  · exact .base (.frz e)
  · exact .kList e c
end Wk
end
section
set_option Elab.async false
set_option linter.all false
set_option maxRecDepth 100000
namespace Wk
open PySem PySem.Spec PyProof.Rows L2
/-- the law's state of drawing stands at p, its copy of the script at q -/
def DS (H : Hp) (p q : Addr) : Prop := ∃ (ns : List Int) (i b l s : Int), H p = some (.lst [.ref q, .int i, .int b, .int l, .int s]) ∧ H q = some (.lst (ns.map V.int)) ∧ ns.length ≤ 63 ∧ 0 ≤ i ∧ i ≤ 63 ∧ 0 ≤ b ∧ 0 ≤ l ∧ l ≤ 60 ∧ 0 ≤ s ∧ s < 2147483648 ∧ (l = 0 → b = 0)
def spStart (K : PySem.W.Frag) : Sp := fun vs H Q _ => ∃ (a : Addr) (ns : List Int), vs = [.ref a] ∧ SqL K H a (ns.map V.int) ∧ ns.length ≤ 63 ∧ ∀ H' p q, H p = none → Same H H' → DS H' p q → Q (.ref p) H'
def spDraw : Sp := fun vs H Q _ => ∃ (p q : Addr) (lim : Int), vs = [.ref p, .int lim] ∧ DS H p q ∧ lim < 2 ^ 100 ∧ ∀ H' r, ExP p H H' → DS H' p q → 0 ≤ r → (0 < lim → r < lim) → Q (.int r) H'
theorem DS.mono {H H' : Hp} {p q : Addr} (s : Same H H') (d : DS H p q) : DS H' p q := by
  obtain ⟨ns, i, b, l, z, h1, h2, r⟩ := d
  exact ⟨ns, i, b, l, z, s _ _ h1, s _ _ h2, r⟩
theorem DS.ne {H : Hp} {p q a : Addr} (d : DS H p q) (h : H a = none) : a ≠ p ∧ a ≠ q := by
  obtain ⟨ns, i, b, l, z, h1, h2, r⟩ := d
  exact ⟨(ne_of_none h1 h).symm, (ne_of_none h2 h).symm⟩
theorem DS.mut {H H' : Hp} {p q D : Addr} (d : DS H p q) (hp : D ≠ p) (hq : D ≠ q) (s : ExP D H H') : DS H' p q := by
  obtain ⟨ns, i, b, l, z, h1, h2, r⟩ := d
  exact ⟨ns, i, b, l, z, s _ _ hp.symm h1, s _ _ hq.symm h2, r⟩
theorem TabL.exP {K : PySem.W.Frag} {H H' : Hp} {a p q : Addr} {n : Nat} {m : Nat → Nat → Nat} (ap : a ≠ p) (d : DS H p q) (s : ExP p H H') (t : TabL K H a n m) : TabL K H' a n m := by
  obtain ⟨ns, i, b, l, z, h1, _⟩ := d
  exact t.mut h1 ap s
/-! ### permutations out of lists -/
theorem perm_erase {α : Type} : ∀ {l : List α} {k : Nat} {x : α}, l[k]? = some x → (x :: l.eraseIdx k).Perm l
  | a :: l, 0, x, h => by
    have e : a = x := Option.some.inj h
    subst e
    exact List.Perm.refl _
  | a :: l, k + 1, x, h => by
    have ih := perm_erase (l := l) (k := k) (x := x) h
    exact (List.Perm.swap a x _).trans (ih.cons a)
theorem perm_of {n : Nat} {l : List Nat} (h : l.Perm (List.range n)) : ∃ o p : Nat → Nat, G.Perm n o p ∧ l = (List.range n).map o := by
  have len : l.length = n := by rw [h.length_eq, List.length_range]
  have mem : ∀ x, x ∈ l ↔ x < n := fun x => by rw [h.mem_iff, List.mem_range]
  have nd : l.Nodup := h.nodup_iff.mpr List.nodup_range
  let o : Nat → Nat := fun i => l.getD i 0
  have ho : ∀ i (hi : i < n), o i = l[i]'(by omega) := fun i hi => by
    show l.getD i 0 = _
    rw [List.getD_eq_getElem?_getD, List.getElem?_eq_getElem (by omega)]
    rfl
  have ex : ∀ x, x < n → ∃ i, i < n ∧ o i = x := fun x hx => by
    obtain ⟨i, hi, e⟩ := List.getElem_of_mem ((mem x).mpr hx)
    exact ⟨i, by omega, by rw [ho i (by omega), e]⟩
  have inj : ∀ i j, i < n → j < n → o i = o j → i = j := fun i j hi hj e => by
    rw [ho i hi, ho j hj] at e
    exact (List.getElem_inj nd).mp e
  refine ⟨o, fun x => if h : ∃ i, i < n ∧ o i = x then h.choose else 0, ⟨fun x hx => ?_, fun x hx => ?_, fun x hx => ?_, fun x hx => ?_⟩, ?_⟩
  · rw [ho x hx]
    exact (mem _).mp (List.getElem_mem _)
  · show (if h : ∃ i, i < n ∧ o i = x then h.choose else 0) < n
    rw [dif_pos (ex x hx)]
    exact (ex x hx).choose_spec.1
  · show (if h : ∃ i, i < n ∧ o i = o x then h.choose else 0) = x
    have q : ∃ i, i < n ∧ o i = o x := ⟨x, hx, rfl⟩
    rw [dif_pos q]
    exact inj _ _ q.choose_spec.1 hx q.choose_spec.2
  · show o (if h : ∃ i, i < n ∧ o i = x then h.choose else 0) = x
    rw [dif_pos (ex x hx)]
    exact (ex x hx).choose_spec.2
  · apply List.ext_getElem?
    intro i
    rw [List.getElem?_map]
    by_cases c : i < n
    · rw [List.getElem?_eq_getElem (by omega), List.getElem?_range c, Option.map_some, ho i c]
    · rw [List.getElem?_eq_none (by omega), List.getElem?_eq_none (by rw [List.length_range]; omega)]
      rfl
theorem map_erase {α β : Type} (f : α → β) : ∀ (l : List α) (k : Nat), (l.map f).eraseIdx k = (l.eraseIdx k).map f
  | [], k => rfl
  | a :: l, 0 => rfl
  | a :: l, k + 1 => by
    show f a :: (l.map f).eraseIdx k = f a :: (l.eraseIdx k).map f
    rw [map_erase f l k]
theorem seq_ix {r : Int} {n : Nat} (h0 : 0 ≤ r) (h : r < n) : seqIndex? r n = some r.toNat := by
  have e : ixN n r = some r.toNat := by unfold ixN; rw [if_pos h0, if_pos h]
  exact (ixN_seq e).1
/-- the numbers below n in some order -/
def PermL (H : Hp) (a : Addr) (n : Nat) (o : Nat → Nat) : Prop := H a = some (.lst (natsV n o))
def natL (l : List Nat) : List V := l.map fun (x : Nat) => V.int (x : Int)
theorem natL_len {l : List Nat} : (natL l).length = l.length := List.length_map ..
theorem natL_range (n : Nat) : natL (List.range n) = natsV n id := rfl
theorem natL_flat {l : List Nat} : (natL l).all flatV = true := by
  unfold natL
  rw [List.all_map]
  exact List.all_eq_true.mpr fun _ _ => rfl
theorem inV_natL (v : Nat) : ∀ l : List Nat, inV (.int (v : Int)) (natL l) = decide (v ∈ l)
  | [] => rfl
  | a :: l => by
    have ih := inV_natL v l
    unfold inV at ih ⊢
    show (eqV (.int (a : Int)) (.int (v : Int)) || (natL l).any fun y => eqV y (.int (v : Int))) = decide (v ∈ a :: l)
    rw [ih]
    have e : eqV (.int (a : Int)) (.int (v : Int)) = decide (v = a) := by
      show ((a : Int) == (v : Int)) = decide (v = a)
      by_cases c : v = a
      · subst c; simp
      · rw [decide_eq_false c]; exact beq_eq_false_iff_ne.mpr (by omega)
    rw [e]
    simp [List.mem_cons]
theorem n_notIn {K : PySem.W.Frag} {H : Hp} {Q : VK} {x : V} {p : Addr} {xs : List V} (h : SqL K H p xs ∨ SqT K H p xs) (hx : flatV x = true) (ha : xs.all flatV = true) (q : Q (.bl (!inV x xs)) H) : rIn K true x (.ref p) H Q := ⟨p, xs, rfl, h, hx, ha, q⟩
theorem n_isIn {K : PySem.W.Frag} {H : Hp} {Q : VK} {x : V} {p : Addr} {xs : List V} (h : SqL K H p xs ∨ SqT K H p xs) (hx : flatV x = true) (ha : xs.all flatV = true) (q : Q (.bl (inV x xs)) H) : rIn K false x (.ref p) H Q := ⟨p, xs, rfl, h, hx, ha, q⟩
/-! ### what the table makers promise -/
def spCyc (K : PySem.W.Frag) : Sp := fun vs H Q _ => ∃ n : Nat, vs = [.int n] ∧ n ≤ 60 ∧ 0 < n ∧ RetTab K H n (G.cyc n) Q
def spBoth (K : PySem.W.Frag) : Sp := fun vs H Q _ => ∃ (a b : Addr) (n k : Nat) (m1 m2 : Nat → Nat → Nat), vs = [.ref a, .ref b] ∧ n * k ≤ 60 ∧ 0 < n ∧ 0 < k ∧ TabL K H a n m1 ∧ TabL K H b k m2 ∧ RetTab K H (n * k) (G.prd k m1 m2) Q
def spDih (K : PySem.W.Frag) : Sp := fun vs H Q _ => ∃ n : Nat, vs = [.int n] ∧ n ≤ 30 ∧ 0 < n ∧ RetTab K H (2 * n) (G.dih n) Q
def spQua (K : PySem.W.Frag) : Sp := fun vs H Q _ => vs = [] ∧ RetTab K H 8 G.qua Q
def spRen (K : PySem.W.Frag) : Sp := fun vs H Q _ => ∃ (a b : Addr) (n : Nat) (m : Nat → Nat → Nat) (o p : Nat → Nat), vs = [.ref a, .ref b] ∧ n ≤ 60 ∧ G.Grp n m ∧ TabL K H a n m ∧ PermL H b n o ∧ G.Perm n o p ∧ RetTab K H n (G.ren m o p) Q
def spMix : Sp := fun vs H Q _ => ∃ (p q : Addr) (n : Nat), vs = [.ref p, .int n] ∧ n ≤ 60 ∧ DS H p q ∧ ∀ H' a o o', H a = none → ExP p H H' → DS H' p q → PermL H' a n o → G.Perm n o o' → Q (.ref a) H'
/-- a table of a group of 1 to most elements, new, the state drawn from -/
def RetGrp (K : PySem.W.Frag) (p q : Addr) (most : Nat) (H : Hp) (Q : VK) : Prop := ∀ H' a n m, H a = none → ExP p H H' → DS H' p q → G.Grp n m → n ≤ most → TabL K H' a n m → Q (.ref a) H'
def spGrp (K : PySem.W.Frag) : Sp := fun vs H Q _ => ∃ (p q : Addr) (most : Nat), vs = [.ref p, .int most] ∧ 0 < most ∧ most ≤ 60 ∧ DS H p q ∧ RetGrp K p q most H Q
def spSym (K : PySem.W.Frag) : Sp := fun vs H Q _ => vs = [.int 3] ∧ ∀ H' a m, H a = none → Same H H' → G.Grp 6 m → TabL K H' a 6 m → Q (.ref a) H'
end Wk
end
section
set_option Elab.async false
set_option linter.all false
set_option maxRecDepth 100000
/-! dicts of numbers, sorted, zip: readings; what is laid anew over a heap -/
namespace Wk
open PySem PySem.Spec PyProof.Rows L2
/-- a dict that has for each number of A, in this order, F of it -/
def dk (A : List Nat) (F : Nat → V) : List (Key × V) := A.map fun (z : Nat) => ((Sum.inl (z : Int) : Key), F z)
theorem valV_dk (F : Nat → V) (z : Nat) : ∀ A : List Nat, valV (dk A F) (Sum.inl (z : Int)) = if z ∈ A then some (F z) else none
  | [] => rfl
  | a :: A => by
    have ih := valV_dk F z A
    by_cases c : a = z
    · subst c
      rw [show dk (a :: A) F = (Sum.inl (a : Int), F a) :: dk A F from rfl, valV_pos rfl, if_pos List.mem_cons_self]
    · rw [show dk (a :: A) F = (Sum.inl (a : Int), F a) :: dk A F from rfl, valV_neg (fun q => c (by injection q with q; omega)), ih]
      by_cases d : z ∈ A
      · rw [if_pos d, if_pos (List.mem_cons_of_mem _ d)]
      · rw [if_neg d, if_neg (fun q => by rcases List.mem_cons.mp q with q | q; exact c q.symm; exact d q)]
theorem putK_dk {A : List Nat} {F : Nat → V} {z : Nat} {v : V} (h : z ∉ A) : putK (dk A F) (Sum.inl (z : Int)) v = dk (A ++ [z]) (fun x => if x = z then v else F x) := by
  unfold putK
  rw [valV_any, valV_dk, if_neg h]
  simp only [Option.isSome_none, Bool.false_eq_true, if_false]
  unfold dk
  rw [List.map_append]
  congr 1
  · refine List.map_congr_left fun x hx => ?_
    show ((Sum.inl (x : Int) : Key), F x) = (Sum.inl (x : Int), if x = z then v else F x)
    rw [if_neg (fun (q : x = z) => h (q ▸ hx))]
  · simp
theorem dk_len {A : List Nat} {F : Nat → V} : (dk A F).length = A.length := by unfold dk; rw [List.length_map]
theorem dk_keys {A : List Nat} {F : Nat → V} : ((dk A F).map fun kv => kV kv.1) = natL A := by
  unfold dk natL
  rw [List.map_map]
  rfl
theorem dget_dk {H : Hp} {p : Addr} {A : List Nat} {F : Nat → V} {z : Nat} (h : H p = some (.dK (dk A F))) (hz : z ∈ A) : DGet H p (.int (z : Int)) (some (F z)) := by
  have e := DGet.k (k := Sum.inl (z : Int)) h
  rw [valV_dk, if_pos hz] at e
  exact e
theorem dget_dkO {H : Hp} {p : Addr} {A : List Nat} {F : Nat → V} {z : Nat} (h : H p = some (.dK (dk A F))) : DGet H p (.int (z : Int)) (if z ∈ A then some (F z) else none) := by
  have e := DGet.k (k := Sum.inl (z : Int)) h
  rw [valV_dk] at e
  exact e
theorem dput_dk {H : Hp} {p : Addr} {A : List Nat} {F : Nat → V} {z : Nat} {v : V} (h : H p = some (.dK (dk A F))) (hz : z ∉ A) (hl : A.length ≤ 1000) : DPut H p (.int (z : Int)) v (upd H p (.dK (dk (A ++ [z]) fun x => if x = z then v else F x))) := by
  have e := DPut.k (k := Sum.inl (z : Int)) (v := v) h (by rw [dk_len]; exact szlt (by omega))
  rw [putK_dk hz] at e
  exact e
theorem same_upd {H1 H : Hp} {p : Addr} {o : HO} (s : Same H1 H) (n : H1 p = none) : Same H1 (upd H p o) := fun b u e => by
  rw [upd_ne (ne_of_none e n)]
  exact s _ _ e
section
variable {σ : L2.St} {H : Hp} {D : Ends} {td ty tv : TE} {Q : VK} {trs : List (TE × TE)}
theorem r_dget (h : td σ H fun x H1 => ty σ H1 fun y H2 => ∃ a v, x = .ref a ∧ DGet H2 a y (some v) ∧ Q v H2) : tDGet td ty σ H Q := h
theorem r_din (h : ty σ H fun y H1 => td σ H1 fun x H2 => ∃ a o, x = .ref a ∧ DGet H2 a y o ∧ Q (.bl o.isSome) H2) : tDIn ty td σ H Q := h
theorem r_dnotin (h : ty σ H fun y H1 => td σ H1 fun x H2 => ∃ a o, x = .ref a ∧ DGet H2 a y o ∧ Q (.bl (!o.isSome)) H2) : tDNotIn ty td σ H Q := h
theorem r_dput (h : tv σ H fun v H1 => td σ H1 fun x H2 => ty σ H2 fun y H3 => ∃ a H4, x = .ref a ∧ DPut H3 a y v H4 ∧ D.nx σ H4) : sDPut td ty tv D σ H := h
theorem r_disp (h : ∀ p, H p = none → tPairs trs σ (upd H p (.dK [])) fun ps H2 => H2 p = some (.dK []) ∧ ∃ kvs : List (Key × V), ps = kvs.map (fun kv => (kV kv.1, kv.2)) ∧ kvs.length ≤ 15 ∧ Q (.ref p) (upd H2 p (.dK (mergeK [] kvs)))) : tDisp trs σ H Q := h
theorem r_pairs0 {QP : List (V × V) → Hp → Prop} (h : QP [] H) : tPairs [] σ H QP := h
theorem r_pairs {QP : List (V × V) → Hp → Prop} (h : td σ H fun x H1 => tv σ H1 fun y H2 => tPairs trs σ H2 fun ps H3 => QP ((x, y) :: ps) H3) : tPairs ((td, tv) :: trs) σ H QP := h
/-- one pair of a number -/
theorem disp1 {p : Addr} {z : Nat} {v : V} (e : H p = some (.dK [])) (h : Q (.ref p) (upd H p (.dK (dk [z] fun _ => v)))) : H p = some (.dK []) ∧ ∃ kvs : List (Key × V), [(V.int (z : Int), v)] = kvs.map (fun kv => (kV kv.1, kv.2)) ∧ kvs.length ≤ 15 ∧ Q (.ref p) (upd H p (.dK (mergeK [] kvs))) :=
  ⟨e, [(Sum.inl (z : Int), v)], rfl, by show 1 ≤ 15; decide, h⟩
theorem r_sorted {K : PySem.W.Frag} {a : Addr} {ns : List Int} (h : SqL K H a (ns.map V.int)) (hl : ns.length < 64) (q : ∀ (ns' : List Int) (p : Addr), ns'.Perm ns → ns'.Pairwise (· ≤ ·) → H p = none → Q (.ref p) (upd H p (.lst (ns'.map V.int)))) : rSorted K [.ref a] H Q := ⟨a, ns, rfl, h, hl, q⟩
theorem natL_ints (l : List Nat) : natL l = (l.map fun (x : Nat) => (x : Int)).map V.int := by
  unfold natL
  rw [List.map_map]
  rfl
/-- what is a permutation of such numbers is of such numbers -/
theorem perm_nats {ns : List Int} {l : List Nat} (h : ns.Perm (l.map fun (x : Nat) => (x : Int))) : ∃ l' : List Nat, l'.Perm l ∧ ns.map V.int = natL l' := by
  have e : ns = (ns.map Int.toNat).map fun (x : Nat) => (x : Int) := by
    rw [List.map_map]
    have : ∀ x ∈ ns, ((fun (x : Nat) => (x : Int)) ∘ Int.toNat) x = id x := fun x hx => by
      have hm := (h.mem_iff).mp hx
      obtain ⟨y, _, rfl⟩ := List.mem_map.mp hm
      simp
    rw [List.map_congr_left this, List.map_id]
  refine ⟨ns.map Int.toNat, ?_, ?_⟩
  · have h2 := h.map Int.toNat
    rw [List.map_map] at h2
    have e2 : List.map (Int.toNat ∘ fun (x : Nat) => (x : Int)) l = l := by
      have : ∀ x ∈ l, (Int.toNat ∘ fun (x : Nat) => (x : Int)) x = id x := fun x _ => by simp
      rw [List.map_congr_left this, List.map_id]
    rw [e2] at h2
    exact h2
  · rw [natL_ints, ← e]
theorem sorted_nats {K : PySem.W.Frag} {a : Addr} {l : List Nat} (h : SqL K H a (natL l)) (hl : l.length < 64) (q : ∀ (l' : List Nat) (p : Addr), l'.Perm l → H p = none → Q (.ref p) (upd H p (.lst (natL l')))) : rSorted K [.ref a] H Q := by
  refine r_sorted (ns := l.map fun (x : Nat) => (x : Int)) (by rw [← natL_ints]; exact h) (by rw [List.length_map]; exact hl) fun ns' p hp _ hn => ?_
  obtain ⟨l', h1, h2⟩ := perm_nats hp
  rw [h2]
  exact q l' p h1 hn
end
section
variable {K : PySem.W.Frag} {ta : TA} {g : TG} {t : TS} {D : Ends} {σ : L2.St} {H : Hp} {a b : Addr} {xs ys : List V}
theorem f_zip (Pv : Nat → L2.St → Hp → Prop) (hl : xs.length = ys.length) (hta : ∀ R' : List V → Hp → Prop, R' [.ref a, .ref b] H → ta σ H R') (hx : SqL K H a xs) (hy : SqL K H b ys) (h0 : Pv 0 σ H) (hq : ∀ i σ' H', Pv i σ' H' → SqL K H' a xs ∧ SqL K H' b ys)
    (step : ∀ (i : Nat) (x y : V) (T : Addr) (σ' : L2.St) (H' : Hp), xs[i]? = some x → ys[i]? = some y → Pv i σ' H' → H' T = none → ∀ (N B : L2.St → Hp → Prop) (R : V → Hp → Prop), (∀ σ H, Pv (i + 1) σ H → N σ H) → (∀ σ H, D.nx σ H → B σ H) → (∀ v H, D.rt v H → R v H) →
      g (.ref T) σ' (upd H' T (.tup [x, y])) fun σ2 H2 => t { nx := N, ct := N, bk := B, rt := R } σ2 H2)
    (done : ∀ σ' H', Pv xs.length σ' H' → D.nx σ' H') : tFor (iZip K ta) g t D σ H :=
  hta _ ⟨a, b, xs, ys, rfl, hx, hy, RZ.for_zipL hl Pv h0 hq (fun i x y T σ' H' e1 e2 p n => step i x y T σ' H' e1 e2 p n (Pv (i + 1)) D.nx D.rt (fun _ _ q => q) (fun _ _ q => q) (fun _ _ q => q)) done⟩
end
section
variable {X : Cx}
theorem i_zip {e e2 : Expr} {ta : TA} {p pos tpos : Pos} {elts : List Expr} {kk : Nat} (K : PySem.W.Frag) (hg : Gl X "zip") (hm : X.mg "zip" = none) (ha : PA X [e, e2] ta)
    (hs : starEach [e, e2] X.env = (false, eval e X.env) :: starEach [e2] X.env := by rfl) (hpl : (backTo pos (starEach [e2] X.env)).any (·.1) = false := by rfl) (hK : X.K = K := by rfl) :
    PI X (.Tuple elts kk tpos) (.Call (.Name "zip" p) [e, e2] [] pos) (iZip K ta) := by subst hK; exact pi_zip hg hm ha hs hpl
end
/-- Same H1 H', but a new list at q and a new dict at p -/
theorem natL_get {l : List Nat} {i : Nat} (h : i < l.length) : (natL l)[i]? = some (.int ((l[i] : Nat) : Int)) := by
  unfold natL
  rw [List.getElem?_map, List.getElem?_eq_getElem h]
  rfl
theorem natL_snoc {l : List Nat} {z : Nat} : natL l ++ [V.int (z : Int)] = natL (l ++ [z]) := by
  unfold natL
  rw [List.map_append]
  rfl
theorem nodup_snoc {l : List Nat} {z : Nat} (h : l.Nodup) (hz : z ∉ l) : (l ++ [z]).Nodup := by
  rw [List.nodup_append]
  exact ⟨h, by simp, fun a ha b hb q => by rw [List.mem_singleton.mp hb] at q; exact hz (q ▸ ha)⟩
theorem nodup_len {n : Nat} {l : List Nat} (h : l.Nodup) (hb : ∀ x ∈ l, x < n) : l.length ≤ n := by
  have := List.Nodup.length_le_of_subset h (l₂ := List.range n) fun x hx => List.mem_range.mpr (hb x hx)
  rwa [List.length_range] at this
theorem nodup_full {n : Nat} {l : List Nat} (h : l.Nodup) (hb : ∀ x ∈ l, x < n) (hl : n ≤ l.length) : ∀ x, x < n → x ∈ l := by
  intro x hx
  refine Classical.byContradiction fun q => ?_
  have := nodup_len (nodup_snoc h q) (n := n) (fun y hy => by rcases List.mem_append.mp hy with hy | hy; exact hb y hy; rw [List.mem_singleton.mp hy]; exact hx)
  rw [List.length_append, List.length_singleton] at this
  omega
end Wk
end
section
set_option Elab.async false
set_option linter.all false
set_option maxRecDepth 100000
namespace Wk
open PySem PySem.W
section
variable {prog : Program} {w : World} {A : Around} {E : Value → Shared → Prop} {s : Shared} {K : Frag} {x C L f : Addr} {h₀ : Heap} {m : Str → Option Value} {ox : Obj} {od : Option Obj} {b tb : Value}
/-- object.__ne__ of an instance with an own __eq__: the other way round -/
theorem ne_entry {Q : Fin → Shared → Prop} (X : K.In s.heap) (I : InstAt s.heap x ox C od) (hs : findIn K (.ref C) "__eq__" = some (some (.ref f))) (hf : isFn K (.ref f) = true) (hu : A.units < cLine)
    (hcall : wpAny (model prog w) A (call (.ref f) [.ref x, b]) (fun v s' => ∃ c, v = .bool c ∧ Q (.done (.ret (.bool (!c)))) s') E s) :
    wpAny (model prog w) A (Builtin.«object.__ne__» ⟨[.ref x, b], []⟩) Q E s := by
  unfold Builtin.«object.__ne__»
  repeat (first
    | with_reducible refine wpAny_cRoomFor hu ?_
    | (refine wpAny_bind (m := callSpecialIfBound? (.ref x) (Str.ofString "__eq__") [b])
        (ifBound_K X I hs hf (wpAny_mono hcall (fun r s' hr => by
          obtain ⟨b, rfl, hq⟩ := hr
          repeat (first | exact hq | exact wpAny_pure hq | exact wpAny_truthy_bool hq | (refine wpAny_bind (m := truthy (.bool _)) (wpAny_truthy_bool ?_)) | wp_step)) fun _ _ e => e)))
    | wp_step)
theorem ne_try {Q : Option Value → Shared → Prop} (X : K.In s.heap) (I : InstAt s.heap x ox C od) (hs : findIn K (.ref C) "__eq__" = some (some (.ref f))) (hf : isFn K (.ref f) = true)
    (hn : findIn K (.ref C) "__ne__" = some (some (.builtin "object.__ne__"))) (hm : mroIn K C (.type "object") = some true) (hu : A.units + 1 < cLine)
    (hcall : wpAny (model prog w) A.in1 (call (.ref f) [.ref x, b]) (fun v s' => ∃ c, v = .bool c ∧ Q (some (.bool (!c))) s') E s) :
    wpAny (model prog w) A (tryCompare (.ref x) "__ne__" b) Q E s := by
  simp only [tryCompare]
  refine wpAny_bind (NtL.csib (I.type.andThen (looks_findIn X hn)) (F.cmp_object.ne.bind _) (wpAny_call (codeAny_call_builtin F.cmp_object.ne.plain F.cmpEntry_ne (check_slot F.cmpKind_ne F.cmpSplit_ne (I.type.andThen (looks_mroIn X hm)) (F.cmpArgs_ne _ _)
    (ne_entry (A := A.in1) X I hs hf hu (wpAny_mono hcall (fun v s' hv => ?_) fun _ _ e => e))))))
  obtain ⟨b, rfl, hq⟩ := hv
  first | exact ⟨b, rfl, wpAny_pure hq⟩ | exact ⟨b, rfl, wpAny_pure (wpAny_pure hq)⟩ | exact ⟨b, rfl, hq⟩
theorem ne_K {Q : Value → Shared → Prop} (hu : A.units + 1 < cLine) (X : K.In s.heap) (I : InstAt s.heap x ox C od) (hb : Looks (model prog w) s.heap (typeOf b) tb) (hnf : notFirst K C tb = true)
    (hs : findIn K (.ref C) "__eq__" = some (some (.ref f))) (hf : isFn K (.ref f) = true) (hn : findIn K (.ref C) "__ne__" = some (some (.builtin "object.__ne__"))) (hm : mroIn K C (.type "object") = some true)
    (h : wpAny (model prog w) A.in1 (call (.ref f) [.ref x, b]) (fun v s' => ∃ c, v = .bool c ∧ Q (.bool (!c)) s') E s) : wpAny (model prog w) A (richCompare .NotEq (.ref x) b) Q E s := by
  have one : wpAny (model prog w) A (tryCompare (.ref x) (cmpInfo .NotEq).2.1 b) (fun r s' => ∃ v, r = some v ∧ Q v s') E s :=
    ne_try X I hs hf hn hm hu (wpAny_mono h (fun v s' hv => by obtain ⟨c, rfl, q⟩ := hv; exact ⟨c, rfl, _, rfl, q⟩) fun _ _ e => e)
  unfold richCompare
  simp only [oneThing_ref]
  refine wpAny_holding (wpAny_bind (wpAny_cRoomFor (Nat.lt_of_succ_lt hu) ?_))
  refine wpAny_bind (I.type.here (wpAny_bind (hb.here ?_)))
  split
  · rename_i q
    have e : subIn K tb (.ref C) = some false := by
      rcases Bool.or_eq_true_iff.mp hnf with e | e
      · rw [beq_iff_eq.mp e] at q; simp at q
      · exact beq_iff_eq.mp e
    refine wpAny_bind ((looks_subIn X e).here ?_)
    simp only [Bool.false_eq_true, if_false]
    refine wpAny_bind (wpAny_mono one (fun r s' z => ?_) fun _ _ e => e)
    obtain ⟨v, rfl, hq⟩ := z
    exact wpAny_pure hq
  · refine wpAny_bind (wpAny_pure ?_)
    simp only [Bool.false_eq_true, if_false]
    refine wpAny_bind (wpAny_mono one (fun r s' z => ?_) fun _ _ e => e)
    obtain ⟨v, rfl, hq⟩ := z
    exact wpAny_pure hq
end
end Wk
namespace Wk
open PySem PySem.Spec PyProof.Rows L2
section
variable {X : Cx} {C : Addr} {k : Nat} {sp : Sp} {e o : Expr} {es : List Expr} {ta : TE} {t : TA} {m : PySem.Str} {apos pos : Pos}
/-- a method of the class keeps sp and raises nothing -/
def KeepM (P : Program) (w : World) (K : PySem.W.Frag) (mg : PySem.Str → Option Value) (base : Heap) (k : Nat) (C : Addr) (x : PySem.Str) (ps : List PySem.Str) (sp : Sp) : Prop :=
  ∃ f fd, FnOk P w K mg base CX0 k f fd ps sp ∧ Meth K C x f ∧ Binds K fd ps []
def rEqO (K : PySem.W.Frag) (C : Addr) (sp : Sp) : R2 := fun x y H Q => ∃ a dx fs t, x = .ref a ∧ H a = some (.ins C dx fs) ∧ TyX K H y t ∧ PySem.W.notFirst K C t = true ∧ sp [x, y] H Q E0
def rNeO (K : PySem.W.Frag) (C : Addr) (sp : Sp) : R2 := fun x y H Q => ∃ a dx fs t, x = .ref a ∧ H a = some (.ins C dx fs) ∧ TyX K H y t ∧ PySem.W.notFirst K C t = true ∧ sp [x, y] H (fun v H' => ∃ c, v = .bl c ∧ Q (.bl (!c)) H') E0
theorem c_eqO {ps : List PySem.Str} (M : KeepM X.prog X.w X.K X.mg X.base k C "__eq__" ps sp) (hr : Room k X.A) : OpR X (compareOp .Eq) (rEqO X.K C sp) := by
  intro pins s σ H x y v u Q I rx ry h
  obtain ⟨f, fd, F, M, hb⟩ := M
  obtain ⟨a, dx, fs, t, rfl, ha, ty, hn, q⟩ := h
  cases (show v = Value.ref a from rx)
  obtain ⟨mA, J, _⟩ := ins_get I.hok ha
  obtain ⟨od, J, _⟩ := J.look
  obtain ⟨m, hF⟩ := I.fr
  obtain ⟨P, Z, p, _⟩ := kit_of I ry ty
  refine PySem.W.cmp_K (op := .Eq) hr.units0 hF I.ok.mod.kin J (Z.ty _ _ I.kIn p) hn M.at_ M.fn ?_
  refine wpAny_mono (run_fn (us := [.ref a, u]) (vs := [.ref a, y]) F hr hb .nil pass0 I (.cons rfl (.cons ry .nil)) q) (fun w s' z => ?_) fun _ _ x => x
  obtain ⟨z', H', I', rz, qz⟩ := z
  exact SlX.cmpback rz ⟨z', H', I', rz, qz⟩
theorem c_neO {ps : List PySem.Str} (M : KeepM X.prog X.w X.K X.mg X.base k C "__eq__" ps sp) (hn2 : PySem.W.findIn X.K (.ref C) "__ne__" = some (some (.builtin "object.__ne__"))) (hm : PySem.W.mroIn X.K C (.type "object") = some true) (hr : Room (k + 1) X.A) : OpR X (compareOp .NotEq) (rNeO X.K C sp) := by
  intro pins s σ H x y v u Q I rx ry h
  obtain ⟨f, fd, F, M, hb⟩ := M
  obtain ⟨a, dx, fs, t, rfl, ha, ty, hn, q⟩ := h
  cases (show v = Value.ref a from rx)
  obtain ⟨mA, J, _⟩ := ins_get I.hok ha
  obtain ⟨od, J, _⟩ := J.look
  obtain ⟨P, Z, p, _⟩ := kit_of I ry ty
  refine ne_K (by have := hr.units; omega) I.kIn J (Z.ty _ _ I.kIn p) hn M.at_ M.fn hn2 hm (wpAny_call ?_)
  have hl : ([Value.ref a, u]).length = ps.length := by
    have := F.len _ _ _ _ q
    simpa using this
  have r2 : Vals [V.ref a, y] [Value.ref a, u] := .cons rfl (.cons ry .nil)
  refine codeAny_mono (F.run X.A.in1 X.stack s H ⟨[.ref a, u], []⟩ [.ref a, u] [.ref a, y] _ E0 hr.in1 I.env0.in1 (by
    have := hb s [.ref a, u] I.kIn (by simpa using hl)
    simpa using this) r2 q) fun r s' hq => ?_
  cases r with
  | error e => exact False.elim hq
  | ok fl =>
    cases fl with
    | ret w =>
      obtain ⟨z, H', I', rz, c, ez, qz⟩ := I.after hq
      subst ez
      cases (show w = Value.bool c from rz)
      exact ⟨c, rfl, .bl (!c), H', I', rfl, qz⟩
    | next => exact False.elim hq
    | brk => exact False.elim hq
    | cont => exact False.elim hq
end
end Wk
end
section
set_option Elab.async false
set_option linter.all false
set_option maxRecDepth 100000
namespace Wk
open PySem PySem.Spec PyProof.Rows L2
section
variable {K : PySem.W.Frag} {n : Nat} {ta ta1 : TA} {j l : Nat} {te : TE} {vs vs1 : List Nat} {σ : L2.St} {H : Hp} {Q : VK}
/-- what such a list of truths says -/
def Says (f : Nat → Nat → Bool) (bs : List Bool) (i j : Nat) : Prop := bs.all id = true ↔ ∀ x y, y < x → (x < i ∨ (x = i ∧ y < j)) → f x y = true
theorem Says.snoc {f : Nat → Nat → Bool} {bs : List Bool} {i j : Nat} (h : Says f bs i j) (hj : j < i) : Says f (bs ++ [f i j]) i (j + 1) := by
  unfold Says at *
  rw [List.all_append, Bool.and_eq_true, h]
  constructor
  · rintro ⟨h1, h2⟩ x y hy hx
    rcases hx with hx | ⟨rfl, hx⟩
    · exact h1 x y hy (.inl hx)
    · by_cases c : y < j
      · exact h1 x y hy (.inr ⟨rfl, c⟩)
      · have e : y = j := by omega
        subst e
        simpa using h2
  · intro h1
    refine ⟨fun x y hy hx => h1 x y hy (hx.imp id fun z => ⟨z.1, by omega⟩), ?_⟩
    have := h1 i j hj (.inr ⟨rfl, by omega⟩)
    simpa using this
theorem Says.next {f : Nat → Nat → Bool} {bs : List Bool} {i : Nat} (h : Says f bs i i) : Says f bs (i + 1) 0 := by
  unfold Says at *
  rw [h]
  exact ⟨fun h1 x y hy hx => h1 x y hy (by omega), fun h1 x y hy hx => h1 x y hy (by omega)⟩
theorem r_yes {σ : L2.St} {H : Hp} {QT : Bool → Hp → Prop} (h : QT true H) : tYes σ H QT := h
/-- [te for x in range(n) for y in range(x)], truths -/
theorem lc2_tri (f : Nat → Nat → Bool) (hn : n ≤ 60) (hta : ∀ R' : List V → Hp → Prop, R' [.int n] H → ta σ H R')
    (hta1 : ∀ (i : Nat) H1 (R' : List V → Hp → Prop), R' [.int (i : Int)] H1 → ta1 ((wipe σ vs).set j (some (.int (i : Int)))) H1 R')
    (step : ∀ (x y : Nat) H1 (Q' : VK), x < n → y < x → Same H H1 → (∀ H2, Same H1 H2 → Q' (.bl (f x y)) H2) → te ((wipe ((wipe σ vs).set j (some (.int (x : Int)))) vs1).set l (some (.int (y : Int)))) H1 Q')
    (done : ∀ D H1 (bs : List Bool), H D = none → Same H H1 → H1 D = some (.lst (bs.map V.bl)) → (bs.all id = true ↔ ∀ x y, x < n → y < x → f x y = true) → Q (.ref D) H1)
    (hw : ∀ x, wipe ((wipe σ vs).set j (some x)) vs = wipe σ vs := by intro _; rfl) (hw1 : ∀ x y, wipe ((wipe ((wipe σ vs).set j (some x)) vs1).set l (some y)) vs1 = wipe ((wipe σ vs).set j (some x)) vs1 := by intro _ _; rfl) :
    tLc2 (iRng1 ta) (gName j) tYes (iRng1 ta1) (gName l) tYes te vs vs1 σ H Q := by
  refine hta _ ⟨n, rfl, by omega, by omega, fun D hD => ?_⟩
  have en : ((n : Int)).toNat = n := Int.toNat_natCast n
  rw [en]
  refine ⟨fun i m H1 => m = n - i ∧ i ≤ n ∧ ∃ bs : List Bool, Same H H1 ∧ H1 D = some (.lst (bs.map V.bl)) ∧ bs.length ≤ i * 60 ∧ Says f bs i 0, ⟨n, by simp, Nat.zero_le _, [], same_new hD, upd_same, Nat.zero_le _, ⟨fun _ x y _ h => by omega, fun _ => rfl⟩⟩, ?_⟩
  rintro i m H1 ⟨rfl, hi, bs, s1, hL, hlen, hb⟩
  by_cases lt : i < n
  · refine .inr ⟨lt, fun H' => ∃ bs : List Bool, Same H H' ∧ H' D = some (.lst (bs.map V.bl)) ∧ bs.length ≤ (i + 1) * 60 ∧ Says f bs (i + 1) 0, fun H' p => ⟨n - (i + 1), by omega, rfl, lt, p⟩, fun x H' y => ?_⟩
    obtain ⟨rfl, y⟩ := y
    subst y
    have e0 : (0 : Int) + (i : Int) = (i : Int) := Int.zero_add _
    rw [e0]
    refine ⟨hw _, ?_⟩
    refine r_yes (r_T ?_)
    refine hta1 i _ _ ⟨i, rfl, by omega, by omega, ?_⟩
    have ei : ((i : Int)).toNat = i := Int.toNat_natCast i
    rw [ei]
    refine ⟨fun k m H2 => m = i - k ∧ k ≤ i ∧ ∃ bs : List Bool, Same H H2 ∧ H2 D = some (.lst (bs.map V.bl)) ∧ bs.length ≤ i * 60 + k ∧ Says f bs i k, ⟨i, by simp, Nat.zero_le _, bs, s1, hL, hlen, hb⟩, ?_⟩
    rintro k m H2 ⟨rfl, hk, bs, s2, hL2, hlen2, hb2⟩
    by_cases lk : k < i
    · refine .inr ⟨lk, fun H' => ∃ bs : List Bool, Same H H' ∧ H' D = some (.lst (bs.map V.bl)) ∧ bs.length ≤ i * 60 + (k + 1) ∧ Says f bs i (k + 1), fun H' p => ⟨i - (k + 1), by omega, rfl, lk, p⟩, fun x H' y => ?_⟩
      obtain ⟨rfl, y⟩ := y
      subst y
      have e1 : (0 : Int) + (k : Int) = (k : Int) := Int.zero_add _
      rw [e1]
      refine ⟨hw1 _ _, ?_⟩
      refine r_yes (r_T ?_)
      refine step i k _ _ lt lk s2 fun H3 s3 => ?_
      refine ⟨bs.map V.bl, s3 _ _ hL2, szlt (by rw [List.length_map]; have : i * 60 ≤ 60 * 60 := Nat.mul_le_mul_right _ (by omega); omega), bs ++ [f i k], fun b o e => ?_, ?_, by rw [List.length_append, List.length_singleton]; omega, hb2.snoc lk⟩
      · rw [upd_ne (ne_of_none e hD)]; exact s3 _ _ (s2 _ _ e)
      · rw [upd_same, List.map_append]; rfl
    · have e : k = i := by omega
      subst e
      exact .inl ⟨Nat.le_refl _, bs, s2, hL2, by omega, hb2.next⟩
  · have e : i = n := by omega
    subst e
    refine .inl ⟨Nat.le_refl _, done D H1 bs hD s1 hL ?_⟩
    unfold Says at hb
    rw [hb]
    exact ⟨fun h x y hx hy => h x y hy (.inl hx), fun h x y hy hx => h x y (by omega) hy⟩
end
/-! tables of numbers as data -/
section
variable {K : PySem.W.Frag} {H : Hp}
def tabN (n : Nat) (m : Nat → Nat → Nat) : List (List Nat) := (List.range n).map fun x => (List.range n).map (m x)
theorem tabN_len {n : Nat} {m : Nat → Nat → Nat} : (tabN n m).length = n := by unfold tabN; rw [List.length_map, List.length_range]
theorem tabN_get {n x : Nat} {m : Nat → Nat → Nat} (h : x < n) : (tabN n m)[x]? = some ((List.range n).map (m x)) := by
  unfold tabN
  rw [List.getElem?_map, List.getElem?_range h]
  rfl
theorem rowV_natL {n x : Nat} {m : Nat → Nat → Nat} : rowV n m x = natL ((List.range n).map (m x)) := by
  unfold rowV natL
  rw [List.map_map]
  rfl
theorem tabN_eq {n n' : Nat} {m m' : Nat → Nat → Nat} : tabN n m = tabN n' m' ↔ n = n' ∧ ∀ x y, x < n → y < n → m x y = m' x y := by
  constructor
  · intro h
    have e : n = n' := by
      have := congrArg List.length h
      rwa [tabN_len, tabN_len] at this
    subst e
    refine ⟨rfl, fun x y hx hy => ?_⟩
    have h1 := congrArg (fun l => l[x]?) h
    simp only [tabN_get hx] at h1
    have h2 := congrArg (fun l => l[y]?) (Option.some.inj h1)
    simp only [List.getElem?_map, List.getElem?_range hy] at h2
    exact Option.some.inj h2
  · rintro ⟨rfl, h⟩
    unfold tabN
    refine List.map_congr_left fun x hx => List.map_congr_left fun y hy => h x y (List.mem_range.mp hx) (List.mem_range.mp hy)
end
end Wk
end
section
set_option Elab.async false
set_option linter.all false
set_option maxRecDepth 100000
/-! comprehensions over lists: the heap only grows, or the list at p changes besides -/
namespace Wk
open PySem PySem.Spec PyProof.Rows L2
section
variable {K : PySem.W.Frag} {j : Nat} {tl te : TE} {vs : List Nat} {σ : L2.St} {H : Hp} {Q : VK} {a : Addr} {xs : List V}
/-- over a list: the items told by R, that may speak of where the new list lies -/
theorem lc_lstD (R : Addr → Nat → V → Hp → Prop) (hs : SqL K H a xs) (hz : xs.length ≤ 50000) (htl : ∀ R' : V → Hp → Prop, R' (.ref a) H → tl σ H R') (mono : ∀ D i v H1 H2 L, H1 D = some (.lst L) → ExP D H1 H2 → R D i v H1 → R D i v H2)
    (step : ∀ D (i : Nat) x H1 (Q' : VK) L, xs[i]? = some x → H D = none → Same H H1 → H1 D = some (.lst L) → (∀ v H2, Same H1 H2 → R D i v H2 → Q' v H2) → te ((wipe σ vs).set j (some x)) H1 Q')
    (done : ∀ D L H1, H D = none → Same H H1 → H1 D = some (.lst L) → L.length = xs.length → (∀ (i : Nat) v, L[i]? = some v → R D i v H1) → Q (.ref D) H1) (hw : ∀ x, wipe ((wipe σ vs).set j (some x)) vs = wipe σ vs := by intro _; rfl) : tLc (iList K tl) (gName j) tYes te vs σ H Q := by
  refine htl _ ⟨a, rfl, ⟨xs, hs⟩, fun D hD => ?_⟩
  refine lc_list (K := K) (a := a) (xs := xs) (fun i H1 => ∃ L, Same H H1 ∧ H1 D = some (.lst L) ∧ L.length = i ∧ ∀ (k : Nat) v, L[k]? = some v → R D k v H1) ⟨[], same_new hD, upd_same, rfl, fun k v e => by simp at e⟩ (fun i H1 _ ⟨_, s1, _⟩ => s1.seq hs) ?_ ?_
  · rintro i x H1 hx ⟨L, s1, hL, len, r⟩
    have hi : i < xs.length := (List.getElem?_eq_some_iff.mp hx).1
    refine ⟨hw _, ?_⟩
    refine r_yes (r_T ?_)
    refine step D i x H1 _ L hx hD s1 hL fun v H2 s2 rv => ?_
    have hL2 := s2 _ _ hL
    refine ⟨L, hL2, szlt (by omega), L ++ [v], fun b o e => ?_, upd_same, by rw [List.length_append, len]; rfl, fun k w e => ?_⟩
    · rw [upd_ne (ne_of_none e hD)]; exact s2 _ _ (s1 _ _ e)
    · rcases get_snoc e with ⟨_, q⟩ | ⟨q, rfl⟩
      · exact mono D k w H2 _ L hL2 ExP.upd (mono D k w H1 H2 L hL (L2.Same.exP s2) (r k w q))
      · rw [q, len]
        exact mono D i w H2 _ L hL2 ExP.upd rv
  · rintro H1 ⟨L, s1, hL, len, r⟩
    exact done D L H1 hD s1 hL len r
/-- the list at p changes while the new list is made -/
theorem lc_lstP {p : Addr} {o0 : HO} (I : Hp → Prop) (R : Nat → V → Prop) (hp : H p = some o0) (hs : ∀ H', ExP p H H' → SqL K H' a xs) (hz : xs.length ≤ 50000) (htl : ∀ R' : V → Hp → Prop, R' (.ref a) H → tl σ H R') (I0 : I H)
    (stay : ∀ D H1 L, H D = none → I H1 → (H1 D = none ∨ ∃ L0, H1 D = some (.lst L0)) → I (upd H1 D (.lst L)))
    (step : ∀ (i : Nat) x H1 (Q' : VK), xs[i]? = some x → ExP p H H1 → I H1 → (∀ v H2, ExP p H1 H2 → I H2 → R i v → Q' v H2) → te ((wipe σ vs).set j (some x)) H1 Q')
    (done : ∀ D L H1, H D = none → ExP p H H1 → I H1 → H1 D = some (.lst L) → L.length = xs.length → (∀ (i : Nat) v, L[i]? = some v → R i v) → Q (.ref D) H1) (hw : ∀ x, wipe ((wipe σ vs).set j (some x)) vs = wipe σ vs := by intro _; rfl) : tLc (iList K tl) (gName j) tYes te vs σ H Q := by
  refine htl _ ⟨a, rfl, ⟨xs, hs H (ExP.refl _ _)⟩, fun D hD => ?_⟩
  have hDp : D ≠ p := fun z => by rw [z, hp] at hD; cases hD
  refine lc_list (K := K) (a := a) (xs := xs) (fun i H1 => ∃ L, ExP p H H1 ∧ I H1 ∧ H1 D = some (.lst L) ∧ L.length = i ∧ ∀ (k : Nat) v, L[k]? = some v → R k v) ⟨[], (same_new hD).exP, stay D _ _ hD I0 (.inl hD), upd_same, rfl, fun k v e => by simp at e⟩ (fun i H1 _ ⟨_, s1, _⟩ => hs _ s1) ?_ ?_
  · rintro i x H1 hx ⟨L, s1, i1, hL, len, r⟩
    have hi : i < xs.length := (List.getElem?_eq_some_iff.mp hx).1
    refine ⟨hw _, ?_⟩
    refine r_yes (r_T ?_)
    refine step i x H1 _ hx s1 i1 fun v H2 s2 i2 rv => ?_
    have hL2 := s2 _ _ hDp hL
    refine ⟨L, hL2, szlt (by omega), L ++ [v], fun b o nb e => ?_, stay D _ _ hD i2 (.inr ⟨_, hL2⟩), upd_same, by rw [List.length_append, len]; rfl, fun k w e => ?_⟩
    · rw [upd_ne (ne_of_none e hD)]; exact s2 _ _ nb (s1 _ _ nb e)
    · rcases get_snoc e with ⟨_, q⟩ | ⟨q, rfl⟩
      · exact r k w q
      · rw [q, len]
        exact rv
  · rintro H1 ⟨L, s1, i1, hL, len, r⟩
    exact done D L H1 hD s1 i1 hL len r
end
theorem nats_of {k : Nat} : ∀ {L : List V}, (∀ v ∈ L, ∃ z : Nat, z < k ∧ v = .int (z : Int)) → ∃ l : List Nat, L = natL l ∧ ∀ z ∈ l, z < k
  | [], _ => ⟨[], rfl, fun _ h => by cases h⟩
  | v :: L, h => by
    obtain ⟨z, hz, rfl⟩ := h v List.mem_cons_self
    obtain ⟨l, rfl, hl⟩ := nats_of (L := L) fun u hu => h u (List.mem_cons_of_mem _ hu)
    exact ⟨z :: l, rfl, fun y hy => by
      rcases List.mem_cons.mp hy with rfl | hy
      · exact hz
      · exact hl y hy⟩
end Wk
end
section
set_option Elab.async false
set_option linter.all false
set_option maxRecDepth 100000
/-! slices -/
namespace Wk
open PySem PySem.Spec PyProof.Rows L2
section
variable {K : PySem.W.Frag} {σ : L2.St} {H : Hp} {Q : VK} {te : TE} {tl th : TO} {r : V → Option Int → Option Int → Hp → VK → Prop} {QO : Option Int → Hp → Prop}
theorem r_sl (h : te σ H fun x H1 => tl σ H1 fun l H2 => th σ H2 fun u H3 => r x l u H3 Q) : L2.tSl r te tl th σ H Q := h
theorem r_part (h : te σ H fun x H1 => ∃ i, x = .int i ∧ QO (some i) H1) : tPart te σ H QO := h
theorem r_nopart (h : QO none H) : tNoPart σ H QO := h
theorem r_slL {a : Addr} {xs : List V} {lo hi : Option Int} (h : SqL K H a xs) (q : ∀ p, H p = none → Q (.ref p) (upd H p (.lst (cutV xs lo hi)))) : rSlL K (.ref a) lo hi H Q := ⟨a, xs, rfl, h, q⟩
theorem sl_listK {X : Cx} (K : PySem.W.Frag) (hK : X.K = K := by rfl) : SlR X (rSlL K) := by subst hK; exact sl_list
theorem cut_take {xs : List V} {w : Nat} : cutV xs none (some (w : Int)) = xs.take w := by
  unfold cutV
  rw [HT.sIx_none, HT.sIx_nat, List.drop_zero, Nat.sub_zero]
  by_cases c : w ≤ xs.length
  · rw [Nat.min_eq_left c]
  · rw [Nat.min_eq_right (by omega), List.take_of_length_le (Nat.le_refl _), List.take_of_length_le (by omega)]
end
end Wk
end
section
set_option Elab.async false
set_option linter.all false
set_option maxRecDepth 100000
/-! max of a tuple; xs[i] += e -/
namespace Wk
open PySem PySem.Spec PyProof.Rows L2
def rMaxT (K : PySem.W.Frag) : List V → Hp → VK → Prop := fun vs H Q => ∃ (a : Addr) (ns : List Int), vs = [V.ref a] ∧ SqT K H a (ns.map V.int) ∧ 0 < ns.length ∧ ∀ m, m ∈ ns → (∀ y, y ∈ ns → y ≤ m) → Q (.int m) H
section
variable {X : Cx}
theorem holds_ints {h : Heap} : ∀ {us : List Value} {ns : List Int}, Vals (ns.map V.int) us → PySem.W.HoldAll h us ns
  | [], [], _ => PySem.W.HoldAll.nil
  | u :: us, n :: ns, r => by
    cases r with
    | cons a b =>
      obtain ⟨t, rfl⟩ := a
      exact PySem.W.HoldAll.cons ⟨_, .int _ _⟩ (holds_ints b)
theorem maxOf_ints : ∀ (ns : List Int) (n : Int), PySem.W.maxOf n ns ∈ n :: ns ∧ ∀ y ∈ n :: ns, y ≤ PySem.W.maxOf n ns
  | [], n => ⟨by simp [PySem.W.maxOf], fun y hy => by simp [PySem.W.maxOf] at hy ⊢; omega⟩
  | k :: ns, n => by
    have e : PySem.W.maxOf n (k :: ns) = PySem.W.maxOf (if n < k then k else n) ns := by
      unfold PySem.W.maxOf
      rw [List.foldl_cons]
      congr 1
      by_cases c : n < k
      · rw [if_pos c, if_pos (by simpa [PySem.W.DatumOrd.lt] using c)]
      · rw [if_neg c, if_neg (by simpa [PySem.W.DatumOrd.lt] using c)]
    obtain ⟨h1, h2⟩ := maxOf_ints ns (if n < k then k else n)
    rw [e]
    refine ⟨?_, fun y hy => ?_⟩
    · rcases List.mem_cons.mp h1 with h | h
      · rw [h]
        by_cases c : n < k
        · rw [if_pos c]; simp
        · rw [if_neg c]; simp
      · simp [h]
    · have h3 := h2 _ List.mem_cons_self
      have h4 : ∀ z ∈ ns, z ≤ PySem.W.maxOf (if n < k then k else n) ns := fun z hz => h2 z (List.mem_cons_of_mem _ hz)
      generalize PySem.W.maxOf (if n < k then k else n) ns = M at h3 h4 ⊢
      rcases List.mem_cons.mp hy with rfl | hy
      · split at h3 <;> omega
      · rcases List.mem_cons.mp hy with rfl | hy
        · split at h3 <;> omega
        · exact h4 y hy
theorem c_maxT (K : PySem.W.Frag) (hc : X.calm = true) (hu : X.A.units + 65 < cLine) (hK : X.K = K := by rfl) : CallR X (.builtin "max") (rMaxT K) := by
  subst hK
  intro pins s σ H vs us Q I r h
  obtain ⟨a, ns, rfl, hs, hne, q⟩ := h
  obtain ⟨its, rv, hl, _⟩ := I.tuple hs
  rw [Vals.ref1 r]
  cases ns with
  | nil => cases hne
  | cons n ns =>
    refine PySem.W.max_tuple_datum (I.ok.hd hc) hl (x := n) (xs := ns) (by simpa using holds_ints rv) (by show X.A.units + 1 + 0 < cLine; omega) fun i v h' tk hv ho hk => ?_
    obtain ⟨as, ho⟩ := ho
    cases ho
    obtain ⟨h1, h2⟩ := maxOf_ints ns n
    exact ⟨.int _, H, I.kept hk, ⟨_, rfl⟩, q _ h1 h2⟩
end
/-- o[i], by values -/
def rGetL (K : PySem.W.Frag) : V → V → Hp → VK → Prop := fun x y H Q => ∃ (p : Addr) (xs : List V) (j : Nat) (v : V), x = .ref p ∧ y = .int (j : Int) ∧ SqL K H p xs ∧ xs[j]? = some v ∧ Q v H
theorem get_listK {X : Cx} (K : PySem.W.Frag) (hK : X.K = K := by rfl) : PGet X (rGetL K) := by
  subst hK
  intro pins s σ H o i ov iv Q I ro ri h
  obtain ⟨p, xs, j, v, rfl, rfl, hq, he, q⟩ := h
  cases ro
  obtain ⟨t, rfl⟩ := ri
  obtain ⟨its, r, pl, hz⟩ := I.list hq
  obtain ⟨w, ew, rw'⟩ := r.get he
  have hl := r.length
  have hn := line63
  have hj := (List.getElem?_eq_some_iff.mp he).1
  exact wpAny_getItem_list pl.isList (by omega) (by omega) (by rw [Int.toNat_natCast]; simpa using ew) ⟨v, H, I, rw', q⟩
section
variable {σ : L2.St} {H : Hp} {D : Ends} {to ti te : TE} {tget : V → V → Hp → VK → Prop} {tip : TIp} {tset : TSet} {Q : VK}
theorem r_augS (h : to σ H fun o H1 => ti σ H1 fun i H2 => tget o i H2 fun x H3 => te σ H3 fun y H4 => tip x y H4 fun z H5 => tset o i z H5 fun H6 => D.nx σ H6) : tAugS to ti te tget tip tset D σ H := h
theorem r_getL {K : PySem.W.Frag} {p : Addr} {xs : List V} {j : Nat} {v : V} (h : SqL K H p xs) (e : xs[j]? = some v) (q : Q v H) : rGetL K (.ref p) (.int (j : Int)) H Q := ⟨p, xs, j, v, rfl, rfl, h, e, q⟩
theorem r_ipI {f : Int → Int → Int} {i j : Int} (q : Q (.int (f i j)) H) : ipI f (.int i) (.int j) H Q := ⟨i, j, rfl, rfl, q⟩
end
end Wk
end
section
set_option Elab.async false
set_option linter.all false
set_option maxRecDepth 100000
/-! defs called with keywords -/
namespace Wk
open PySem PySem.Spec PyProof.Rows L2
section
variable {X : Cx}
theorem c_maxL (K : PySem.W.Frag) (hc : X.calm = true) (hK : X.K = K := by rfl) : CallR X (.builtin "max") (rMax K) := by subst hK; exact cr_max hc
theorem c_minL (K : PySem.W.Frag) (hc : X.calm = true) (hK : X.K = K := by rfl) : CallR X (.builtin "min") (rMin K) := by subst hK; exact cr_min hc
theorem c_sumL (K : PySem.W.Frag) (hc : X.calm = true) (hK : X.K = K := by rfl) : CallR X (.builtin "sum") (rSum K) := by subst hK; exact cr_sum hc
end
def KeepK (P : Program) (w : World) (K : PySem.W.Frag) (mg : PySem.Str → Option Value) (base : Heap) (k : Nat) (x : PySem.Str) (ps : List PySem.Str) (n : Nat) (ks : List PySem.Str) (sp : Sp) : Prop :=
  ∃ f fd, FnOk P w K mg base CX0 k f fd ps sp ∧ mg x = some (.ref f) ∧ PySem.W.keepIn K (.ref f) = true ∧ KBn K fd ps n ks (fun us ws => us ++ ws) (fun vs zs => vs ++ zs)
/-- the def x of the text, called with and without keywords -/
def AtB (K : PySem.W.Frag) (mg : PySem.Str → Option Value) (x : PySem.Str) (st : Stmt) (ps : List PySem.Str) (n : Nat) (ks : List PySem.Str) : Prop :=
  ∃ f fd, Fun K x x st f fd ∧ mg x = some (.ref f) ∧ Binds K fd ps [] ∧ KBn K fd ps n ks (fun us ws => us ++ ws) (fun vs zs => vs ++ zs)
def KeepB (P : Program) (w : World) (K : PySem.W.Frag) (mg : PySem.Str → Option Value) (base : Heap) (k : Nat) (x : PySem.Str) (ps : List PySem.Str) (n : Nat) (ks : List PySem.Str) (sp : Sp) : Prop :=
  ∃ f fd, FnOk P w K mg base CX0 k f fd ps sp ∧ mg x = some (.ref f) ∧ PySem.W.keepIn K (.ref f) = true ∧ Binds K fd ps [] ∧ KBn K fd ps n ks (fun us ws => us ++ ws) (fun vs zs => vs ++ zs)
section
variable {P : Program} {w : World} {K : PySem.W.Frag} {mg : PySem.Str → Option Value} {base : Heap} {k n : Nat} {x : PySem.Str} {ps ks : List PySem.Str} {sp : Sp}
theorem KeepB.of {st : Stmt} {N : List PySem.Str} (a : AtB K mg x st ps n ks) (S : FnScope N ps (defScope st)) (len : ∀ vs H Q E, sp vs H Q E → vs.length = ps.length)
    (hbody : ∀ (f : Addr) (cdv : Value) (A : Around) (outer : List Env) (s : Shared) (H : Hp) (vs : List V) (Q : VK) (E : XK), Room k (A.deeper (envOfC x (defScope st) s.heap.objs.size f cdv)) → sp vs H Q E →
      ∃ t, PSs (cxOf CX0 P w K mg base N x (defScope st) f cdv A outer s H E).nox (defBody st) t ∧ t { nx := fun _ H' => Q .non H', rt := Q } (start N vs) H) : KeepB P w K mg base (k + 1) x ps n ks sp := by
  obtain ⟨f, fd, F, g, b, kb⟩ := a
  exact ⟨f, fd, F.okG S len (fun cdv A outer s H vs Q E hr h => hbody f cdv A outer s H vs Q E hr h), g, F.kp, b, kb⟩
theorem KeepB.keep (G : KeepB P w K mg base k x ps n ks sp) : Keep P w K mg base k x ps sp := by
  obtain ⟨f, fd, F, g, kp, b, _⟩ := G
  exact ⟨f, fd, F, g, kp, b⟩
theorem KeepB.kw (G : KeepB P w K mg base k x ps n ks sp) : KeepK P w K mg base k x ps n ks sp := by
  obtain ⟨f, fd, F, g, kp, _, kb⟩ := G
  exact ⟨f, fd, F, g, kp, kb⟩
end
section
variable {X : Cx} {k n : Nat} {x : PySem.Str} {ps ks : List PySem.Str} {sp : Sp} {p pos : Pos} {e : Expr} {es : List Expr} {kws : List Keyword} {t tk : TA}
theorem pe_kK (G : KeepK X.prog X.w X.K X.mg X.base k x ps n ks sp) (hr : Room k X.A) (hg : Gl X x) (ha : PA X (e :: es) t) (hkw : PK X kws tk) (hall : (backToKw pos (keywordEach kws X.env)).all (·.1.isSome) = true := by rfl) (hks : (backToKw pos (keywordEach kws X.env)).filterMap (·.1) = ks := by rfl)
    (hdb : (x == ("__debug__" : PySem.Str)) = false := by decide) (he : starEach (e :: es) X.env = (false, eval e X.env) :: starEach es X.env := by rfl)
    (hpl : ((backTo pos (starEach (e :: es) X.env)).any (·.1) || (backToKw pos (keywordEach kws X.env)).any (·.1.isNone)) = false := by rfl) :
    PE X (.Call (.Name x p) (e :: es) kws pos) (tCallN n ks.length sp (fun vs zs => vs ++ zs) E0 t tk) := by
  obtain ⟨f, fd, F, g, kp, b⟩ := G
  exact pe_callN F hr hg g kp b pass0 ha hkw hall hks hdb he hpl
theorem r_callN {m : Nat} {gV : List V → List V → List V} {E : XK} {σ : L2.St} {H : Hp} {Q : VK} (h : t σ H fun vs H1 => tk σ H1 fun zs H2 => vs.length = n ∧ zs.length = m ∧ sp (gV vs zs) H2 Q E) : tCallN n m sp gV E t tk σ H Q := h
end
section
variable {K : PySem.W.Frag} {j : Nat} {tl te : TE} {vs : List Nat} {σ : L2.St} {H : Hp} {Q : VK} {xs : List V}
/-- over range(n): the items told by R, that may speak of where the new list lies -/
theorem lc_rngD {n : Nat} {ta : TA} (R : Addr → Nat → V → Hp → Prop) (hn : n ≤ 50000) (hta : ∀ R' : List V → Hp → Prop, R' [.int n] H → ta σ H R') (mono : ∀ D i v H1 H2 L, H1 D = some (.lst L) → ExP D H1 H2 → R D i v H1 → R D i v H2)
    (step : ∀ D (i : Nat) H1 (Q' : VK) L, i < n → H D = none → Same H H1 → H1 D = some (.lst L) → (∀ v H2, Same H1 H2 → R D i v H2 → Q' v H2) → te ((wipe σ vs).set j (some (.int (i : Int)))) H1 Q')
    (done : ∀ D L H1, H D = none → Same H H1 → H1 D = some (.lst L) → L.length = n → (∀ (i : Nat) v, L[i]? = some v → R D i v H1) → Q (.ref D) H1) (hw : ∀ x, wipe ((wipe σ vs).set j (some x)) vs = wipe σ vs := by intro _; rfl) : tLc (iRng1 ta) (gName j) tYes te vs σ H Q := by
  refine hta _ ⟨n, rfl, by omega, by omega, fun D hD => ?_⟩
  have en : ((n : Int)).toNat = n := Int.toNat_natCast n
  rw [en]
  refine lc_range (lo := 0) (n := n) (fun i H1 => ∃ L, Same H H1 ∧ H1 D = some (.lst L) ∧ L.length = i ∧ ∀ (k : Nat) v, L[k]? = some v → R D k v H1) ⟨[], same_new hD, upd_same, rfl, fun k v e => by simp at e⟩ ?_ ?_
  · rintro i H1 hi ⟨L, s1, hL, len, r⟩
    have e0 : (0 : Int) + (i : Int) = (i : Int) := Int.zero_add _
    rw [e0]
    refine ⟨hw _, ?_⟩
    refine r_yes (r_T ?_)
    refine step D i H1 _ L hi hD s1 hL fun v H2 s2 rv => ?_
    have hL2 := s2 _ _ hL
    refine ⟨L, hL2, szlt (by omega), L ++ [v], fun b o e => ?_, upd_same, by rw [List.length_append, len]; rfl, fun k w e => ?_⟩
    · rw [upd_ne (ne_of_none e hD)]; exact s2 _ _ (s1 _ _ e)
    · rcases get_snoc e with ⟨_, q⟩ | ⟨q, rfl⟩
      · exact mono D k w H2 _ L hL2 ExP.upd (mono D k w H1 H2 L hL (L2.Same.exP s2) (r k w q))
      · rw [q, len]
        exact mono D i w H2 _ L hL2 ExP.upd rv
  · rintro H1 ⟨L, s1, hL, len, r⟩
    exact done D L H1 hD s1 hL len r
/-- over the tuple that a call hands back -/
theorem lc_tplS (R : Nat → V → Hp → Prop) (hz : xs.length ≤ 50000) (htl : ∀ R' : V → Hp → Prop, (∀ a H1, Same H H1 → SqT K H1 a xs → R' (.ref a) H1) → tl σ H R') (mono : ∀ i, Mut (R i))
    (step : ∀ (i : Nat) x H1 (Q' : VK), xs[i]? = some x → Same H H1 → (∀ v H2, Same H1 H2 → R i v H2 → Q' v H2) → te ((wipe σ vs).set j (some x)) H1 Q')
    (done : ∀ D L H1, H D = none → Same H H1 → H1 D = some (.lst L) → L.length = xs.length → (∀ i v, L[i]? = some v → R i v H1) → Q (.ref D) H1) (hw : ∀ x, wipe ((wipe σ vs).set j (some x)) vs = wipe σ vs := by intro _; rfl) : tLc (iTup K tl) (gName j) tYes te vs σ H Q :=
  htl _ fun a H1 s1 hs => lc_tpl (tl := fun _ H Q => Q (.ref a) H) R hs hz (fun _ h => h) mono (fun i x H2 Q' hx s2 k => step i x H2 Q' hx (s1.trans s2) k) (fun D L H2 hD s2 hL len r => done D L H2 (Same.free s1 hD) (s1.trans s2) hL len r) hw
end
end Wk
end
section
set_option Elab.async false
set_option linter.all false
set_option maxRecDepth 100000
namespace Wk
open PySem PySem.Spec PyProof.Rows L2
section
variable {K : PySem.W.Frag} {j : Nat} {tl te : TE} {tt : TT} {vs : List Nat} {σ : L2.St} {H : Hp} {Q : VK} {a : Addr} {L : List Nat}
/-- over a list of numbers, with a test -/
theorem lc_natF (p : Nat → Bool) (v : Nat → Nat) (hs : SqL K H a (natL L)) (hz : L.length ≤ 40000) (htl : ∀ R' : V → Hp → Prop, R' (.ref a) H → tl σ H R')
    (step : ∀ (x : Nat) H1 (QT : Bool → Hp → Prop), x ∈ L → Same H H1 → (∀ H2, Same H1 H2 → QT (p x) H2) → tt ((wipe σ vs).set j (some (.int (x : Int)))) H1 QT)
    (val : ∀ (x : Nat) H1 (Q' : VK), x ∈ L → p x = true → Same H H1 → (∀ H2, Same H1 H2 → Q' (.int (v x : Int)) H2) → te ((wipe σ vs).set j (some (.int (x : Int)))) H1 Q')
    (done : ∀ D H1, H D = none → Same H H1 → H1 D = some (.lst (natL ((L.filter p).map v))) → Q (.ref D) H1) (hw : ∀ x, wipe ((wipe σ vs).set j (some x)) vs = wipe σ vs := by intro _; rfl) : tLc (iList K tl) (gName j) tt te vs σ H Q := by
  refine htl _ ⟨a, rfl, ⟨natL L, hs⟩, fun D hD => ?_⟩
  refine lc_list (K := K) (a := a) (xs := natL L) (fun i H1 => Same H H1 ∧ H1 D = some (.lst (natL (((L.take i).filter p).map v)))) ⟨same_new hD, upd_same⟩ (fun i H1 _ ⟨s1, _⟩ => s1.seq hs) ?_ ?_
  · rintro i x H1 hx ⟨s1, hL⟩
    have hi : i < L.length := by have := (List.getElem?_eq_some_iff.mp hx).1; rw [natL_len] at this; exact this
    have hy := natL_get hi
    rw [hy] at hx
    cases hx
    have hm := List.getElem_mem hi
    refine ⟨hw _, ?_⟩
    have tk : L.take (i + 1) = L.take i ++ [L[i]] := by rw [List.take_succ, List.getElem?_eq_getElem hi]; rfl
    show tt _ H1 _
    refine step L[i] H1 _ hm s1 fun H2 s2 => ?_
    cases hf : p L[i] with
    | true =>
      show te _ H2 _
      refine val L[i] H2 _ hm hf (s1.trans s2) fun H3 s3 => ⟨_, s3 _ _ (s2 _ _ hL), szlt (by have := List.length_filter_le p (L.take i); rw [natL_len, List.length_map]; have := List.length_take_le i L; omega), fun b o e => ?_, ?_⟩
      · rw [upd_ne (ne_of_none e hD)]; exact s3 _ _ (s2 _ _ (s1 _ _ e))
      · rw [upd_same, tk, List.filter_append, List.map_append]
        have : List.filter p [L[i]] = [L[i]] := by rw [List.filter_cons, if_pos hf]; rfl
        rw [this]
        unfold natL
        rw [List.map_append]
        rfl
    | false =>
      show Same H H2 ∧ H2 D = some (.lst (natL (((L.take (i + 1)).filter p).map v)))
      have : List.filter p [L[i]] = [] := by rw [List.filter_cons, if_neg (by rw [hf]; decide)]; rfl
      rw [tk, List.filter_append, this, List.append_nil]
      exact ⟨s1.trans s2, s2 _ _ hL⟩
  · rintro H1 ⟨s1, hL⟩
    refine done D H1 hD s1 ?_
    rw [natL_len, List.take_length] at hL
    exact hL
end
end Wk
end
section
set_option Elab.async false
set_option linter.all false
set_option maxRecDepth 100000
namespace Wk
open PySem PySem.Spec PyProof.Rows L2
def top (i : Nat) : Stmt := PySem.Challenge.pw_sevenninths_k42_shares_add_and_rise.main.body.getD i (.Pass ⟨0, 0, 0, 0⟩)
abbrev s__wall : Stmt := top 1
abbrev s_InvalidNumber___init__ : Stmt := inClass (top 4) 0
abbrev s_InvalidGroup___init__ : Stmt := inClass (top 5) 0
abbrev s_InvalidMap___init__ : Stmt := inClass (top 6) 0
abbrev s_Undefined___init__ : Stmt := inClass (top 7) 0
abbrev s_is_whole : Stmt := top 9
abbrev s_is_within : Stmt := top 10
abbrev s_is_sequence : Stmt := top 11
abbrev s_is_number_row : Stmt := top 12
abbrev s_is_member : Stmt := top 13
abbrev s_is_member_row : Stmt := top 14
abbrev s_is_map : Stmt := top 15
abbrev s_require_within : Stmt := top 16
abbrev s_require_member : Stmt := top 17
abbrev s_require_map : Stmt := top 18
abbrev s_Group___init__ : Stmt := inClass (top 21) 0
abbrev s_Group___eq__ : Stmt := inClass (top 21) 1
abbrev s_Group_commutative : Stmt := inClass (top 21) 2
abbrev s_Group_product : Stmt := inClass (top 21) 3
abbrev s_Group_inverse : Stmt := inClass (top 21) 4
abbrev s_Group_order : Stmt := inClass (top 21) 5
abbrev s_Group_power : Stmt := inClass (top 21) 6
abbrev s__judged_rows : Stmt := top 22
abbrev s__is_row : Stmt := top 23
abbrev s__judged_neutral : Stmt := top 24
abbrev s__judged_inverses : Stmt := top 25
abbrev s__judge_products : Stmt := top 26
abbrev s_first_broken : Stmt := top 28
abbrev s_is_hom : Stmt := top 29
abbrev s_Share___init__ : Stmt := inClass (top 32) 0
abbrev s_Share_of : Stmt := inClass (top 32) 1
abbrev s_Share___eq__ : Stmt := inClass (top 32) 2
abbrev s_Share___add__ : Stmt := inClass (top 32) 3
abbrev s_Share___radd__ : Stmt := inClass (top 32) 4
abbrev s_Share___sub__ : Stmt := inClass (top 32) 5
abbrev s_Share___rsub__ : Stmt := inClass (top 32) 6
abbrev s_Share___mul__ : Stmt := inClass (top 32) 7
abbrev s_Share___rmul__ : Stmt := inClass (top 32) 8
abbrev s_Share_below : Stmt := inClass (top 32) 9
abbrev s_Share_power : Stmt := inClass (top 32) 10
abbrev s_Share_written : Stmt := inClass (top 32) 11
abbrev s__as_share : Stmt := top 33
abbrev s_wrong_places : Stmt := top 35
abbrev s_votes : Stmt := top 36
abbrev s__inverted : Stmt := top 37
abbrev s__counted : Stmt := top 38
abbrev s_voted : Stmt := top 39
abbrev s_close_hom : Stmt := top 41
abbrev s_right_share : Stmt := top 44
abbrev s_wrong_share : Stmt := top 45
abbrev s_silent_share : Stmt := top 46
abbrev s__judged_shares : Stmt := top 47
abbrev s__majority_share : Stmt := top 48
abbrev s__total : Stmt := top 49
abbrev s__law_draws : Stmt := top 51
abbrev s__law_take : Stmt := top 52
abbrev s__law_cyclic : Stmt := top 53
abbrev s__law_both : Stmt := top 54
abbrev s__law_dihedral : Stmt := top 55
abbrev s__law_quaternion : Stmt := top 56
abbrev s__law_renamed : Stmt := top 57
abbrev s__law_order : Stmt := top 58
abbrev s__law_neutral : Stmt := top 59
abbrev s__law_inverses : Stmt := top 60
abbrev s__law_group : Stmt := top 61
abbrev s__law_generated : Stmt := top 62
abbrev s__law_generators : Stmt := top 63
abbrev s__law_extended : Stmt := top 64
abbrev s__law_hom : Stmt := top 65
abbrev s__law_spoilt : Stmt := top 66
abbrev s__law_votes : Stmt := top 67
abbrev s__law_broken : Stmt := top 68
abbrev s__law_fraction : Stmt := top 69
abbrev s__law_is_share : Stmt := top 70
abbrev s_law : Stmt := top 71
theorem sc__wall : FnScope ["k"] ["k"] (defScope s__wall) := ⟨rfl, rfl, rfl, by decide +kernel, rfl, by decide +kernel, by decide +kernel⟩
theorem sc_InvalidNumber___init__ : FnScope ["self", "value"] ["self", "value"] (defScope s_InvalidNumber___init__) := ⟨rfl, rfl, rfl, by decide +kernel, rfl, by decide +kernel, by decide +kernel⟩
theorem sc_InvalidGroup___init__ : FnScope ["self", "part", "place"] ["self", "part", "place"] (defScope s_InvalidGroup___init__) := ⟨rfl, rfl, rfl, by decide +kernel, rfl, by decide +kernel, by decide +kernel⟩
theorem sc_InvalidMap___init__ : FnScope ["self", "value"] ["self", "value"] (defScope s_InvalidMap___init__) := ⟨rfl, rfl, rfl, by decide +kernel, rfl, by decide +kernel, by decide +kernel⟩
theorem sc_Undefined___init__ : FnScope ["self", "what"] ["self", "what"] (defScope s_Undefined___init__) := ⟨rfl, rfl, rfl, by decide +kernel, rfl, by decide +kernel, by decide +kernel⟩
theorem sc_is_whole : FnScope ["value"] ["value"] (defScope s_is_whole) := ⟨rfl, rfl, rfl, by decide +kernel, rfl, by decide +kernel, by decide +kernel⟩
theorem sc_is_within : FnScope ["value", "least", "most"] ["value", "least", "most"] (defScope s_is_within) := ⟨rfl, rfl, rfl, by decide +kernel, rfl, by decide +kernel, by decide +kernel⟩
theorem sc_is_sequence : FnScope ["value"] ["value"] (defScope s_is_sequence) := ⟨rfl, rfl, rfl, by decide +kernel, rfl, by decide +kernel, by decide +kernel⟩
theorem sc_is_number_row : FnScope ["value", "length", "bound", "x"] ["value", "length", "bound"] (defScope s_is_number_row) := ⟨rfl, rfl, rfl, by decide +kernel, rfl, by decide +kernel, by decide +kernel⟩
theorem sc_is_member : FnScope ["group", "value"] ["group", "value"] (defScope s_is_member) := ⟨rfl, rfl, rfl, by decide +kernel, rfl, by decide +kernel, by decide +kernel⟩
theorem sc_is_member_row : FnScope ["group", "value", "length"] ["group", "value", "length"] (defScope s_is_member_row) := ⟨rfl, rfl, rfl, by decide +kernel, rfl, by decide +kernel, by decide +kernel⟩
theorem sc_is_map : FnScope ["one", "other", "value"] ["one", "other", "value"] (defScope s_is_map) := ⟨rfl, rfl, rfl, by decide +kernel, rfl, by decide +kernel, by decide +kernel⟩
theorem sc_require_within : FnScope ["value", "least", "most"] ["value", "least", "most"] (defScope s_require_within) := ⟨rfl, rfl, rfl, by decide +kernel, rfl, by decide +kernel, by decide +kernel⟩
theorem sc_require_member : FnScope ["group", "value"] ["group", "value"] (defScope s_require_member) := ⟨rfl, rfl, rfl, by decide +kernel, rfl, by decide +kernel, by decide +kernel⟩
theorem sc_require_map : FnScope ["one", "other", "value"] ["one", "other", "value"] (defScope s_require_map) := ⟨rfl, rfl, rfl, by decide +kernel, rfl, by decide +kernel, by decide +kernel⟩
theorem sc_Group___init__ : FnScope ["self", "table"] ["self", "table"] (defScope s_Group___init__) := ⟨rfl, rfl, rfl, by decide +kernel, rfl, by decide +kernel, by decide +kernel⟩
theorem sc_Group___eq__ : FnScope ["self", "other"] ["self", "other"] (defScope s_Group___eq__) := ⟨rfl, rfl, rfl, by decide +kernel, rfl, by decide +kernel, by decide +kernel⟩
theorem sc_Group_commutative : FnScope ["self"] ["self"] (defScope s_Group_commutative) := ⟨rfl, rfl, rfl, by decide +kernel, rfl, by decide +kernel, by decide +kernel⟩
theorem sc_Group_product : FnScope ["self", "x", "y"] ["self", "x", "y"] (defScope s_Group_product) := ⟨rfl, rfl, rfl, by decide +kernel, rfl, by decide +kernel, by decide +kernel⟩
theorem sc_Group_inverse : FnScope ["self", "x"] ["self", "x"] (defScope s_Group_inverse) := ⟨rfl, rfl, rfl, by decide +kernel, rfl, by decide +kernel, by decide +kernel⟩
theorem sc_Group_order : FnScope ["self", "x", "count", "reached"] ["self", "x"] (defScope s_Group_order) := ⟨rfl, rfl, rfl, by decide +kernel, rfl, by decide +kernel, by decide +kernel⟩
theorem sc_Group_power : FnScope ["self", "x", "k", "reached", "_"] ["self", "x", "k"] (defScope s_Group_power) := ⟨rfl, rfl, rfl, by decide +kernel, rfl, by decide +kernel, by decide +kernel⟩
theorem sc__judged_rows : FnScope ["table", "size", "x", "row"] ["table"] (defScope s__judged_rows) := ⟨rfl, rfl, rfl, by decide +kernel, rfl, by decide +kernel, by decide +kernel⟩
theorem sc__is_row : FnScope ["row", "size", "value"] ["row", "size"] (defScope s__is_row) := ⟨rfl, rfl, rfl, by decide +kernel, rfl, by decide +kernel, by decide +kernel⟩
theorem sc__judged_neutral : FnScope ["table", "e", "row", "x"] ["table"] (defScope s__judged_neutral) := ⟨rfl, rfl, rfl, by decide +kernel, rfl, by decide +kernel, by decide +kernel⟩
theorem sc__judged_inverses : FnScope ["table", "neutral", "inverses", "x", "row", "y", "xy", "partners"] ["table", "neutral"] (defScope s__judged_inverses) := ⟨rfl, rfl, rfl, by decide +kernel, rfl, by decide +kernel, by decide +kernel⟩
theorem sc__judge_products : FnScope ["table", "x", "row", "y", "xy", "z", "yz"] ["table"] (defScope s__judge_products) := ⟨rfl, rfl, rfl, by decide +kernel, rfl, by decide +kernel, by decide +kernel⟩
theorem sc_first_broken : FnScope ["one", "other", "f", "x", "row", "y", "xy"] ["one", "other", "f"] (defScope s_first_broken) := ⟨rfl, rfl, rfl, by decide +kernel, rfl, by decide +kernel, by decide +kernel⟩
theorem sc_is_hom : FnScope ["one", "other", "f"] ["one", "other", "f"] (defScope s_is_hom) := ⟨rfl, rfl, rfl, by decide +kernel, rfl, by decide +kernel, by decide +kernel⟩
theorem sc_Share___init__ : FnScope ["self", "top", "bottom", "common"] ["self", "top", "bottom"] (defScope s_Share___init__) := ⟨rfl, rfl, rfl, by decide +kernel, rfl, by decide +kernel, by decide +kernel⟩
theorem sc_Share_of : FnScope ["cls", "part", "whole"] ["cls", "part", "whole"] (defScope s_Share_of) := ⟨rfl, rfl, rfl, by decide +kernel, rfl, by decide +kernel, by decide +kernel⟩
theorem sc_Share___eq__ : FnScope ["self", "other"] ["self", "other"] (defScope s_Share___eq__) := ⟨rfl, rfl, rfl, by decide +kernel, rfl, by decide +kernel, by decide +kernel⟩
theorem sc_Share___add__ : FnScope ["self", "other", "share"] ["self", "other"] (defScope s_Share___add__) := ⟨rfl, rfl, rfl, by decide +kernel, rfl, by decide +kernel, by decide +kernel⟩
theorem sc_Share___radd__ : FnScope ["self", "other", "share"] ["self", "other"] (defScope s_Share___radd__) := ⟨rfl, rfl, rfl, by decide +kernel, rfl, by decide +kernel, by decide +kernel⟩
theorem sc_Share___sub__ : FnScope ["self", "other", "share"] ["self", "other"] (defScope s_Share___sub__) := ⟨rfl, rfl, rfl, by decide +kernel, rfl, by decide +kernel, by decide +kernel⟩
theorem sc_Share___rsub__ : FnScope ["self", "other", "share"] ["self", "other"] (defScope s_Share___rsub__) := ⟨rfl, rfl, rfl, by decide +kernel, rfl, by decide +kernel, by decide +kernel⟩
theorem sc_Share___mul__ : FnScope ["self", "other", "share"] ["self", "other"] (defScope s_Share___mul__) := ⟨rfl, rfl, rfl, by decide +kernel, rfl, by decide +kernel, by decide +kernel⟩
theorem sc_Share___rmul__ : FnScope ["self", "other", "share"] ["self", "other"] (defScope s_Share___rmul__) := ⟨rfl, rfl, rfl, by decide +kernel, rfl, by decide +kernel, by decide +kernel⟩
theorem sc_Share_below : FnScope ["self", "other", "share"] ["self", "other"] (defScope s_Share_below) := ⟨rfl, rfl, rfl, by decide +kernel, rfl, by decide +kernel, by decide +kernel⟩
theorem sc_Share_power : FnScope ["self", "k", "top", "bottom", "_"] ["self", "k"] (defScope s_Share_power) := ⟨rfl, rfl, rfl, by decide +kernel, rfl, by decide +kernel, by decide +kernel⟩
theorem sc_Share_written : FnScope ["self"] ["self"] (defScope s_Share_written) := ⟨rfl, rfl, rfl, by decide +kernel, rfl, by decide +kernel, by decide +kernel⟩
theorem sc__as_share : FnScope ["value"] ["value"] (defScope s__as_share) := ⟨rfl, rfl, rfl, by decide +kernel, rfl, by decide +kernel, by decide +kernel⟩
theorem sc_wrong_places : FnScope ["f", "g", "place"] ["f", "g"] (defScope s_wrong_places) := ⟨rfl, rfl, rfl, by decide +kernel, rfl, by decide +kernel, by decide +kernel⟩
theorem sc_votes : FnScope ["one", "other", "f", "x"] ["one", "other", "f", "x"] (defScope s_votes) := ⟨rfl, rfl, rfl, by decide +kernel, rfl, by decide +kernel, by decide +kernel⟩
theorem sc__inverted : FnScope ["other", "f", "value"] ["other", "f"] (defScope s__inverted) := ⟨rfl, rfl, rfl, by decide +kernel, rfl, by decide +kernel, by decide +kernel⟩
theorem sc__counted : FnScope ["one", "other", "f", "inverses", "x", "counts", "y", "xy"] ["one", "other", "f", "inverses", "x"] (defScope s__counted) := ⟨rfl, rfl, rfl, by decide +kernel, rfl, by decide +kernel, by decide +kernel⟩
theorem sc_voted : FnScope ["one", "other", "f", "inverses", "x", "rows", "row"] ["one", "other", "f"] (defScope s_voted) := ⟨rfl, rfl, rfl, by decide +kernel, rfl, by decide +kernel, by decide +kernel⟩
theorem sc_close_hom : FnScope ["one", "other", "f", "told"] ["one", "other", "f"] (defScope s_close_hom) := ⟨rfl, rfl, rfl, by decide +kernel, rfl, by decide +kernel, by decide +kernel⟩
theorem sc_right_share : FnScope ["one", "other", "f", "x", "k", "right", "shares"] ["one", "other", "f", "x", "k"] (defScope s_right_share) := ⟨rfl, rfl, rfl, by decide +kernel, rfl, by decide +kernel, by decide +kernel⟩
theorem sc_wrong_share : FnScope ["one", "other", "f", "x", "k", "right", "shares"] ["one", "other", "f", "x", "k"] (defScope s_wrong_share) := ⟨rfl, rfl, rfl, by decide +kernel, rfl, by decide +kernel, by decide +kernel⟩
theorem sc_silent_share : FnScope ["one", "other", "f", "x", "k", "_", "shares"] ["one", "other", "f", "x", "k"] (defScope s_silent_share) := ⟨rfl, rfl, rfl, by decide +kernel, rfl, by decide +kernel, by decide +kernel⟩
theorem sc__judged_shares : FnScope ["one", "other", "f", "x", "k", "hom", "count", "shares"] ["one", "other", "f", "x", "k"] (defScope s__judged_shares) := ⟨rfl, rfl, rfl, by decide +kernel, rfl, by decide +kernel, by decide +kernel⟩
theorem sc__majority_share : FnScope ["part", "whole", "k", "ways", "_", "less", "same"] ["part", "whole", "k"] (defScope s__majority_share) := ⟨rfl, rfl, rfl, by decide +kernel, rfl, by decide +kernel, by decide +kernel⟩
theorem sc__total : FnScope ["shares", "total", "share"] ["shares"] (defScope s__total) := ⟨rfl, rfl, rfl, by decide +kernel, rfl, by decide +kernel, by decide +kernel⟩
theorem sc__law_draws : FnScope ["script", "many", "cell", "rests", "draws", "k", "at", "mixed"] ["script", "many"] (defScope s__law_draws) := ⟨rfl, rfl, rfl, by decide +kernel, rfl, by decide +kernel, by decide +kernel⟩
theorem sc__law_take : FnScope ["hand", "many", "at", "draws"] ["hand", "many"] (defScope s__law_take) := ⟨rfl, rfl, rfl, by decide +kernel, rfl, by decide +kernel, by decide +kernel⟩
theorem sc__law_cyclic : FnScope ["n", "x", "y"] ["n"] (defScope s__law_cyclic) := ⟨rfl, rfl, rfl, by decide +kernel, rfl, by decide +kernel, by decide +kernel⟩
theorem sc__law_both : FnScope ["one", "other", "m", "found", "x", "row", "y"] ["one", "other"] (defScope s__law_both) := ⟨rfl, rfl, rfl, by decide +kernel, rfl, by decide +kernel, by decide +kernel⟩
theorem sc__law_dihedral : FnScope ["n", "found", "x", "a", "s", "row", "y", "b", "t"] ["n"] (defScope s__law_dihedral) := ⟨rfl, rfl, rfl, by decide +kernel, rfl, by decide +kernel, by decide +kernel⟩
theorem sc__law_quaternion : FnScope ["units", "found", "x", "row", "y", "made"] [] (defScope s__law_quaternion) := ⟨rfl, rfl, rfl, by decide +kernel, rfl, by decide +kernel, by decide +kernel⟩
theorem sc__law_renamed : FnScope ["table", "order", "x", "back", "i", "y"] ["table", "order"] (defScope s__law_renamed) := ⟨rfl, rfl, rfl, by decide +kernel, rfl, by decide +kernel, by decide +kernel⟩
theorem sc__law_order : FnScope ["hand", "n", "x", "left", "k"] ["hand", "n"] (defScope s__law_order) := ⟨rfl, rfl, rfl, by decide +kernel, rfl, by decide +kernel, by decide +kernel⟩
theorem sc__law_neutral : FnScope ["table", "e"] ["table"] (defScope s__law_neutral) := ⟨rfl, rfl, rfl, by decide +kernel, rfl, by decide +kernel, by decide +kernel⟩
theorem sc__law_inverses : FnScope ["table", "e", "row"] ["table"] (defScope s__law_inverses) := ⟨rfl, rfl, rfl, by decide +kernel, rfl, by decide +kernel, by decide +kernel⟩
theorem sc__law_group : FnScope ["hand", "sizes", "n", "kind", "table"] ["hand", "sizes"] (defScope s__law_group) := ⟨rfl, rfl, rfl, by decide +kernel, rfl, by decide +kernel, by decide +kernel⟩
theorem sc__law_generated : FnScope ["table", "gens", "found", "k", "g"] ["table", "gens"] (defScope s__law_generated) := ⟨rfl, rfl, rfl, by decide +kernel, rfl, by decide +kernel, by decide +kernel⟩
theorem sc__law_generators : FnScope ["table", "gens", "k", "held", "x"] ["table"] (defScope s__law_generators) := ⟨rfl, rfl, rfl, by decide +kernel, rfl, by decide +kernel, by decide +kernel⟩
theorem sc__law_extended : FnScope ["one", "other", "gens", "values", "first", "told", "todo", "k", "x", "g", "v", "y", "w"] ["one", "other", "gens", "values"] (defScope s__law_extended) := ⟨rfl, rfl, rfl, by decide +kernel, rfl, by decide +kernel, by decide +kernel⟩
theorem sc__law_hom : FnScope ["hand", "one", "other", "gens", "t", "g", "values", "f", "x"] ["hand", "one", "other"] (defScope s__law_hom) := ⟨rfl, rfl, rfl, by decide +kernel, rfl, by decide +kernel, by decide +kernel⟩
theorem sc__law_spoilt : FnScope ["hand", "f", "other", "second", "many", "k", "x"] ["hand", "f", "other", "second", "many"] (defScope s__law_spoilt) := ⟨rfl, rfl, rfl, by decide +kernel, rfl, by decide +kernel, by decide +kernel⟩
theorem sc__law_votes : FnScope ["one", "other", "f", "x", "back", "h", "found", "y"] ["one", "other", "f", "x"] (defScope s__law_votes) := ⟨rfl, rfl, rfl, by decide +kernel, rfl, by decide +kernel, by decide +kernel⟩
theorem sc__law_broken : FnScope ["one", "other", "f", "total", "x", "row", "y", "z"] ["one", "other", "f"] (defScope s__law_broken) := ⟨rfl, rfl, rfl, by decide +kernel, rfl, by decide +kernel, by decide +kernel⟩
theorem sc__law_fraction : FnScope ["top", "bottom", "a", "b", "k"] ["top", "bottom"] (defScope s__law_fraction) := ⟨rfl, rfl, rfl, by decide +kernel, rfl, by decide +kernel, by decide +kernel⟩
theorem sc__law_is_share : FnScope ["share", "top", "bottom"] ["share", "top", "bottom"] (defScope s__law_is_share) := ⟨rfl, rfl, rfl, by decide +kernel, rfl, by decide +kernel, by decide +kernel⟩
theorem sc_law : FnScope ["script", "hand", "one", "other", "n", "h", "f", "two", "x", "sure", "before", "k", "tops", "bottom", "shares", "share", "top", "now"] ["script"] (defScope s_law) := ⟨rfl, rfl, rfl, by decide +kernel, rfl, by decide +kernel, by decide +kernel⟩
structure Txt (mg : Str → Option Value) : Prop where
  n_list : mg "list" = none
  n_len : mg "len" = none
  n_abs : mg "abs" = none
  n_int : mg "int" = none
  n_max : mg "max" = none
  n_min : mg "min" = none
  n_range : mg "range" = none
  n_tuple : mg "tuple" = none
  n_isinstance : mg "isinstance" = none
  n_bool : mg "bool" = none
  n_all : mg "all" = none
  n_any : mg "any" = none
  n_sum : mg "sum" = none
  n_zip : mg "zip" = none
  n_repr : mg "repr" = none
  n_enumerate : mg "enumerate" = none
structure TxtP (mg : Str → Option Value) : Prop extends Txt mg where
  n__MOST_PRIME : ∃ t, mg "_MOST_PRIME" = some (.int 101 t)
end Wk
end
section
set_option Elab.async false
set_option linter.all false
set_option maxRecDepth 100000
/-! what numeric laws draw from: the hand -/
namespace Wk
open PySem PySem.Spec PyProof.Rows L2
/-- the law's hand at p: its draws at q, none below 0 -/
def HS (H : Hp) (p q : Addr) : Prop := ∃ (i : Int) (ds : List Int), H p = some (.lst [.ref q, .int i]) ∧ H q = some (.lst (ds.map V.int)) ∧ ds.length ≤ 1000 ∧ 0 ≤ i ∧ ∀ d ∈ ds, 0 ≤ d
theorem HS.mono {H H' : Hp} {p q : Addr} (s : Same H H') (d : HS H p q) : HS H' p q := let ⟨i, ds, h1, h2, r⟩ := d; ⟨i, ds, s _ _ h1, s _ _ h2, r⟩
theorem HS.ne {H : Hp} {p q a : Addr} (d : HS H p q) (h : H a = none) : a ≠ p ∧ a ≠ q := let ⟨i, ds, h1, h2, r⟩ := d; ⟨(ne_of_none h1 h).symm, (ne_of_none h2 h).symm⟩
theorem HS.mut {H H' : Hp} {p q D : Addr} (d : HS H p q) (hp : D ≠ p) (hq : D ≠ q) (s : ExP D H H') : HS H' p q := let ⟨i, ds, h1, h2, r⟩ := d; ⟨i, ds, s _ _ hp.symm h1, s _ _ hq.symm h2, r⟩
theorem HS.npq {H : Hp} {p q : Addr} (d : HS H p q) : q ≠ p := by
  obtain ⟨i, ds, h1, h2, _⟩ := d
  intro e
  rw [e, h1] at h2
  cases ds with
  | nil => cases h2
  | cons a r => injection h2 with h2; injection h2 with h2; injection h2 with h2 _; cases h2
theorem HS.at_ {H : Hp} {p q : Addr} (d : HS H p q) : ∃ o, H p = some (.lst o) := let ⟨i, ds, h1, _⟩ := d; ⟨_, h1⟩
/-- numbers out of a list whose items are told one by one -/
theorem ints_of {P : Int → Prop} : ∀ {L : List V}, (∀ v ∈ L, ∃ z : Int, v = .int z ∧ P z) → ∃ rs : List Int, L = rs.map V.int ∧ (∀ z ∈ rs, P z) ∧ rs.length = L.length
  | [], _ => ⟨[], rfl, fun _ h => (nomatch h), rfl⟩
  | v :: L, h => by
    obtain ⟨z, rfl, hz⟩ := h v List.mem_cons_self
    obtain ⟨rs, rfl, hr, hl⟩ := ints_of (P := P) (L := L) fun u hu => h u (List.mem_cons_of_mem _ hu)
    exact ⟨z :: rs, rfl, fun y hy => (List.mem_cons.mp hy).elim (fun e => e ▸ hz) (hr y), by rw [List.length_cons, List.length_cons, hl]⟩
theorem ints_at {P : Nat → Int → Prop} {L : List V} {n : Nat} (hl : L.length = n) (h : ∀ (i : Nat) v, L[i]? = some v → ∃ z : Int, v = .int z ∧ P i z) : ∃ rs : List Int, L = rs.map V.int ∧ rs.length = n ∧ ∀ (i : Nat) z, rs[i]? = some z → P i z := by
  obtain ⟨rs, e, _, l2⟩ := ints_of (P := fun _ => True) (L := L) fun v hv => by
    obtain ⟨j, hj, ej⟩ := List.getElem_of_mem hv
    obtain ⟨z, e, _⟩ := h j v (by rw [List.getElem?_eq_getElem hj, ej])
    exact ⟨z, e, trivial⟩
  refine ⟨rs, e, by omega, fun i z hz => ?_⟩
  obtain ⟨z', e', p⟩ := h i (.int z) (by rw [e, List.getElem?_map, hz]; rfl)
  cases e'
  exact p
theorem at_n {xs : List V} {i : Nat} {v : V} (h : xs[i]? = some v) : atI xs (i : Int) = some v := at_of rfl h
theorem ix_ok {n : Nat} {i : Int} (h0 : 0 ≤ i) (h : i < n) : ixN n i = some i.toNat := by unfold ixN; rw [if_pos h0, if_pos h]
theorem ints_snoc (rs : List Int) (z : Int) : rs.map V.int ++ [.int z] = (rs ++ [z]).map V.int := by rw [List.map_append]; rfl
theorem ints_set (rs : List Int) (j : Nat) (z : Int) : (rs.map V.int).set j (.int z) = (rs.set j z).map V.int := (List.map_set ..).symm
def spDraws (K : PySem.W.Frag) : Sp := fun vs H Q _ => ∃ (a : Addr) (ns : List Int) (m : Nat), vs = [.ref a, .int m] ∧ SqL K H a (ns.map V.int) ∧ ns.length ≤ 63 ∧ m ≤ 1000 ∧
  ∀ (H' : Hp) (q : Addr) (ds : List Int), H q = none → Same H H' → H' q = some (.lst (ds.map V.int)) → ds.length ≤ 1000 → (∀ d ∈ ds, 0 ≤ d) → Q (.ref q) H'
def spTake : Sp := fun vs H Q _ => ∃ (p q : Addr) (m : Int), vs = [.ref p, .int m] ∧ HS H p q ∧ 0 < m ∧ ∀ H' r, ExP p H H' → HS H' p q → 0 ≤ r → r < m → Q (.int r) H'
end Wk
end
section
set_option Elab.async false
set_option linter.all false
set_option maxRecDepth 100000
namespace Wk
open PySem PySem.Spec PyProof.Rows L2
local macro_rules | `(tactic| walk_at "hp") => `(tactic| first | assumption | exact upd_same | exact (upd_ne (ne_of_none (by assumption) (by assumption))).trans (by assumption) | (rw [upd_ne (by first | assumption | exact Ne.symm (by assumption))]; walk_at "hp"))
local macro_rules | `(tactic| walk_at "sq") => `(tactic| first | assumption | exact SqL.of (by assumption) | exact SqT.of (by assumption) | exact SqL.of (by walk_at "hp") | exact SqT.of (by walk_at "hp") | (refine Same.seq ?_ ?_ <;> assumption))
local macro_rules | `(tactic| walk_at "cmul") => `(tactic| first | exact .inr ⟨by decide, by decide⟩ | exact .inl ⟨by decide, by decide⟩ | exact .inr ⟨by omega, by omega⟩ | exact .inl ⟨by omega, by omega⟩)
local macro_rules | `(tactic| walk_at "cdiv") => `(tactic| first | exact ⟨by decide, by decide⟩ | exact wide_div (b := 64) (by omega) (by omega) (by decide) (by decide) | exact wide_div (b := 128) (by omega) (by omega) (by decide) (by decide))
local macro_rules | `(tactic| walk_at "rd1") => `(tactic| first
  | ((with_reducible show tVar _ _ _ _); refine Wk.r_var rfl ?_)
  | (with_reducible first
    | refine Wk.r_c ?_ | refine Wk.r_op ?_ | refine Wk.r_cons ?_ | refine Wk.r_nil ?_
    | refine Wk.r_seq ?_ | refine Wk.r_next ?_ | refine Wk.r_set ?_ | refine Wk.r_asgS ?_ | refine Wk.r_ret ?_ | refine Wk.r_drop ?_ | refine Wk.r_if ?_
    | refine Wk.r_asgG ?_ | refine Wk.r_gName ?_ | refine Wk.r_gCons ?_ | refine Wk.r_gNil ?_ | refine Wk.r_par ?_ | refine Wk.r_par3 ?_ | refine Wk.r_lstRg1 ?_ | refine Wk.r_tupRg1 ?_ | refine ⟨_, _, _, rfl, ?_⟩ | refine Wk.r_un ?_ | refine Wk.r_I0 ?_ | refine Wk.r_U ?_
    | refine Wk.r_test ?_ | refine Wk.r_B ?_ | refine Wk.r_k ?_ | refine Wk.r_not ?_ | refine Wk.r_and ?_ | refine Wk.r_or ?_ | refine Wk.r_andV ?_ | refine Wk.r_orV ?_ | refine Wk.r_notV ?_
    | refine Wk.r_CB ?_ | refine Wk.r_chain ?_ | refine Wk.r_fld ?_ | refine Wk.r_sfld ?_ | refine Wk.r_lst ?_ | refine Wk.r_tup ?_ | refine Wk.r_call ?_ | refine Wk.r_BM ?_ | refine Wk.r_BM0 ?_ | refine Wk.r_T ?_ | refine Wk.r_nT ?_ | refine Wk.r_nF ?_ | refine Wk.r_F ?_
    | refine Or.inl ⟨_, rfl, ?_⟩ | refine Or.inr ⟨_, rfl, ?_⟩ | refine ⟨_, rfl, ?_⟩ | refine ⟨_, _, rfl, ?_⟩)
  | ((with_reducible refine Wk.r_eq ?c0 ?_); (case c0 => rfl)) | ((with_reducible refine Wk.r_ne ?c0 ?_); (case c0 => rfl))
  | ((with_reducible refine Wk.r_pow ?c0 ?_); (case c0 => exact ⟨by decide, by decide, by decide⟩))
  | ((with_reducible refine Wk.r_mul ?c0 ?_); (case c0 => walk_at "cmul")) | ((with_reducible refine Wk.r_mod ?c0 ?_); (case c0 => first | decide | omega)) | ((with_reducible refine Wk.r_div ?c0 ?_); (case c0 => walk_at "cdiv"))
  | ((with_reducible refine Wk.r_new ?c0 ?_); (case c0 => (simp only [List.length_cons, List.length_nil]; omega)))
  | ((with_reducible show gTup _ _ _ _ _ _ _); refine Wk.r_gTup (by walk_at "sq") (by rfl) ?_)
  | (refine Wk.r_tyL (by walk_at "hp") ?_)
  | ((with_reducible show rSetL _ _ _ _ _); refine Wk.r_setL (by walk_at "hp") (by rfl) ?_)
  | ((with_reducible show rIxL _ _ _ _ _); refine Wk.r_ixL (by walk_at "sq") (by rfl) ?_) | ((with_reducible show rIxT _ _ _ _ _); refine Wk.r_ixT (by walk_at "sq") (by rfl) ?_)
  | ((with_reducible show rLenOf _ _ _ _); first | refine Wk.n_lenL (by walk_at "sq") ?_ | refine Wk.n_lenT (by walk_at "sq") ?_)
  | ((with_reducible show rListOf _ _ _ _); first | refine Wk.n_listL (by walk_at "sq") ?_ | refine Wk.n_listT (by walk_at "sq") ?_)
  | ((with_reducible show rTupZ _ _ _ _); first | refine Wk.z_tupL (by walk_at "sq") ?_ | refine Wk.z_tupT (by walk_at "sq") ?_)
  | ((with_reducible show rTupOf _ _ _ _); first | refine Wk.n_tupL (by walk_at "sq") ?_ | refine Wk.n_tupT (by walk_at "sq") ?_))
local macro_rules | `(tactic| walk_at "rd") => `(tactic| repeat (walk_at "rd1"))

section
variable {P : Program} {w : World} {K : PySem.W.Frag} {mg : Str → Option Value} {base : Heap}
theorem k__law_take (T : Txt mg) (a : At K mg "_law_take" s__law_take ["hand", "many"]) : Keep P w K mg base 1 "_law_take" ["hand", "many"] spTake := by
  refine Keep.of a sc__law_take (fun vs H Q E h => ?_) (fun f cdv A outer s H vs Q E hr h => ?_)
  · obtain ⟨_, _, _, rfl, _⟩ := h
    rfl
  · obtain ⟨p, q, m, rfl, d, hm, kk⟩ := h
    have npq := d.npq
    obtain ⟨i, ds, hp, hq, hl, i0, dn⟩ := id d
    refine ⟨_, (pss_cons (ps_set (i := 2) sc__law_take.nd rfl (by first | exact Or.inl rfl | exact Or.inr rfl) (pe_ix (x_list K) (pv 0) pe_int (fun _ _ => rfl)))
    (pss_cons (ps_asg (pe_op op_add (pv 2) pe_int) (pg_sub (pv 0) pe_int set_list))
    (pss_cons (ps_set (i := 3) sc__law_take.nd rfl (by first | exact Or.inl rfl | exact Or.inr rfl) (pe_ix (x_list K) (pv 0) pe_int (fun _ _ => rfl)))
    (pss_cons (ps_if (pt_cmpR op_ge (pv 2) (pe_callB (c_len K) (by rfl) T.n_len (by decide +kernel) (pa_cons (pv 3) pa_nil)) (nomark _)) (pss_one (ps_ret pe_int)) pss_nil)
    (pss_one (ps_ret (pe_op op_mod (pe_op op_fdivW (pe_callTy call_int1 (by rfl) T.n_int (by decide +kernel) (pa_cons (pe_ix (x_list K) (pv 3) (pv 2) (fun _ _ => rfl)) pa_nil)) pe_int) (pv 1)))))))), ?_⟩
    walk_at "rd"
    have h1 : upd H p (.lst [.ref q, .int (i + 1)]) q = some (.lst (ds.map V.int)) := by rw [upd_ne npq]; exact hq
    have d1 : HS (upd H p (.lst [.ref q, .int (i + 1)])) p q := ⟨i + 1, ds, upd_same, h1, hl, by omega, dn⟩
    refine r_if1 (fun c => ?_) (fun c => ?_)
    · walk_at "rd"
      exact kk _ _ ExP.upd d1 (by decide) hm
    · rw [List.length_map] at c
      obtain ⟨z, hz, az⟩ := at_map (ns := ds) i0 (by omega)
      have z0 := dn z (List.mem_of_getElem? hz)
      walk_at "rd"
      refine r_ixL (SqL.of h1) az ?_
      walk_at "rd"
      exact kk _ _ ExP.upd d1 (Int.emod_nonneg _ (by omega)) (Int.emod_lt_of_pos _ hm)
theorem k__law_draws (T : Txt mg) (a : At K mg "_law_draws" s__law_draws ["script", "many"]) : Keep P w K mg base 1 "_law_draws" ["script", "many"] (spDraws K) := by
  refine Keep.of a sc__law_draws (fun vs H Q E h => ?_) (fun f cdv A outer s H vs Q E hr h => ?_)
  · obtain ⟨_, _, _, rfl, _⟩ := h
    rfl
  · obtain ⟨a, ns, m, rfl, hs, hl, hm, kk⟩ := h
    refine ⟨_, (pss_cons (ps_setLc (i := 3) (own := [("cell", 2)]) rfl sc__law_draws.nd rfl rfl (sw_true rfl rfl rfl (by decide +kernel)) (i_list K (pv 0)) (blkOk_by (N := ["script", "many", "cell", "rests", "draws", "k", "at", "mixed"]) (sc := defScope s__law_draws) (by decide +kernel)) (fun _ _ _ _ _ => (pg_name (i := 2) sc__law_draws.nd rfl (by first | exact Or.inl rfl | exact Or.inr rfl))) (fun _ _ _ _ _ => pts_nil) (fun _ _ _ _ _ => (pe_callB call_abs (by rfl) T.n_abs (by decide +kernel) (pa_cons (pe_callTy call_int1 (by rfl) T.n_int (by decide +kernel) (pa_cons (pv 2) pa_nil)) pa_nil))))
    (pss_cons (ps_set (i := 4) sc__law_draws.nd rfl (by first | exact Or.inl rfl | exact Or.inr rfl) (pe_lst pa_nil))
    (pss_cons (ps_for PassesOwn.never rfl (pi_range1 (by rfl) T.n_range (pa_cons (pv 1) pa_nil)) (pg_name (i := 5) sc__law_draws.nd rfl (by first | exact Or.inl rfl | exact Or.inr rfl)) (pss_cons (ps_set (i := 2) sc__law_draws.nd rfl (by first | exact Or.inl rfl | exact Or.inr rfl) (pv 5))
    (Evl.pss_cut (ps_if (pt_cmpR op_gt (pe_callB (c_len K) (by rfl) T.n_len (by decide +kernel) (pa_cons (pv 0) pa_nil)) pe_int (nomark _)) (pss_cons (ps_set (i := 6) sc__law_draws.nd rfl (by first | exact Or.inl rfl | exact Or.inr rfl) (pe_op op_mod (pv 5) (pe_callB (c_len K) (by rfl) T.n_len (by decide +kernel) (pa_cons (pv 0) pa_nil))))
    (pss_cons (ps_set (i := 2) sc__law_draws.nd rfl (by first | exact Or.inl rfl | exact Or.inr rfl) (pe_callTy call_int1 (by rfl) T.n_int (by decide +kernel) (pa_cons (pe_ix (x_list K) (pv 0) (pv 6) (fun _ _ => rfl)) pa_nil)))
    (pss_one (ps_if (PW.pt (pw_and (pt_cmpR op_ge (pv 2) (pe_op op_pow pe_int pe_int) (nomark _)) (pw_and1 (pt_cmpR op_gt (pe_ix (x_list K) (pv 3) (pv 6) (fun _ _ => rfl)) pe_int (nomark _))))) (pss_cons (ps_expr (e_bm K PySem.F.plainAttrs_list PySem.F.slot_list_append PySem.F.type_list_append mt_append (pv 4) (pa_cons (pe_op op_mod (pe_callTy call_int1 (by rfl) T.n_int (by decide +kernel) (pa_cons (pe_ix (x_list K) (pv 3) (pv 6) (fun _ _ => rfl)) pa_nil)) pe_int) pa_nil)))
    (pss_cons (ps_asg (pe_op op_fdivW (pe_callTy call_int1 (by rfl) T.n_int (by decide +kernel) (pa_cons (pe_ix (x_list K) (pv 3) (pv 6) (fun _ _ => rfl)) pa_nil)) pe_int) (pg_sub (pv 3) (pv 6) set_list))
    (pss_one ps_continue))) pss_nil)))) pss_nil)
    (pss_cons (ps_set (i := 7) sc__law_draws.nd rfl (by first | exact Or.inl rfl | exact Or.inr rfl) (pe_op op_mod (pe_callTy call_int1 (by rfl) T.n_int (by decide +kernel) (pa_cons (pe_op op_add (pe_op op_add (pe_op op_mul (pv 2) pe_int) (pe_op op_mul (pv 5) pe_int)) pe_int) pa_nil)) pe_int))
    (pss_cons (ps_set (i := 7) sc__law_draws.nd rfl (by first | exact Or.inl rfl | exact Or.inr rfl) (pe_op op_mod (pe_callTy call_int1 (by rfl) T.n_int (by decide +kernel) (pa_cons (pe_op op_add (pe_op op_fdivW (pe_op op_mul (pv 7) (pv 7)) pe_int) (pv 7)) pa_nil)) pe_int))
    (pss_one (ps_expr (e_bm K PySem.F.plainAttrs_list PySem.F.slot_list_append PySem.F.type_list_append mt_append (pv 4) (pa_cons (pe_op op_mod (pe_callTy call_int1 (by rfl) T.n_int (by decide +kernel) (pa_cons (pe_op op_add (pe_op op_fdivW (pe_op op_mul (pv 7) (pv 7)) pe_int) (pe_op op_mul (pv 5) pe_int)) pa_nil)) pe_int) pa_nil)))))))))
    (pss_one (ps_ret (pv 4)))))), ?_⟩
    walk_at "rd"
    refine lc_lst (fun _ v _ => ∃ z : Int, v = .int z ∧ 0 ≤ z) hs (by rw [List.length_map]; omega) (fun R' h => ?_) (fun _ _ _ _ _ _ _ _ h => h) (fun i x H1 Q' hx s1 k2 => ?_) (fun r L H1 hr0 s1 hL len rr => ?_)
    · walk_at "rd"
      exact h
    · rw [List.getElem?_map] at hx
      cases hz : ns[i]? with
      | none => rw [hz] at hx; cases hx
      | some z =>
        rw [hz] at hx
        cases hx
        walk_at "rd"
        exact k2 _ _ (Same.refl _) ⟨_, rfl, by split <;> omega⟩
    obtain ⟨rs, rfl, rn, rl⟩ := ints_of (P := fun z => 0 ≤ z) (L := L) fun v hv => by
      obtain ⟨j, hj, ej⟩ := List.getElem_of_mem hv
      exact rr j v (by rw [List.getElem?_eq_getElem hj, ej])
    rw [List.length_map, List.length_map] at len
    walk_at "rd"
    intro d hd
    have s2 := same_new (o := .lst []) hd
    have nrd : r ≠ d := ne_of_none hL hd
    have hd0 : H d = none := s1.free hd
    walk_at "rd"
    refine f_rng (n := m) (fun i σ' H' => ∃ (rs ds : List Int) (v2 v5 v6 v7 : Option V), σ' = [some (.ref a), some (.int m), v2, some (.ref r), some (.ref d), v5, v6, v7] ∧ Same H H' ∧ H' r = some (.lst (rs.map V.int)) ∧ H' d = some (.lst (ds.map V.int)) ∧
      rs.length = ns.length ∧ (∀ z ∈ rs, 0 ≤ z) ∧ ds.length = i ∧ ∀ z ∈ ds, 0 ≤ z) (by omega) (fun R' h => ?_) ⟨rs, [], _, _, _, _, rfl, s1.trans s2, s2 _ _ hL, upd_same, len, rn, rfl, fun _ h => (nomatch h)⟩ ?_ ?_
    · walk_at "rd"
      exact h
    · rintro i σ' H2 hi ⟨rs, ds, v2, v5, v6, v7, rfl, s2, hr2, hd2, len, rn, dl, dn⟩ N B R hN hB hRt
      have hs2 := s2.seq hs
      walk_at "rd"
      refine ⟨fun σ' H' => H' = H2 ∧ ∃ (c : Int) (v6 : Option V), σ' = [some (.ref a), some (.int m), some (.int c), some (.ref r), some (.ref d), some (.int (i : Int)), v6, v7], ?_, ?_⟩
      · walk_at "rd"
        refine r_if1 (fun c => ?_) (fun c => ?_)
        · rw [List.length_map] at c
          have ha0 : 0 ≤ (i : Int) % ns.length := Int.emod_nonneg _ (by omega)
          have ha1 : (i : Int) % ns.length < ns.length := Int.emod_lt_of_pos _ (by omega)
          obtain ⟨y, hy, ay⟩ := at_map (ns := ns) ha0 ha1
          obtain ⟨z, hz, az⟩ := at_map (ns := rs) ha0 (by omega)
          have z0 := rn z (List.mem_of_getElem? hz)
          walk_at "rd"
          refine r_mod (by rw [List.length_map]; omega) ?_
          rw [List.length_map]
          walk_at "rd"
          refine r_ixL hs2 ay ?_
          walk_at "rd"
          refine r_if1 (fun c1 => ?_) (fun c1 => ?_)
          · walk_at "rd"
            refine r_ixL (SqL.of hr2) az ?_
            walk_at "rd"
            refine r_if1 (fun c2 => ?_) (fun c2 => ?_)
            · walk_at "rd"
              refine r_ixL (SqL.of hr2) az ?_
              walk_at "rd"
              refine Wk.r_append hd2 (szlt (by rw [List.length_map]; omega)) ?_
              rw [ints_snoc]
              have hr3 : upd H2 d (.lst ((ds ++ [z % 1000003]).map V.int)) r = some (.lst (rs.map V.int)) := by rw [upd_ne nrd]; exact hr2
              walk_at "rd"
              refine r_ixL (SqL.of hr3) az ?_
              walk_at "rd"
              refine Wk.r_setL hr3 (ix_ok ha0 (by rw [List.length_map]; omega)) ?_
              rw [ints_set]
              walk_at "rd"
              refine hN _ _ ⟨_, _, _, _, _, _, rfl, same_upd (same_upd s2 hd0) hr0, upd_same, by rw [upd_ne nrd.symm]; exact upd_same, by rw [List.length_set]; exact len, fun x hx => ?_, by rw [List.length_append, dl]; rfl, fun x hx => ?_⟩
              · rcases List.mem_or_eq_of_mem_set hx with h | h
                · exact rn x h
                · rw [h]; exact Int.ediv_nonneg z0 (by decide)
              · rcases List.mem_append.mp hx with h | h
                · exact dn x h
                · rw [List.mem_singleton.mp h]; exact Int.emod_nonneg _ (by decide)
            · walk_at "rd"
              exact ⟨rfl, _, _, rfl⟩
          · walk_at "rd"
            exact ⟨rfl, _, _, rfl⟩
        · walk_at "rd"
          exact ⟨rfl, _, _, rfl⟩
      · rintro σ' H3 ⟨rfl, c, v6, rfl⟩
        walk_at "rd"
        have m0 : 0 ≤ (c * 48271 + (i : Int) * 69621 + 11) % 2147483647 := Int.emod_nonneg _ (by decide)
        have m1 : (c * 48271 + (i : Int) * 69621 + 11) % 2147483647 < 2147483647 := Int.emod_lt_of_pos _ (by decide)
        generalize (c * 48271 + (i : Int) * 69621 + 11) % 2147483647 = u at m0 m1 ⊢
        walk_at "rd"
        have n0 : 0 ≤ (u * u / 4096 + u) % 2147483629 := Int.emod_nonneg _ (by decide)
        have n1 : (u * u / 4096 + u) % 2147483629 < 2147483629 := Int.emod_lt_of_pos _ (by decide)
        generalize (u * u / 4096 + u) % 2147483629 = t at n0 n1 ⊢
        walk_at "rd"
        refine Wk.r_append hd2 (szlt (by rw [List.length_map]; omega)) ?_
        rw [ints_snoc]
        refine hN _ _ ⟨_, _, _, _, _, _, rfl, same_upd s2 hd0, by rw [upd_ne nrd]; exact hr2, upd_same, len, rn, by rw [List.length_append, dl]; rfl, fun x hx => ?_⟩
        rcases List.mem_append.mp hx with h | h
        · exact dn x h
        · rw [List.mem_singleton.mp h]; exact Int.emod_nonneg _ (by decide)
    · rintro σ' H2 ⟨rs, ds, v2, v5, v6, v7, rfl, s2, hr2, hd2, len, rn, dl, dn⟩
      walk_at "rd"
      exact kk _ _ _ hd0 s2 hd2 (by omega) dn
end
end Wk
end
section
set_option Elab.async false
set_option linter.all false
set_option maxRecDepth 100000
namespace Wk
open PySem PySem.Spec PyProof.Rows L2
section
variable {K : PySem.W.Frag} {j : Nat} {te : TE} {ta : TA} {vs : List Nat} {σ : L2.St} {H : Hp} {Q : VK} {p q : Addr} {n : Nat}
/-- a comprehension over range(n) whose items are drawn -/
theorem lc_drw (R : V → Prop) (hd : HS H p q) (hn : n ≤ 50000) (hta : ∀ R' : List V → Hp → Prop, R' [.int n] H → ta σ H R')
    (step : ∀ (i : Nat) H1 (Q' : VK), i < n → ExP p H H1 → HS H1 p q → (∀ v H2, ExP p H1 H2 → HS H2 p q → R v → Q' v H2) → te ((wipe σ vs).set j (some (.int (i : Int)))) H1 Q')
    (done : ∀ D L H1, H D = none → ExP p H H1 → HS H1 p q → H1 D = some (.lst L) → L.length = n → (∀ v ∈ L, R v) → Q (.ref D) H1) (hw : ∀ x, wipe ((wipe σ vs).set j (some x)) vs = wipe σ vs := by intro _; rfl) : tLc (iRng1 ta) (gName j) tYes te vs σ H Q := by
  refine hta _ ⟨n, rfl, by omega, by omega, fun D hD => ?_⟩
  have en : ((n : Int)).toNat = n := Int.toNat_natCast n
  rw [en]
  have hDp : D ≠ p ∧ D ≠ q := hd.ne hD
  refine lc_range (lo := 0) (n := n) (fun i H1 => ∃ L, ExP p H H1 ∧ HS H1 p q ∧ H1 D = some (.lst L) ∧ L.length = i ∧ ∀ v ∈ L, R v) ⟨[], (same_new hD).exP, hd.mono (same_new hD), upd_same, rfl, fun v e => (nomatch e)⟩ ?_ ?_
  · rintro i H1 hi ⟨L, s1, i1, hL, len, r⟩
    have e0 : (0 : Int) + (i : Int) = (i : Int) := Int.zero_add _
    rw [e0]
    refine ⟨hw _, ?_⟩
    show te _ H1 _
    refine step i H1 _ hi s1 i1 fun v H2 s2 i2 rv => ?_
    have hL2 := s2 _ _ hDp.1 hL
    refine ⟨L, hL2, szlt (by omega), L ++ [v], fun b o nb e => ?_, i2.mut hDp.1 hDp.2 ExP.upd, upd_same, by rw [List.length_append, len]; rfl, fun w e => ?_⟩
    · rw [upd_ne (ne_of_none e hD)]; exact s2 _ _ nb (s1 _ _ nb e)
    · rcases List.mem_append.mp e with e | e
      · exact r w e
      · rw [List.mem_singleton.mp e]; exact rv
  · rintro H1 ⟨L, s1, i1, hL, len, r⟩
    exact done D L H1 hD s1 i1 hL len r
end
theorem sqT_exP {K : PySem.W.Frag} {H H' : Hp} {p q a : Addr} {xs : List V} (d : HS H p q) (s : ExP p H H') (h : SqT K H a xs) : SqT K H' a xs := let ⟨_, o⟩ := d.at_; sqT_mut o s h
/-- the primes to 101 -/
def prs : List Nat := [2, 3, 5, 7, 11, 13, 17, 19, 23, 29, 31, 37, 41, 43, 47, 53, 59, 61, 67, 71, 73, 79, 83, 89, 97, 101]
theorem prs_ok : ∀ p ∈ prs, 2 ≤ p ∧ p ≤ 101 := by decide +kernel
theorem prs_no : ∀ p ∈ prs, ∀ i, i < p → 2 ≤ i → ¬ p % i = 0 := by decide +kernel
theorem prs_gcd : ∀ p ∈ prs, ∀ i, i < p → 0 < i → Nat.gcd p i = 1 := by decide +kernel
/-- numbers below p, as they stand in a row -/
def Below (p : Nat) (cs : List Int) : Prop := ∀ c ∈ cs, 0 ≤ c ∧ c < p
/-- the value of a row of coefficients at x modulo p, as it is reckoned from its end -/
def hor (p x : Int) (cs : List Int) : Int := cs.foldr (fun c t => (t * x + c) % p) 0
def spPrime : Sp := fun vs H Q _ => ∃ (p q most : Nat), vs = [.ref p, .int most] ∧ HS H p q ∧ 2 ≤ most ∧ ∀ (H' : Hp) (r : Nat), ExP p H H' → HS H' p q → r ∈ prs → r ≤ most → Q (.int r) H'
def spValue (K : PySem.W.Frag) : Sp := fun vs H Q _ => ∃ (p t x : Nat) (cs : List Int), vs = [.int p, .ref t, .int x] ∧ SqT K H t (cs.map V.int) ∧ cs.length ≤ 100 ∧ Below p cs ∧ 0 < p ∧ p ≤ 101 ∧ x ≤ 101 ∧ ∀ H', Same H H' → Q (.int (hor p x cs)) H'
def spCurve (K : PySem.W.Frag) : Sp := fun vs H Q _ => ∃ (h q p d : Nat), vs = [.ref h, .int p, .int d] ∧ HS H h q ∧ 0 < p ∧ d ≤ 100 ∧ ∀ (H' : Hp) (t : Addr) (cs : List Int), ExP h H H' → HS H' h q → SqT K H' t (cs.map V.int) → cs.length = d + 1 → Below p cs → Q (.ref t) H'
def spTurned (K : PySem.W.Frag) : Sp := fun vs H Q _ => ∃ (h q p t m : Nat) (fs : List Int), vs = [.ref h, .int p, .ref t, .int m] ∧ HS H h q ∧ 0 < p ∧ p ≤ 101 ∧ m ≤ 1000 ∧ SqT K H t (fs.map V.int) ∧ fs.length = p ∧ Below p fs ∧ ∀ (H' : Hp) (t' : Addr) (gs : List Int), ExP h H H' → HS H' h q → SqT K H' t' (gs.map V.int) → gs.length = p → Below p gs → Q (.ref t') H'
theorem hor_bd {p x : Int} (hp : 0 < p) : ∀ cs, 0 ≤ hor p x cs ∧ hor p x cs < p
  | [] => ⟨Int.le_refl _, hp⟩
  | c :: cs => ⟨Int.emod_nonneg _ (by omega), Int.emod_lt_of_pos _ hp⟩
theorem hor_snoc {p x : Int} (cs : List Int) : ∀ t c, (cs ++ [c]).foldr (fun c t => (t * x + c) % p) t = cs.foldr (fun c t => (t * x + c) % p) ((t * x + c) % p) := fun t c => by rw [List.foldr_append]; rfl
end Wk
end
section
set_option Elab.async false
set_option linter.all false
set_option maxRecDepth 100000
namespace Wk
open PySem PySem.Spec PyProof.Rows L2
local macro_rules | `(tactic| walk_at "hp") => `(tactic| first | assumption | exact upd_same | exact (upd_ne (ne_of_none (by assumption) (by assumption))).trans (by assumption) | (rw [upd_ne (by first | assumption | exact Ne.symm (by assumption))]; walk_at "hp"))
local macro_rules | `(tactic| walk_at "sq") => `(tactic| first | assumption | exact SqL.of (by assumption) | exact SqT.of (by assumption) | exact SqL.of (by walk_at "hp") | exact SqT.of (by walk_at "hp") | (refine Same.seq ?_ ?_ <;> assumption))
local macro_rules | `(tactic| walk_at "cmul") => `(tactic| first | exact .inr ⟨by decide, by decide⟩ | exact .inl ⟨by decide, by decide⟩ | exact .inr ⟨by omega, by omega⟩ | exact .inl ⟨by omega, by omega⟩)
local macro_rules | `(tactic| walk_at "cdiv") => `(tactic| first | exact ⟨by decide, by decide⟩ | exact wide_div (b := 64) (by omega) (by omega) (by decide) (by decide) | exact wide_div (b := 128) (by omega) (by omega) (by decide) (by decide))
local macro_rules | `(tactic| walk_at "rd1") => `(tactic| first
  | ((with_reducible show tVar _ _ _ _); refine Wk.r_var rfl ?_)
  | (with_reducible first
    | refine Wk.r_c ?_ | refine Wk.r_op ?_ | refine Wk.r_cons ?_ | refine Wk.r_nil ?_
    | refine Wk.r_seq ?_ | refine Wk.r_next ?_ | refine Wk.r_set ?_ | refine Wk.r_asgS ?_ | refine Wk.r_ret ?_ | refine Wk.r_drop ?_ | refine Wk.r_if ?_
    | refine Wk.r_asgG ?_ | refine Wk.r_gName ?_ | refine Wk.r_gCons ?_ | refine Wk.r_gNil ?_ | refine Wk.r_par ?_ | refine Wk.r_par3 ?_ | refine Wk.r_lstRg1 ?_ | refine Wk.r_tupRg1 ?_ | refine ⟨_, _, _, rfl, ?_⟩ | refine Wk.r_un ?_ | refine Wk.r_I0 ?_ | refine Wk.r_U ?_
    | refine Wk.r_test ?_ | refine Wk.r_B ?_ | refine Wk.r_k ?_ | refine Wk.r_not ?_ | refine Wk.r_and ?_ | refine Wk.r_or ?_ | refine Wk.r_andV ?_ | refine Wk.r_orV ?_ | refine Wk.r_notV ?_
    | refine Wk.r_CB ?_ | refine Wk.r_chain ?_ | refine Wk.r_fld ?_ | refine Wk.r_sfld ?_ | refine Wk.r_lst ?_ | refine Wk.r_tup ?_ | refine Wk.r_call ?_ | refine Wk.r_BM ?_ | refine Wk.r_BM0 ?_ | refine Wk.r_T ?_ | refine Wk.r_nT ?_ | refine Wk.r_nF ?_ | refine Wk.r_F ?_
    | refine Or.inl ⟨_, rfl, ?_⟩ | refine Or.inr ⟨_, rfl, ?_⟩ | refine ⟨_, rfl, ?_⟩ | refine ⟨_, _, rfl, ?_⟩)
  | ((with_reducible refine Wk.r_eq ?c0 ?_); (case c0 => rfl)) | ((with_reducible refine Wk.r_ne ?c0 ?_); (case c0 => rfl))
  | ((with_reducible refine Wk.r_pow ?c0 ?_); (case c0 => exact ⟨by decide, by decide, by decide⟩))
  | ((with_reducible refine Wk.r_mul ?c0 ?_); (case c0 => walk_at "cmul")) | ((with_reducible refine Wk.r_mod ?c0 ?_); (case c0 => first | decide | omega)) | ((with_reducible refine Wk.r_div ?c0 ?_); (case c0 => walk_at "cdiv"))
  | ((with_reducible refine Wk.r_new ?c0 ?_); (case c0 => (simp only [List.length_cons, List.length_nil]; omega)))
  | ((with_reducible show gTup _ _ _ _ _ _ _); refine Wk.r_gTup (by walk_at "sq") (by rfl) ?_)
  | (refine Wk.r_tyL (by walk_at "hp") ?_)
  | ((with_reducible show rSetL _ _ _ _ _); refine Wk.r_setL (by walk_at "hp") (by rfl) ?_)
  | ((with_reducible show rIxL _ _ _ _ _); refine Wk.r_ixL (by walk_at "sq") (by rfl) ?_) | ((with_reducible show rIxT _ _ _ _ _); refine Wk.r_ixT (by walk_at "sq") (by rfl) ?_)
  | ((with_reducible show rLenOf _ _ _ _); first | refine Wk.n_lenL (by walk_at "sq") ?_ | refine Wk.n_lenT (by walk_at "sq") ?_)
  | ((with_reducible show rListOf _ _ _ _); first | refine Wk.n_listL (by walk_at "sq") ?_ | refine Wk.n_listT (by walk_at "sq") ?_)
  | ((with_reducible show rTupZ _ _ _ _); first | refine Wk.z_tupL (by walk_at "sq") ?_ | refine Wk.z_tupT (by walk_at "sq") ?_)
  | ((with_reducible show rTupOf _ _ _ _); first | refine Wk.n_tupL (by walk_at "sq") ?_ | refine Wk.n_tupT (by walk_at "sq") ?_))
local macro_rules | `(tactic| walk_at "rd") => `(tactic| repeat (walk_at "rd1"))
local macro_rules | `(tactic| walk_at "rd1") => `(tactic| (with_reducible first | refine Wk.r_dget ?_ | refine Wk.r_din ?_ | refine Wk.r_dnotin ?_ | refine Wk.r_dput ?_ | refine Wk.r_pairs ?_ | refine Wk.r_pairs0 ?_ | refine Wk.r_sl ?_ | refine Wk.r_part ?_ | refine Wk.r_nopart ?_ | refine Wk.r_augS ?_ | refine Wk.r_ipI ?_ | refine Wk.r_aug rfl ?_ | refine Wk.r_revT ?_))

section
variable {P : Program} {w : World} {K : PySem.W.Frag} {mg : Str → Option Value} {base : Heap}
end
end Wk
end
section
set_option Elab.async false
set_option linter.all false
set_option maxRecDepth 100000
namespace Wk
open PySem PySem.Spec PyProof.Rows L2
section
variable {X : Cx}
theorem c_all (K : PySem.W.Frag) (hc : X.calm = true) (hK : X.K = K := by rfl) : CallR X (.builtin "all") (rAll K) := by subst hK; exact cr_all hc
theorem c_any (K : PySem.W.Frag) (hc : X.calm = true) (hK : X.K = K := by rfl) : CallR X (.builtin "any") (rAny K) := by subst hK; exact cr_any hc
end
section
variable {X : Cx}
theorem e_num {x : PySem.Str} {i : Int} {pos : Pos} (hg : Gl X x) (h : ∃ t, X.mg x = some (.int i t)) (hd : (x == ("__debug__" : PySem.Str)) = false := by decide) : PE X (.Name x pos) (tC (.int i)) :=
  let ⟨t, h⟩ := h; pe_glob hg h ⟨t, rfl⟩ (hd := hd)
end
theorem trues {L : List V} {n : Nat} (len : L.length = n) (r : ∀ (i : Nat) v, L[i]? = some v → v = V.bl true) : L = (List.replicate n true).map V.bl := by
  rw [List.map_replicate]
  refine List.eq_replicate_iff.mpr ⟨len, fun v hv => ?_⟩
  obtain ⟨j, hj, e⟩ := List.getElem_of_mem hv
  exact r j v (by rw [List.getElem?_eq_getElem hj, e])
theorem range_trues (n : Nat) : (List.range n).map (fun _ => V.bl true) = (List.replicate n true).map V.bl := by
  rw [List.map_replicate, List.map_const', List.length_range]
theorem all_trues (n : Nat) : (List.replicate n true).all id = true := by simp
section
variable {K : PySem.W.Frag} {j : Nat} {te : TE} {ta : TA} {vs : List Nat} {σ : L2.St} {H : Hp} {Q : VK} {n : Nat} {lo : Int} {p : Addr} {bs : List Bool}
theorem n_any (hs : SqL K H p (bs.map V.bl)) (q : Q (.bl (bs.any id)) H) : rAny K [.ref p] H Q := ⟨p, bs, rfl, hs, q⟩
/-- a comprehension over range(lo, lo + n), the values plain -/
theorem lc_rng2 (f : Nat → V) (hn : n ≤ 50000) (h1 : -1000 ≤ lo) (h2 : lo ≤ 1000) (hta : ∀ R' : List V → Hp → Prop, R' [.int lo, .int (lo + n)] H → ta σ H R')
    (step : ∀ (i : Nat) H1 (Q' : VK), i < n → Same H H1 → (∀ H2, Same H1 H2 → Q' (f i) H2) → te ((wipe σ vs).set j (some (.int (lo + i)))) H1 Q')
    (done : ∀ D H1, H D = none → Same H H1 → H1 D = some (.lst ((List.range n).map f)) → Q (.ref D) H1) (hw : ∀ x, wipe ((wipe σ vs).set j (some x)) vs = wipe σ vs := by intro _; rfl) : tLc (iRng2 ta) (gName j) tYes te vs σ H Q := by
  refine hta _ ⟨lo, lo + n, rfl, ⟨by omega, by omega, by omega, by omega⟩, fun D hD => ?_⟩
  have en : (lo + (n : Int) - lo).toNat = n := by omega
  rw [en]
  refine lc_range (lo := lo) (n := n) (fun i H1 => Same H H1 ∧ H1 D = some (.lst ((List.range i).map f))) ⟨same_new hD, upd_same⟩ ?_ ?_
  · rintro i H1 hi ⟨s1, hL⟩
    refine ⟨hw _, ?_⟩
    show te _ H1 _
    refine step i H1 _ hi s1 fun H2 s2 => ?_
    have hL2 := s2 _ _ hL
    refine ⟨_, hL2, szlt (by rw [List.length_map, List.length_range]; omega), fun b o e => ?_, ?_⟩
    · rw [upd_ne (ne_of_none e hD)]; exact s2 _ _ (s1 _ _ e)
    · rw [upd_same, List.range_succ, List.map_append]; rfl
  · rintro H1 ⟨s1, hL⟩
    exact done D H1 hD s1 hL
theorem lc_tupI {cs : List Int} {a : Addr} {tl : TE} {tt : TT} (pr : Int → Bool) (v : Int → Int) (hs : SqT K H a (cs.map V.int)) (hz : cs.length ≤ 40000) (htl : ∀ R' : V → Hp → Prop, R' (.ref a) H → tl σ H R')
    (step : ∀ (z : Int) H1 (QT : Bool → Hp → Prop), z ∈ cs → Same H H1 → (∀ H2, Same H1 H2 → QT (pr z) H2) → tt ((wipe σ vs).set j (some (.int z))) H1 QT)
    (val : ∀ (z : Int) H1 (Q' : VK), z ∈ cs → pr z = true → Same H H1 → (∀ H2, Same H1 H2 → Q' (.int (v z)) H2) → te ((wipe σ vs).set j (some (.int z))) H1 Q')
    (done : ∀ D H1, H D = none → Same H H1 → H1 D = some (.lst (((cs.filter pr).map v).map V.int)) → Q (.ref D) H1) (hw : ∀ x, wipe ((wipe σ vs).set j (some x)) vs = wipe σ vs := by intro _; rfl) : tLc (iTup K tl) (gName j) tt te vs σ H Q := by
  refine htl _ ⟨a, rfl, ⟨cs.map V.int, hs⟩, fun D hD => ?_⟩
  refine lc_tup (K := K) (a := a) (xs := cs.map V.int) (fun i H1 => Same H H1 ∧ H1 D = some (.lst ((((cs.take i).filter pr).map v).map V.int))) ⟨same_new hD, upd_same⟩ (fun i H1 _ ⟨s1, _⟩ => s1.sqT hs) ?_ ?_
  · rintro i x H1 hx ⟨s1, hL⟩
    have hi : i < cs.length := by have := (List.getElem?_eq_some_iff.mp hx).1; rw [List.length_map] at this; exact this
    rw [List.getElem?_map, List.getElem?_eq_getElem hi] at hx
    cases hx
    have hm := List.getElem_mem hi
    refine ⟨hw _, ?_⟩
    have tk : cs.take (i + 1) = cs.take i ++ [cs[i]] := by rw [List.take_succ, List.getElem?_eq_getElem hi]; rfl
    show tt _ H1 _
    refine step cs[i] H1 _ hm s1 fun H2 s2 => ?_
    cases hf : pr cs[i] with
    | true =>
      show te _ H2 _
      refine val cs[i] H2 _ hm hf (s1.trans s2) fun H3 s3 => ⟨_, s3 _ _ (s2 _ _ hL), szlt (by have := List.length_filter_le pr (cs.take i); rw [List.length_map, List.length_map]; have := List.length_take_le i cs; omega), fun b o e => ?_, ?_⟩
      · rw [upd_ne (ne_of_none e hD)]; exact s3 _ _ (s2 _ _ (s1 _ _ e))
      · rw [upd_same, tk, List.filter_append, List.map_append]
        have : List.filter pr [cs[i]] = [cs[i]] := by rw [List.filter_cons, if_pos hf]; rfl
        rw [this, List.map_append]
        rfl
    | false =>
      show Same H H2 ∧ H2 D = some (.lst ((((cs.take (i + 1)).filter pr).map v).map V.int))
      have : List.filter pr [cs[i]] = [] := by rw [List.filter_cons, if_neg (by rw [hf]; decide)]; rfl
      rw [tk, List.filter_append, this, List.append_nil]
      exact ⟨s1.trans s2, s2 _ _ hL⟩
  · rintro H1 ⟨s1, hL⟩
    refine done D H1 hD s1 ?_
    rw [List.length_map, List.take_length] at hL
    exact hL
theorem lc_lstI {cs : List Int} {a : Addr} {tl : TE} {tt : TT} (pr : Int → Bool) (v : Int → Int) (hs : SqL K H a (cs.map V.int)) (hz : cs.length ≤ 40000) (htl : ∀ R' : V → Hp → Prop, R' (.ref a) H → tl σ H R')
    (step : ∀ (z : Int) H1 (QT : Bool → Hp → Prop), z ∈ cs → Same H H1 → (∀ H2, Same H1 H2 → QT (pr z) H2) → tt ((wipe σ vs).set j (some (.int z))) H1 QT)
    (val : ∀ (z : Int) H1 (Q' : VK), z ∈ cs → pr z = true → Same H H1 → (∀ H2, Same H1 H2 → Q' (.int (v z)) H2) → te ((wipe σ vs).set j (some (.int z))) H1 Q')
    (done : ∀ D H1, H D = none → Same H H1 → H1 D = some (.lst (((cs.filter pr).map v).map V.int)) → Q (.ref D) H1) (hw : ∀ x, wipe ((wipe σ vs).set j (some x)) vs = wipe σ vs := by intro _; rfl) : tLc (iList K tl) (gName j) tt te vs σ H Q := by
  refine htl _ ⟨a, rfl, ⟨cs.map V.int, hs⟩, fun D hD => ?_⟩
  refine lc_list (K := K) (a := a) (xs := cs.map V.int) (fun i H1 => Same H H1 ∧ H1 D = some (.lst ((((cs.take i).filter pr).map v).map V.int))) ⟨same_new hD, upd_same⟩ (fun i H1 _ ⟨s1, _⟩ => s1.seq hs) ?_ ?_
  · rintro i x H1 hx ⟨s1, hL⟩
    have hi : i < cs.length := by have := (List.getElem?_eq_some_iff.mp hx).1; rw [List.length_map] at this; exact this
    rw [List.getElem?_map, List.getElem?_eq_getElem hi] at hx
    cases hx
    have hm := List.getElem_mem hi
    refine ⟨hw _, ?_⟩
    have tk : cs.take (i + 1) = cs.take i ++ [cs[i]] := by rw [List.take_succ, List.getElem?_eq_getElem hi]; rfl
    show tt _ H1 _
    refine step cs[i] H1 _ hm s1 fun H2 s2 => ?_
    cases hf : pr cs[i] with
    | true =>
      show te _ H2 _
      refine val cs[i] H2 _ hm hf (s1.trans s2) fun H3 s3 => ⟨_, s3 _ _ (s2 _ _ hL), szlt (by have := List.length_filter_le pr (cs.take i); rw [List.length_map, List.length_map]; have := List.length_take_le i cs; omega), fun b o e => ?_, ?_⟩
      · rw [upd_ne (ne_of_none e hD)]; exact s3 _ _ (s2 _ _ (s1 _ _ e))
      · rw [upd_same, tk, List.filter_append, List.map_append]
        have : List.filter pr [cs[i]] = [cs[i]] := by rw [List.filter_cons, if_pos hf]; rfl
        rw [this, List.map_append]
        rfl
    | false =>
      show Same H H2 ∧ H2 D = some (.lst ((((cs.take (i + 1)).filter pr).map v).map V.int))
      have : List.filter pr [cs[i]] = [] := by rw [List.filter_cons, if_neg (by rw [hf]; decide)]; rfl
      rw [tk, List.filter_append, this, List.append_nil]
      exact ⟨s1.trans s2, s2 _ _ hL⟩
  · rintro H1 ⟨s1, hL⟩
    refine done D H1 hD s1 ?_
    rw [List.length_map, List.take_length] at hL
    exact hL
theorem lc_seqI {cs : List Int} {a : Addr} {tl : TE} {tt : TT} (pr : Int → Bool) (v : Int → Int) (hs : SqT K H a (cs.map V.int) ∨ SqL K H a (cs.map V.int)) (hz : cs.length ≤ 40000) (htl : ∀ R' : V → Hp → Prop, R' (.ref a) H → tl σ H R')
    (step : ∀ (z : Int) H1 (QT : Bool → Hp → Prop), z ∈ cs → Same H H1 → (∀ H2, Same H1 H2 → QT (pr z) H2) → tt ((wipe σ vs).set j (some (.int z))) H1 QT)
    (val : ∀ (z : Int) H1 (Q' : VK), z ∈ cs → pr z = true → Same H H1 → (∀ H2, Same H1 H2 → Q' (.int (v z)) H2) → te ((wipe σ vs).set j (some (.int z))) H1 Q')
    (done : ∀ D H1, H D = none → Same H H1 → H1 D = some (.lst (((cs.filter pr).map v).map V.int)) → Q (.ref D) H1) (hw : ∀ x, wipe ((wipe σ vs).set j (some x)) vs = wipe σ vs := by intro _; rfl) : tLc (fun σ H R => iList K tl σ H R ∨ iTup K tl σ H R) (gName j) tt te vs σ H Q :=
  hs.elim (fun h => tLc_inr (lc_tupI pr v h hz htl step val done hw)) (fun h => tLc_inl (lc_lstI pr v h hz htl step val done hw))
theorem r_ixS {a : Addr} {xs : List V} {i : Int} {v : V} (hs : SqT K H a xs ∨ SqL K H a xs) (e : atI xs i = some v) (h : Q v H) : rIxL K (.ref a) (.int i) H Q ∨ rIxT K (.ref a) (.int i) H Q := hs.elim (fun q => .inr (r_ixT q e h)) (fun q => .inl (r_ixL q e h))
theorem sq_or {H' : Hp} {a : Addr} {xs : List V} (s : Same H H') (hs : SqT K H a xs ∨ SqL K H a xs) : SqT K H' a xs ∨ SqL K H' a xs := hs.imp (fun h => s.sqT h) (fun h => s.seq h)
theorem f_rng2 {t : TS} {D : Ends} (Pv : Nat → L2.St → Hp → Prop) (hn : n ≤ 1000000) (h1 : -1000 ≤ lo) (h2 : lo ≤ 1000) (hta : ∀ R' : List V → Hp → Prop, R' [.int lo, .int (lo + n)] H → ta σ H R') (h0 : Pv 0 σ H)
    (step : ∀ (i : Nat) σ' H', i < n → Pv i σ' H' → TurnOf (Pv (i + 1)) D t (σ'.set j (some (.int (lo + i)))) H') (done : ∀ σ' H', Pv n σ' H' → D.nx σ' H') : tFor (iRng2 ta) (gName j) t D σ H := by
  refine hta _ ⟨lo, lo + n, rfl, ⟨by omega, by omega, by omega, by omega⟩, ?_⟩
  have en : (lo + (n : Int) - lo).toNat = n := by omega
  rw [en]
  exact for_range (lo := lo) (n := n) Pv h0 (fun i σ' H' hi p => (step i σ' H' hi p).go) done
end
/-! ### a table over a prime, its differences -/
def atI' (fs : List Int) (i : Nat) : Int := fs.getD i 0
def difL (p : Nat) (fs : List Int) : List Int := (List.range p).map fun x => (atI' fs ((x + 1) % p) - atI' fs x) % p
def itL (p : Nat) : Nat → List Int → List Int
  | 0, fs => fs
  | n + 1, fs => itL p n (difL p fs)
theorem difL_len {p : Nat} {fs : List Int} : (difL p fs).length = p := by unfold difL; rw [List.length_map, List.length_range]
theorem difL_below {p : Nat} (hp : 0 < p) {fs : List Int} : Below p (difL p fs) := fun c hc => by
  obtain ⟨x, _, rfl⟩ := List.mem_map.mp hc
  exact ⟨Int.emod_nonneg _ (by omega), Int.emod_lt_of_pos _ (by omega)⟩
theorem itL_len {p : Nat} : ∀ (n : Nat) {fs : List Int}, fs.length = p → (itL p n fs).length = p
  | 0, _, h => h
  | n + 1, fs, _ => itL_len n difL_len
theorem itL_below {p : Nat} (hp : 0 < p) : ∀ (n : Nat) {fs : List Int}, Below p fs → Below p (itL p n fs)
  | 0, _, h => h
  | n + 1, _, _ => itL_below hp n (difL_below hp)
theorem itL_succ {p : Nat} : ∀ (n : Nat) (fs : List Int), itL p (n + 1) fs = difL p (itL p n fs)
  | 0, _ => rfl
  | n + 1, fs => itL_succ n (difL p fs)
theorem at_get {fs : List Int} {i : Nat} (h : i < fs.length) : fs[i]? = some (atI' fs i) := by
  unfold atI'
  rw [List.getD_eq_getElem?_getD, List.getElem?_eq_getElem h]
  rfl
theorem at_ints {fs : List Int} {i : Nat} (h : i < fs.length) : (fs.map V.int)[i]? = some (.int (atI' fs i)) := by rw [List.getElem?_map, at_get h]; rfl
theorem r_aug {i : Nat} {te : TE} {ti : TIp} {D : Ends} {σ : L2.St} {H : Hp} {x : V} (e : σ[i]? = some (some x)) (h : te σ H fun y H1 => ti x y H1 fun z H2 => D.nx (σ.set i (some z)) H2) : tAug i te ti D σ H := ⟨x, e, h⟩
/-- whether some number is not nought -/
def anyN (n : Nat) (fs : List Int) : Bool := ((List.range n).map fun i => decide (atI' fs i ≠ 0)).any id
theorem anyN_iff {fs : List Int} : anyN fs.length fs = true ↔ ∃ v ∈ fs, v ≠ 0 := by
  unfold anyN
  rw [List.any_map, List.any_eq_true]
  constructor
  · rintro ⟨i, hi, h⟩
    have hi := List.mem_range.mp hi
    exact ⟨atI' fs i, List.mem_of_getElem? (at_get hi), of_decide_eq_true h⟩
  · rintro ⟨v, hv, h⟩
    obtain ⟨i, hi, e⟩ := List.getElem_of_mem hv
    refine ⟨i, List.mem_range.mpr hi, decide_eq_true ?_⟩
    have q := at_get hi
    rw [List.getElem?_eq_getElem hi, e] at q
    rw [← Option.some.inj q]
    exact h
theorem r_any {K : PySem.W.Frag} {H : Hp} {Q : VK} {D : Addr} {L : List V} {n : Nat} {fs : List Int} (hL : H D = some (.lst L)) (ln : L.length = n) (r : ∀ (i : Nat) v, L[i]? = some v → v = V.bl (decide (atI' fs i ≠ 0))) (q : Q (.bl (anyN n fs)) H) : rAny K [.ref D] H Q := by
  have e : L = ((List.range n).map fun i => decide (atI' fs i ≠ 0)).map V.bl := by rw [List.map_map]; exact list_eq ln r
  rw [e] at hL
  exact n_any (SqL.of hL) q
/-- N differences of fs give noughts alone, fewer do not -/
def DegIs (p : Nat) (fs : List Int) (N : Nat) : Prop := (∀ v ∈ itL p N fs, v = 0) ∧ ∀ n, n < N → ∃ v ∈ itL p n fs, v ≠ 0
def spPrm (K : PySem.W.Frag) (v : V) : Sp := fun vs H Q _ => ∃ (p m : Nat), vs = [.int p, .int m] ∧ p ∈ prs ∧ p ≤ m ∧ ∀ H', Same H H' → Q v H'
def spPlp (K : PySem.W.Frag) : Sp := fun vs H Q _ => ∃ p : Nat, vs = [.int p] ∧ p ∈ prs ∧ ∀ H', Same H H' → Q .non H'
def spNRow (K : PySem.W.Frag) : Sp := fun vs H Q _ => ∃ (t n k : Nat) (cs : List Int), vs = [.ref t, .int n, .int k] ∧ SqT K H t (cs.map V.int) ∧ cs.length = n ∧ n ≤ 1000 ∧ Below k cs ∧ ∀ H', Same H H' → Q (.bl true) H'
def spVals (K : PySem.W.Frag) : Sp := fun vs H Q _ => ∃ (p t : Nat) (cs : List Int), vs = [.int p, .ref t] ∧ SqT K H t (cs.map V.int) ∧ cs.length = p ∧ p ≤ 101 ∧ Below p cs ∧ ∀ H', Same H H' → Q .non H'
def spWhole : Sp := fun vs H Q _ => ∃ i : Int, vs = [.int i] ∧ Q (.bl true) H
def spWithin : Sp := fun vs H Q _ => ∃ i a b : Int, vs = [.int i, .int a, .int b] ∧ Q (.bl (decide (a ≤ i) && decide (i ≤ b))) H
def spDif (K : PySem.W.Frag) : Sp := fun vs H Q _ => ∃ (p t : Nat) (fs : List Int), vs = [.int p, .ref t] ∧ SqT K H t (fs.map V.int) ∧ fs.length = p ∧ Below p fs ∧ p ∈ prs ∧ ∀ H' t', Same H H' → SqT K H' t' ((difL p fs).map V.int) → Q (.ref t') H'
def spLDeg (K : PySem.W.Frag) : Sp := fun vs H Q _ => ∃ (p t N : Nat) (fs : List Int), vs = [.int p, .ref t] ∧ SqT K H t (fs.map V.int) ∧ fs.length = p ∧ Below p fs ∧ p ∈ prs ∧ DegIs p fs N ∧ N ≤ p ∧ ∀ H', Same H H' → Q (.int ((N : Int) - 1)) H'
def spDeg (K : PySem.W.Frag) : Sp := fun vs H Q _ => ∃ (p t N : Nat) (fs : List Int), vs = [.int p, .ref t] ∧ SqT K H t (fs.map V.int) ∧ fs.length = p ∧ Below p fs ∧ p ∈ prs ∧ DegIs p fs N ∧ ∀ H', Same H H' → Q (.int ((N : Int) - 1)) H'
end Wk
end
section
set_option Elab.async false
set_option linter.all false
set_option maxRecDepth 100000
namespace Wk
open PySem PySem.Spec PyProof.Rows L2
local macro_rules | `(tactic| walk_at "hp") => `(tactic| first | assumption | exact upd_same | exact (upd_ne (ne_of_none (by assumption) (by assumption))).trans (by assumption) | (rw [upd_ne (by first | assumption | exact Ne.symm (by assumption))]; walk_at "hp"))
local macro_rules | `(tactic| walk_at "sq") => `(tactic| first | assumption | exact SqL.of (by assumption) | exact SqT.of (by assumption) | exact SqL.of (by walk_at "hp") | exact SqT.of (by walk_at "hp") | (refine Same.seq ?_ ?_ <;> assumption))
local macro_rules | `(tactic| walk_at "cmul") => `(tactic| first | exact .inr ⟨by decide, by decide⟩ | exact .inl ⟨by decide, by decide⟩ | exact .inr ⟨by omega, by omega⟩ | exact .inl ⟨by omega, by omega⟩)
local macro_rules | `(tactic| walk_at "cdiv") => `(tactic| first | exact ⟨by decide, by decide⟩ | exact wide_div (b := 64) (by omega) (by omega) (by decide) (by decide) | exact wide_div (b := 128) (by omega) (by omega) (by decide) (by decide))
local macro_rules | `(tactic| walk_at "rd1") => `(tactic| first
  | ((with_reducible show tVar _ _ _ _); refine Wk.r_var rfl ?_)
  | (with_reducible first
    | refine Wk.r_c ?_ | refine Wk.r_op ?_ | refine Wk.r_cons ?_ | refine Wk.r_nil ?_
    | refine Wk.r_seq ?_ | refine Wk.r_next ?_ | refine Wk.r_set ?_ | refine Wk.r_asgS ?_ | refine Wk.r_ret ?_ | refine Wk.r_drop ?_ | refine Wk.r_if ?_
    | refine Wk.r_asgG ?_ | refine Wk.r_gName ?_ | refine Wk.r_gCons ?_ | refine Wk.r_gNil ?_ | refine Wk.r_par ?_ | refine Wk.r_par3 ?_ | refine Wk.r_lstRg1 ?_ | refine Wk.r_tupRg1 ?_ | refine ⟨_, _, _, rfl, ?_⟩ | refine Wk.r_un ?_ | refine Wk.r_I0 ?_ | refine Wk.r_U ?_
    | refine Wk.r_test ?_ | refine Wk.r_B ?_ | refine Wk.r_k ?_ | refine Wk.r_not ?_ | refine Wk.r_and ?_ | refine Wk.r_or ?_ | refine Wk.r_andV ?_ | refine Wk.r_orV ?_ | refine Wk.r_notV ?_
    | refine Wk.r_CB ?_ | refine Wk.r_chain ?_ | refine Wk.r_fld ?_ | refine Wk.r_sfld ?_ | refine Wk.r_lst ?_ | refine Wk.r_tup ?_ | refine Wk.r_call ?_ | refine Wk.r_BM ?_ | refine Wk.r_BM0 ?_ | refine Wk.r_T ?_ | refine Wk.r_nT ?_ | refine Wk.r_nF ?_ | refine Wk.r_F ?_
    | refine Or.inl ⟨_, rfl, ?_⟩ | refine Or.inr ⟨_, rfl, ?_⟩ | refine ⟨_, rfl, ?_⟩ | refine ⟨_, _, rfl, ?_⟩)
  | ((with_reducible refine Wk.r_eq ?c0 ?_); (case c0 => rfl)) | ((with_reducible refine Wk.r_ne ?c0 ?_); (case c0 => rfl))
  | ((with_reducible refine Wk.r_pow ?c0 ?_); (case c0 => exact ⟨by decide, by decide, by decide⟩))
  | ((with_reducible refine Wk.r_mul ?c0 ?_); (case c0 => walk_at "cmul")) | ((with_reducible refine Wk.r_mod ?c0 ?_); (case c0 => first | decide | omega)) | ((with_reducible refine Wk.r_div ?c0 ?_); (case c0 => walk_at "cdiv"))
  | ((with_reducible refine Wk.r_new ?c0 ?_); (case c0 => (simp only [List.length_cons, List.length_nil]; omega)))
  | ((with_reducible show gTup _ _ _ _ _ _ _); refine Wk.r_gTup (by walk_at "sq") (by rfl) ?_)
  | (refine Wk.r_tyL (by walk_at "hp") ?_)
  | ((with_reducible show rSetL _ _ _ _ _); refine Wk.r_setL (by walk_at "hp") (by rfl) ?_)
  | ((with_reducible show rIxL _ _ _ _ _); refine Wk.r_ixL (by walk_at "sq") (by rfl) ?_) | ((with_reducible show rIxT _ _ _ _ _); refine Wk.r_ixT (by walk_at "sq") (by rfl) ?_)
  | ((with_reducible show rLenOf _ _ _ _); first | refine Wk.n_lenL (by walk_at "sq") ?_ | refine Wk.n_lenT (by walk_at "sq") ?_)
  | ((with_reducible show rListOf _ _ _ _); first | refine Wk.n_listL (by walk_at "sq") ?_ | refine Wk.n_listT (by walk_at "sq") ?_)
  | ((with_reducible show rTupZ _ _ _ _); first | refine Wk.z_tupL (by walk_at "sq") ?_ | refine Wk.z_tupT (by walk_at "sq") ?_)
  | ((with_reducible show rTupOf _ _ _ _); first | refine Wk.n_tupL (by walk_at "sq") ?_ | refine Wk.n_tupT (by walk_at "sq") ?_))
local macro_rules | `(tactic| walk_at "rd") => `(tactic| repeat (walk_at "rd1"))
local macro_rules | `(tactic| walk_at "rd1") => `(tactic| (with_reducible first | refine Wk.r_dget ?_ | refine Wk.r_din ?_ | refine Wk.r_dnotin ?_ | refine Wk.r_dput ?_ | refine Wk.r_pairs ?_ | refine Wk.r_pairs0 ?_ | refine Wk.r_sl ?_ | refine Wk.r_part ?_ | refine Wk.r_nopart ?_ | refine Wk.r_augS ?_ | refine Wk.r_ipI ?_ | refine Wk.r_aug rfl ?_ | refine Wk.r_revT ?_))

section
variable {P : Program} {w : World} {K : PySem.W.Frag} {mg : Str → Option Value} {base : Heap}
theorem k_is_whole (T : Txt mg) (a : At K mg "is_whole" s_is_whole ["value"]) : Keep P w K mg base 1 "is_whole" ["value"] spWhole := by
  refine Keep.of a sc_is_whole (fun vs H Q E h => ?_) (fun f cdv A outer s H vs Q E hr h => ?_)
  · obtain ⟨i, rfl, _⟩ := h
    rfl
  · obtain ⟨i, rfl, kk⟩ := h
    refine ⟨_, (pss_one (ps_ret (pe_and (pe_callB call_isi (by rfl) T.n_isinstance (by decide +kernel) (pa_cons (pv 0) (pa_cons (pe_bltn (v := .ty "int") (u := .type "int") (by rfl) T.n_int (by decide +kernel) rfl) pa_nil))) (pe_one (pe_not (pe_callB call_isi (by rfl) T.n_isinstance (by decide +kernel) (pa_cons (pv 0) (pa_cons (pe_bltn (v := .ty "bool") (u := .type "bool") (by rfl) T.n_bool (by decide +kernel) rfl) pa_nil)))))))), ?_⟩
    walk_at "rd"
    refine n_isiB (b := true) (.base (.int _)) (by decide +kernel) ?_
    walk_at "rd"
    refine n_isiB (b := false) (.base (.int _)) (by decide +kernel) ?_
    walk_at "rd"
    exact kk
theorem k_is_within (T : Txt mg) (k_is_whole : Keep P w K mg base 1 "is_whole" ["value"] spWhole) (a : At K mg "is_within" s_is_within ["value", "least", "most"]) : Keep P w K mg base 2 "is_within" ["value", "least", "most"] spWithin := by
  refine Keep.of a sc_is_within (fun vs H Q E h => ?_) (fun f cdv A outer s H vs Q E hr h => ?_)
  · obtain ⟨i, a, b, rfl, kk⟩ := h
    rfl
  · obtain ⟨i, a, b, rfl, kk⟩ := h
    refine ⟨_, (pss_one (ps_ret (pe_and (pe_k k_is_whole (hr.mono (by decide)) (by rfl) (pa_cons (pv 0) pa_nil)) (pe_one (pe_chain op_le op_le (pv 1) (pv 0) (pv 2)))))), ?_⟩
    walk_at "rd"
    refine ⟨i, rfl, ?_⟩
    walk_at "rd"
    refine r_if1 (fun c => ?_) (fun c => ?_)
    · walk_at "rd"
      rw [decide_eq_true c, Bool.true_and] at kk
      exact kk
    · rw [decide_eq_false c, Bool.false_and] at kk
      exact kk
theorem k_is_number_row (T : Txt mg) (k_is_within : Keep P w K mg base 2 "is_within" ["value", "least", "most"] spWithin) (a : At K mg "is_number_row" s_is_number_row ["value", "length", "bound"]) : Keep P w K mg base 3 "is_number_row" ["value", "length", "bound"] (spNRow K) := by
  refine Keep.of a sc_is_number_row (fun vs H Q E h => ?_) (fun fa cdv A outer s H vs Q E hr h => ?_)
  · obtain ⟨_, _, _, _, rfl, _⟩ := h
    rfl
  · obtain ⟨t, n, k, cs, rfl, ht, hl, hn, hb, kk⟩ := h
    refine ⟨_, (pss_cons (ps_if (PW.pt (pw_or (pt_not (pt_val (pe_callB call_isi (by rfl) T.n_isinstance (by decide +kernel) (pa_cons (pv 0) (pa_cons (pe_bltn (v := .ty "tuple") (u := .type "tuple") (by rfl) T.n_tuple (by decide +kernel) rfl) pa_nil))))) (pw_or1 (pt_cmpR op_ne (pe_callB (c_len K) (by rfl) T.n_len (by decide +kernel) (pa_cons (pv 0) pa_nil)) (pv 1) (nomark _))))) (pss_one (ps_ret pe_bl)) pss_nil)
    (pss_one (ps_ret (pe_callB (c_all K rfl) (by rfl) T.n_all (by decide +kernel) (pa_cons (pe_lc (own := [("x", 3)]) rfl sc_is_number_row.nd (i_tup K (pv 0)) (blkOk_by (N := ["value", "length", "bound", "x"]) (sc := defScope s_is_number_row) (by decide +kernel)) (fun _ _ _ _ _ => (pg_name (i := 3) sc_is_number_row.nd rfl (by first | exact Or.inl rfl | exact Or.inr rfl))) (fun _ _ _ _ _ => pts_nil) (fun _ _ _ _ _ => (pe_k k_is_within (hr.mono (by decide)) (by rfl) (pa_cons (pv 3) (pa_cons pe_int (pa_cons (pe_op op_sub (pv 2) pe_int) pa_nil)))))) pa_nil))))), ?_⟩
    walk_at "rd"
    refine n_isiB (b := true) (sq_ty ht) (by decide +kernel) ?_
    walk_at "rd"
    rw [List.length_map, hl]
    refine r_ifNI (fun c => absurd rfl c) (fun _ => ?_)
    walk_at "rd"
    refine lc_tpl (fun _ v _ => v = V.bl true) ht (by rw [List.length_map]; omega) (fun R' h => ?_) (fun i => mut_val) ?_ ?_
    · walk_at "rd"
      exact h
    · intro i y H2 Q' hy s2 k2
      rw [List.getElem?_map] at hy
      cases c : cs[i]? with
      | none => rw [c] at hy; cases hy
      | some z =>
        rw [c] at hy
        cases hy
        obtain ⟨z0, z1⟩ := hb z (List.mem_of_getElem? c)
        walk_at "rd"
        refine ⟨_, _, _, rfl, ?_⟩
        rw [decide_eq_true z0, decide_eq_true (show z ≤ (k : Int) - 1 by omega)]
        exact k2 _ _ (Same.refl _) rfl
    · intro D L H2 hD s2 hL len r
      walk_at "rd"
      rw [trues len r] at hL
      refine n_all (SqL.of hL) ?_
      rw [all_trues]
      exact kk _ s2
end
end Wk
end
section
set_option linter.all false
/-! sums over the numbers below n; how many pairs are broken, and what follows for votes -/
namespace G
def sm : Nat → (Nat → Nat) → Nat
  | 0, _ => 0
  | n + 1, g => sm n g + g n
def ind (p : Prop) [Decidable p] : Nat := if p then 1 else 0
theorem ind_le (p : Prop) [Decidable p] : ind p ≤ 1 := by unfold ind; split <;> omega
theorem sm_congr {n : Nat} {g h : Nat → Nat} (e : ∀ i, i < n → g i = h i) : sm n g = sm n h := by
  induction n with
  | zero => rfl
  | succ n ih =>
    show sm n g + g n = sm n h + h n
    rw [ih fun i hi => e i (by omega), e n (by omega)]
theorem sm_le {n : Nat} {g h : Nat → Nat} (e : ∀ i, i < n → g i ≤ h i) : sm n g ≤ sm n h := by
  induction n with
  | zero => exact Nat.le_refl _
  | succ n ih =>
    show sm n g + g n ≤ sm n h + h n
    have := ih fun i hi => e i (by omega)
    have := e n (by omega)
    omega
theorem sm_add (n : Nat) (g h : Nat → Nat) : sm n (fun i => g i + h i) = sm n g + sm n h := by
  induction n with
  | zero => rfl
  | succ n ih =>
    show sm n (fun i => g i + h i) + (g n + h n) = sm n g + g n + (sm n h + h n)
    omega
theorem sm_mul (n c : Nat) (g : Nat → Nat) : sm n (fun i => c * g i) = c * sm n g := by
  induction n with
  | zero => rfl
  | succ n ih =>
    show sm n (fun i => c * g i) + c * g n = c * (sm n g + g n)
    rw [ih, Nat.mul_add]
theorem sm_mulR (n c : Nat) (g : Nat → Nat) : sm n (fun i => g i * c) = sm n g * c := by
  rw [Nat.mul_comm, ← sm_mul]
  exact sm_congr fun i _ => Nat.mul_comm _ _
theorem sm_const (n c : Nat) : sm n (fun _ => c) = n * c := by
  induction n with
  | zero => simp [sm]
  | succ n ih =>
    show sm n (fun _ => c) + c = (n + 1) * c
    rw [ih, Nat.succ_mul]
theorem sm_zero (n : Nat) : sm n (fun _ => 0) = 0 := by rw [sm_const]; simp
theorem sm_comm (n k : Nat) (g : Nat → Nat → Nat) : sm n (fun i => sm k (g i)) = sm k fun j => sm n fun i => g i j := by
  induction n with
  | zero =>
    show 0 = sm k fun _ => 0
    rw [sm_zero]
  | succ n ih =>
    show sm n (fun i => sm k (g i)) + sm k (g n) = sm k fun j => sm n (fun i => g i j) + g n j
    rw [sm_add, ih]
theorem sm_one {n a : Nat} (c : Nat) (h : a < n) : sm n (fun i => if i = a then c else 0) = c := by
  induction n with
  | zero => omega
  | succ n ih =>
    show sm n (fun i => if i = a then c else 0) + (if n = a then c else 0) = c
    by_cases q : n = a
    · rw [if_pos q, sm_congr (h := fun _ => 0) fun i hi => if_neg (by omega), sm_zero]
      omega
    · rw [if_neg q, ih (by omega)]
      omega
/-- a sum over the values of a bijection -/
theorem sm_perm {n : Nat} {s t : Nat → Nat} (g : Nat → Nat) (hs : ∀ i, i < n → s i < n) (ht : ∀ i, i < n → t i < n) (st : ∀ i, i < n → s (t i) = i) (ts : ∀ i, i < n → t (s i) = i) : sm n (fun i => g (s i)) = sm n g := by
  have e1 : sm n (fun i => g (s i)) = sm n fun i => sm n fun j => if j = s i then g j else 0 := by
    refine sm_congr fun i hi => ?_
    rw [sm_congr (n := n) (g := fun j => if j = s i then g j else 0) (h := fun j => if j = s i then g (s i) else 0) fun j _ => by
      by_cases q : j = s i
      · rw [if_pos q, if_pos q, q]
      · rw [if_neg q, if_neg q], sm_one _ (hs i hi)]
  rw [e1, sm_comm]
  refine sm_congr fun j hj => ?_
  rw [sm_congr (n := n) (g := fun i => if j = s i then g j else 0) (h := fun i => if i = t j then g j else 0) fun i hi => by
    by_cases q : i = t j
    · rw [if_pos q, if_pos (by rw [q, st j hj])]
    · rw [if_neg q, if_neg (fun z => q (by rw [z, ts i hi]))]]
  exact sm_one _ (ht j hj)
theorem sm_filter (n : Nat) (p : Nat → Bool) : ((List.range n).filter p).length = sm n fun i => ind (p i = true) := by
  induction n with
  | zero => rfl
  | succ n ih =>
    rw [List.range_succ, List.filter_append, List.length_append, ih]
    show _ = sm n (fun i => ind (p i = true)) + ind (p n = true)
    congr 1
    unfold ind
    cases e : p n <;> simp [e]
theorem sm_list (n : Nat) (g : Nat → Nat) : ((List.range n).map fun i => (g i : Int)).sum = (sm n g : Int) := by
  induction n with
  | zero => rfl
  | succ n ih =>
    rw [List.range_succ, List.map_append, List.sum_append, ih]
    show (sm n g : Int) + (List.map (fun i => (g i : Int)) [n]).sum = ((sm n g + g n : Nat) : Int)
    simp
theorem ind_mul (p q : Prop) [Decidable p] [Decidable q] : ind p * ind q = ind (p ∧ q) := by
  unfold ind
  by_cases a : p <;> by_cases b : q <;> simp [a, b]
theorem ind_iff {p q : Prop} [Decidable p] [Decidable q] (h : p ↔ q) : ind p = ind q := by
  unfold ind
  by_cases a : p
  · rw [if_pos a, if_pos (h.mp a)]
  · rw [if_neg a, if_neg (fun b => a (h.mpr b))]
theorem ind_not (p : Prop) [Decidable p] : ind p + ind (¬ p) = 1 := by
  unfold ind
  by_cases a : p <;> simp [a]
theorem sm_prod (n l : Nat) (a b : Nat → Nat) : sm n (fun i => sm l fun j => a j * b i) = sm l a * sm n b := by
  rw [sm_congr (h := fun i => sm l a * b i) fun i _ => sm_mulR l (b i) a, sm_mul]
section
variable {n k : Nat}
/-- any values v y below k: pairs with equal ones, by how often each value is taken -/
theorem equal_pairs (v : Nat → Nat) (hv : ∀ y, y < n → v y < k) : sm k (fun h => (sm n fun y => ind (v y = h)) * (sm n fun y => ind (v y = h))) = sm n fun z => sm n fun y => ind (v y = v z) := by
  have a1 : ∀ h, (sm n fun y => ind (v y = h)) * (sm n fun y => ind (v y = h)) = sm n fun z => sm n fun y => ind (v y = h) * ind (v z = h) := fun h => (sm_prod n n (fun y => ind (v y = h)) fun z => ind (v z = h)).symm
  rw [sm_congr fun h _ => a1 h, sm_comm]
  refine sm_congr fun z hz => ?_
  rw [sm_comm]
  refine sm_congr fun y hy => ?_
  have a2 : ∀ h, ind (v y = h) * ind (v z = h) = if h = v z then ind (v y = v z) else 0 := fun h => by
    rw [ind_mul]
    by_cases q : h = v z
    · rw [if_pos q, q]
      exact ind_iff ⟨fun a => a.1, fun a => ⟨a, rfl⟩⟩
    · rw [if_neg q]
      unfold ind
      rw [if_neg (fun a => q a.2.symm)]
  rw [sm_congr fun h _ => a2 h]
  exact sm_one _ (hv z hz)
theorem pairs_all (v : Nat → Nat) : (sm n fun z => sm n fun y => ind (v y = v z)) + (sm n fun z => sm n fun y => ind (v y ≠ v z)) = n * n := by
  rw [← sm_add, sm_congr (h := fun _ => n) fun z _ => ?_, sm_const]
  rw [← sm_add, sm_congr (h := fun _ => 1) fun y _ => ind_not _, sm_const]
  omega
theorem cut_pairs (v : Nat → Nat) (h c : Nat) (hc : c = sm n fun y => ind (v y = h)) : 2 * (c * (n - c)) ≤ sm n fun z => sm n fun y => ind (v y ≠ v z) := by
  have d : sm n (fun y => ind (¬ v y = h)) = n - c := by
    have : sm n (fun y => ind (v y = h)) + sm n (fun y => ind (¬ v y = h)) = n := by
      rw [← sm_add, sm_congr (h := fun _ => 1) fun y _ => ind_not _, sm_const]
      omega
    omega
  have p1 := sm_prod n n (fun y => ind (v y = h)) fun z => ind (¬ v z = h)
  have p2 := sm_prod n n (fun y => ind (¬ v y = h)) fun z => ind (v z = h)
  rw [← hc, d] at p1 p2
  have le := sm_le (n := n) (g := fun z => sm n (fun y => ind (v y = h) * ind (¬ v z = h)) + sm n fun y => ind (¬ v y = h) * ind (v z = h)) (h := fun z => sm n fun y => ind (v y ≠ v z)) fun z _ => by
    rw [← sm_add]
    refine sm_le fun y _ => ?_
    rw [ind_mul, ind_mul]
    unfold ind
    by_cases a : v y = h
    · by_cases b : v z = h
      · rw [if_neg (fun q => q.2 b), if_neg (fun q => q.1 a)]; omega
      · rw [if_pos ⟨a, b⟩, if_neg (fun q => q.1 a), if_pos (fun q => b (by rw [← q, a]))]; omega
    · by_cases b : v z = h
      · rw [if_neg (fun q => a q.1), if_pos ⟨a, b⟩, if_pos (fun q => a (by rw [q, b]))]; omega
      · rw [if_neg (fun q => a q.1), if_neg (fun q => b q.2)]; omega
  rw [sm_add, p1, p2, Nat.mul_comm (n - c) c] at le
  omega
end
end G
end
section
set_option Elab.async false
set_option linter.all false
set_option maxRecDepth 100000
namespace Wk
open PySem PySem.Spec PyProof.Rows L2
section
variable {K : PySem.W.Frag} {j l : Nat} {te : TE} {ta : TA} {vs : List Nat} {σ : L2.St} {H : Hp} {Q : VK} {a b : Addr} {xs ys : List V}
/-- a comprehension over enumerate(list), the values plain -/
theorem lc_enumL (f : Nat → V) (hs : SqL K H a xs) (hz : xs.length ≤ 40000) (hta : ∀ R' : List V → Hp → Prop, R' [.ref a] H → ta σ H R')
    (step : ∀ (i : Nat) x H1 (Q' : VK), xs[i]? = some x → Same H H1 → (∀ H2, Same H1 H2 → Q' (f i) H2) → te (((wipe σ vs).set j (some (.int (i : Int)))).set l (some x)) H1 Q')
    (done : ∀ D H1, H D = none → Same H H1 → H1 D = some (.lst ((List.range xs.length).map f)) → Q (.ref D) H1) (hw : ∀ x y, wipe (((wipe σ vs).set j (some x)).set l (some y)) vs = wipe σ vs := by intro _ _; rfl) :
    tLc (iEnum K ta) (gTup K 2 (gCons (gName j) (gCons (gName l) gNil))) tYes te vs σ H Q := by
  refine hta _ ⟨a, xs, rfl, hs, fun D hD => ?_⟩
  refine ⟨fun i m H1 => m = xs.length - i ∧ i ≤ xs.length ∧ Same H H1 ∧ H1 D = some (.lst ((List.range i).map f)), ⟨xs.length, by simp, Nat.zero_le _, same_new hD, upd_same⟩, ?_⟩
  rintro i m H1 ⟨rfl, hi, s1, hL⟩
  have q := s1.seq hs
  by_cases lt : i < xs.length
  · refine .inr ⟨⟨xs, xs[i], q, List.getElem?_eq_getElem lt⟩, fun H' => Same H H' ∧ H' D = some (.lst ((List.range (i + 1)).map f)), fun H2 p' => ⟨xs.length - (i + 1), by omega, rfl, lt, p'⟩, fun z H2 y => ?_⟩
    obtain ⟨T, x, rfl, hT, rfl, hx⟩ := y
    have hx' := hx xs q
    refine r_gTup (SqT.of upd_same) rfl (r_gCons (r_gName (r_gCons (r_gName (r_gNil ⟨hw _ _, ?_⟩)))))
    have s2 := same_new (o := .tup [.int (i : Int), x]) hT
    show te _ _ _
    refine step i x _ _ hx' (s1.trans s2) fun H3 s3 => ?_
    have hL3 := s3 _ _ (s2 _ _ hL)
    refine ⟨_, hL3, szlt (by rw [List.length_map, List.length_range]; omega), fun b o e => ?_, ?_⟩
    · rw [upd_ne (ne_of_none e hD)]; exact s3 _ _ (s2 _ _ (s1 _ _ e))
    · rw [upd_same, List.range_succ, List.map_append]; rfl
  · have e : i = xs.length := by omega
    subst e
    exact .inl ⟨⟨xs, q, Nat.le_refl _⟩, done D H1 hD s1 hL⟩
/-- over zip(list, list), the values plain -/
theorem lc_zipL (f : Nat → V) (hx : SqL K H a xs) (hy : SqL K H b ys) (hl : xs.length = ys.length) (hz : xs.length ≤ 40000) (hta : ∀ R' : List V → Hp → Prop, R' [.ref a, .ref b] H → ta σ H R')
    (step : ∀ (i : Nat) x y H1 (Q' : VK), xs[i]? = some x → ys[i]? = some y → Same H H1 → (∀ H2, Same H1 H2 → Q' (f i) H2) → te (((wipe σ vs).set j (some x)).set l (some y)) H1 Q')
    (done : ∀ D H1, H D = none → Same H H1 → H1 D = some (.lst ((List.range xs.length).map f)) → Q (.ref D) H1) (hw : ∀ x y, wipe (((wipe σ vs).set j (some x)).set l (some y)) vs = wipe σ vs := by intro _ _; rfl) :
    tLc (iZip K ta) (gTup K 2 (gCons (gName j) (gCons (gName l) gNil))) tYes te vs σ H Q := by
  refine hta _ ⟨a, b, xs, ys, rfl, hx, hy, fun D hD => ?_⟩
  refine ⟨fun i m H1 => m = xs.length - i ∧ i ≤ xs.length ∧ Same H H1 ∧ H1 D = some (.lst ((List.range i).map f)), ⟨xs.length, by simp, Nat.zero_le _, same_new hD, upd_same⟩, ?_⟩
  rintro i m H1 ⟨rfl, hi, s1, hL⟩
  have q := s1.seq hx
  have q2 := s1.seq hy
  by_cases lt : i < xs.length
  · refine .inr ⟨⟨xs, ys, xs[i], ys[i]'(by omega), q, q2, List.getElem?_eq_getElem lt, List.getElem?_eq_getElem (by omega)⟩, fun H' => Same H H' ∧ H' D = some (.lst ((List.range (i + 1)).map f)), fun H2 p' => ⟨xs.length - (i + 1), by omega, rfl, lt, p'⟩, fun z H2 y => ?_⟩
    obtain ⟨T, x, y, rfl, hT, rfl, ex, ey⟩ := y
    refine r_gTup (SqT.of upd_same) rfl (r_gCons (r_gName (r_gCons (r_gName (r_gNil ⟨hw _ _, ?_⟩)))))
    have s2 := same_new (o := .tup [x, y]) hT
    show te _ _ _
    refine step i x y _ _ (ex xs q) (ey ys q2) (s1.trans s2) fun H3 s3 => ?_
    have hL3 := s3 _ _ (s2 _ _ hL)
    refine ⟨_, hL3, szlt (by rw [List.length_map, List.length_range]; omega), fun b o e => ?_, ?_⟩
    · rw [upd_ne (ne_of_none e hD)]; exact s3 _ _ (s2 _ _ (s1 _ _ e))
    · rw [upd_same, List.range_succ, List.map_append]; rfl
  · have e : i = xs.length := by omega
    subst e
    exact .inl ⟨⟨xs, ys, q, q2, .inl (Nat.le_refl _)⟩, done D H1 hD s1 hL⟩
end
section
variable {K : PySem.W.Frag} {j l : Nat} {te : TE} {ta : TA} {vs : List Nat} {σ : L2.St} {H : Hp} {Q : VK} {xs ys : List V}
/-- the same, the two lists new -/
theorem lc_zipS (f : Nat → V) (hl : xs.length = ys.length) (hz : xs.length ≤ 40000) (hta : ∀ R' : List V → Hp → Prop, (∀ a b H1, Same H H1 → SqL K H1 a xs → SqL K H1 b ys → R' [.ref a, .ref b] H1) → ta σ H R')
    (step : ∀ (i : Nat) x y H1 (Q' : VK), xs[i]? = some x → ys[i]? = some y → Same H H1 → (∀ H2, Same H1 H2 → Q' (f i) H2) → te (((wipe σ vs).set j (some x)).set l (some y)) H1 Q')
    (done : ∀ D H1, H D = none → Same H H1 → H1 D = some (.lst ((List.range xs.length).map f)) → Q (.ref D) H1) (hw : ∀ x y, wipe (((wipe σ vs).set j (some x)).set l (some y)) vs = wipe σ vs := by intro _ _; rfl) :
    tLc (iZip K ta) (gTup K 2 (gCons (gName j) (gCons (gName l) gNil))) tYes te vs σ H Q :=
  hta _ fun a b H1 s1 hx hy => lc_zipL (ta := fun _ H Q => Q [.ref a, .ref b] H) f hx hy hl hz (fun _ h => h) (fun i x y H2 Q' ex ey s2 k => step i x y H2 Q' ex ey (s1.trans s2) k) (fun D H2 hD s2 hL => done D H2 (Same.free s1 hD) (s1.trans s2) hL) hw
end
section
variable {X : Cx}
theorem g_tupK (K : PySem.W.Frag) (n : Nat) {pos : Pos} {es : List Expr} {k : Nat} {t : TGs} (hc : X.calm = true) (h : PGs X es t) (hn : (assignEach es X.env).length = n := by rfl) (hst : (assignEach es X.env).findIdx? (·.1) = none := by rfl) (hK : X.K = K := by rfl) : PG X (.Tuple es k pos) (gTup K n t) := by
  subst hK
  exact pg_tup hc h hn hst
theorem i_enumL' (K : PySem.W.Frag) {e : Expr} {ta : TA} {p pos tpos : Pos} {elts : List Expr} {kk : Nat} (hg : Gl X "enumerate") (hm : X.mg "enumerate" = none) (ha : PA X [e] ta) (hK : X.K = K := by rfl)
    (hs : starEach [e] X.env = [(false, eval e X.env)] := by rfl) : PI X (.Tuple elts kk tpos) (.Call (.Name "enumerate" p) [e] [] pos) (iEnum K ta) := by subst hK; exact pi_enum hg hm ha hs
def rSumT (K : PySem.W.Frag) : List V → Hp → VK → Prop := fun vs H Q => ∃ (a : Addr) (ns : List Int), vs = [V.ref a] ∧ SqT K H a (ns.map V.int) ∧ Q (.int ns.sum) H
theorem c_sumT (K : PySem.W.Frag) (hc : X.calm = true) (hK : X.K = K := by rfl) : CallR X (.builtin "sum") (rSumT K) := by
  subst hK
  intro pins s σ H vs us Q I r h
  obtain ⟨a, ns, rfl, hs, q⟩ := h
  obtain ⟨its, rv, hl, _⟩ := I.tuple hs
  rw [Vals.ref1 r]
  have hi : IntsAre its ns := by simpa using intsAre_of rv
  have hl : s.heap.IsTuple a its.toArray := hl
  obtain ⟨xs, e⟩ := hi.allInts.items
  have hn : numsOf (intItems xs).toList = ns := by rw [← e]; exact hi.numsOf
  rw [nums_intItems] at hn
  rw [e] at hl
  refine PySem.W.ktm_sumG (I.ok.hd hc) hl fun h' tk t' hk => ?_
  rw [preSum_eq, List.take_of_length_le (by simp), hn]
  exact ⟨.int _, H, I.kept hk, ⟨_, rfl⟩, q⟩
def rComb : List V → Hp → VK → Prop := fun vs H Q => ∃ a b : Nat, vs = [.int a, .int b] ∧ a ≤ 1000 ∧ b ≤ 1000 ∧ Q (.int (PySem.W.mcComb a b)) H
theorem cr_comb : CallR X (.builtin "math.comb") rComb := by
  intro pins s σ H vs us Q I r h
  obtain ⟨a, b, rfl, ha, hb, q⟩ := h
  obtain ⟨t, u, rfl⟩ := Vals.int2 r
  exact PySem.W.mc_comb (by omega) (by omega) (by omega) (.inl (by omega)) fun _ => ⟨.int _, H, I.tok _, ⟨_, rfl⟩, q⟩
end
theorem pick_at {L : List V} {r : Int} (h0 : 0 ≤ r) (h1 : r < L.length) : ∃ v, v ∈ L ∧ atI L r = some v := by
  have h : r.toNat < L.length := by omega
  exact ⟨L[r.toNat], List.getElem_mem h, at_nat h0 (List.getElem?_eq_getElem h)⟩
theorem Below.few {p : Nat} {cs : List Int} (hp : p ≤ 101) (h : Below p cs) : ∀ z ∈ cs, Few z := fun z hz => by
  obtain ⟨a, b⟩ := h z hz
  exact few_of (by omega) (by omega)
theorem mod3 (x j h p : Nat) : ((x : Int) + (j : Int) * (h : Int)) % (p : Int) = (((x + j * h) % p : Nat) : Int) := by rw [← cmodN, ← caddN, ← cmulN]
/-- the factors of a step sum -/
def facs : Nat → List Int
  | 0 => [1, -1]
  | 1 => [1, -2, 1]
  | 2 => [1, -3, 3, -1]
  | 3 => [1, -4, 6, -4, 1]
  | _ => [1, -5, 10, -10, 5, -1]
theorem facs_len {d : Nat} (h : d ≤ 4) : (facs d).length = d + 2 := by
  rcases d with _ | _ | _ | _ | _ | d
  · rfl
  · rfl
  · rfl
  · rfl
  · rfl
  · omega
theorem facs_small : ∀ d, ∀ a ∈ facs d, -10 ≤ a ∧ a ≤ 10
  | 0 => by decide
  | 1 => by decide
  | 2 => by decide
  | 3 => by decide
  | _ + 4 => by show ∀ a ∈ [(1 : Int), -5, 10, -10, 5, -1], _; decide
theorem facs_zero : ∀ d, atI' (facs d) 0 = 1
  | 0 => rfl
  | 1 => rfl
  | 2 => rfl
  | 3 => rfl
  | _ + 4 => rfl
theorem facs_comb {d i : Nat} (h : d ≤ 4) (hi : i < d + 2) : PySem.W.mcComb ((d : Int) + 1) (i : Int) * (1 - 2 * ((i : Int) % 2)) = atI' (facs d) i := by
  have k : ∀ d : Nat, d < 5 → ∀ i : Nat, i < 6 → i < d + 2 → PySem.W.mcComb ((d : Int) + 1) (i : Int) * (1 - 2 * ((i : Int) % 2)) = atI' (facs d) i := by decide +kernel
  exact k d (by omega) i (by omega) hi
theorem atI_list (cs : List Int) (n : Nat) (h : cs.length = n) : (List.range n).map (fun i => V.int (atI' cs i)) = cs.map V.int := by
  apply List.ext_getElem?
  intro i
  rw [List.getElem?_map, List.getElem?_map]
  by_cases c : i < n
  · rw [List.getElem?_range c, at_get (by omega)]; rfl
  · rw [List.getElem?_eq_none (by rw [List.length_range]; omega), List.getElem?_eq_none (by omega)]; rfl
/-- the sum of g 0 .. g (n - 1) -/
def si : Nat → (Nat → Int) → Int
  | 0, _ => 0
  | n + 1, g => si n g + g n
theorem si_list (n : Nat) (g : Nat → Int) : ((List.range n).map g).sum = si n g := by
  induction n with
  | zero => rfl
  | succ n ih =>
    rw [List.range_succ, List.map_append, List.sum_append, ih]
    show si n g + ([g n] : List Int).sum = si n g + g n
    simp
/-- a step sum, before it is taken modulo p -/
def stp (p d : Nat) (fs : List Int) (x h : Nat) : Int := si (d + 2) fun i => atI' (facs d) i * atI' fs ((x + i * h) % p)
def spReqW : Sp := fun vs H Q _ => ∃ i a b : Int, vs = [.int i, .int a, .int b] ∧ a ≤ i ∧ i ≤ b ∧ Q .non H
/-- a table, a degree that fits -/
structure Tb (K : PySem.W.Frag) (H : Hp) (p d t : Nat) (fs : List Int) : Prop where
  pp : p ∈ prs
  d4 : d ≤ 4
  dp : d + 2 ≤ p
  ts : SqT K H t (fs.map V.int)
  len : fs.length = p
  bel : Below p fs
theorem Tb.mono {K : PySem.W.Frag} {H H' : Hp} {p d t : Nat} {fs : List Int} (s : Same H H') (h : Tb K H p d t fs) : Tb K H' p d t fs := { h with ts := s.sqT h.ts }
theorem Tb.exP {K : PySem.W.Frag} {H H' : Hp} {p d t h q : Nat} {fs : List Int} (hd : HS H h q) (x : ExP h H H') (b : Tb K H p d t fs) : Tb K H' p d t fs := { b with ts := sqT_exP hd x b.ts }
theorem Tb.p0 {K : PySem.W.Frag} {H : Hp} {p d t : Nat} {fs : List Int} (h : Tb K H p d t fs) : 2 ≤ p ∧ p ≤ 101 := prs_ok p h.pp
def spDegT (K : PySem.W.Frag) : Sp := fun vs H Q _ => ∃ (p d t : Nat) (fs : List Int), vs = [.int p, .int d, .ref t] ∧ Tb K H p d t fs ∧ ∀ H', Same H H' → Q .non H'
def spFacs : Sp := fun vs H Q _ => ∃ d : Nat, vs = [.int d] ∧ d ≤ 4 ∧ ∀ (H' : Hp) (l : Addr), H l = none → Same H H' → H' l = some (.lst ((facs d).map V.int)) → Q (.ref l) H'
def spStep (K : PySem.W.Frag) : Sp := fun vs H Q _ => ∃ (p d t l x h : Nat) (fs : List Int), vs = [.int p, .ref l, .ref t, .int x, .int h] ∧ Tb K H p d t fs ∧ SqL K H l ((facs d).map V.int) ∧ x ≤ 101 ∧ h ≤ 101 ∧ ∀ H', Same H H' → Q (.int (stp p d fs x h % p)) H'
/-- the number that step h votes for at x -/
def vot (p d : Nat) (fs : List Int) (x h : Nat) : Nat := ((atI' fs x - stp p d fs x h) % p).toNat
/-- how many vote for v at x, of the first n steps -/
def cnt (p d : Nat) (fs : List Int) (x n v : Nat) : Nat := G.sm n fun h => G.ind (vot p d fs x h = v)
def cntL (p d : Nat) (fs : List Int) (x n : Nat) : List Int := (List.range p).map fun v => (cnt p d fs x n v : Int)
theorem cntL_len {p d x n : Nat} {fs : List Int} : (cntL p d fs x n).length = p := by unfold cntL; rw [List.length_map, List.length_range]
theorem cntL_get {p d x n v : Nat} {fs : List Int} (h : v < p) : (cntL p d fs x n)[v]? = some (cnt p d fs x n v : Int) := by
  unfold cntL
  rw [List.getElem?_map, List.getElem?_range h]
  rfl
theorem cnt_succ {p d x n v : Nat} {fs : List Int} : cnt p d fs x (n + 1) v = cnt p d fs x n v + G.ind (vot p d fs x n = v) := rfl
theorem cntL_set {p d x n : Nat} {fs : List Int} (h : vot p d fs x n < p) : (cntL p d fs x n).set (vot p d fs x n) ((cnt p d fs x n (vot p d fs x n) : Int) + 1) = cntL p d fs x (n + 1) := by
  apply List.ext_getElem?
  intro v
  by_cases c : v < p
  · rw [cntL_get c, cnt_succ, List.getElem?_set]
    by_cases e : vot p d fs x n = v
    · subst e
      rw [if_pos rfl, if_pos (by rw [cntL_len]; exact c)]
      unfold G.ind
      rw [if_pos rfl]
      rfl
    · rw [if_neg e, cntL_get c]
      unfold G.ind
      rw [if_neg e]
      rfl
  · rw [List.getElem?_eq_none (by rw [List.length_set, cntL_len]; omega), List.getElem?_eq_none (by rw [cntL_len]; omega)]
theorem rep_zeros {p d x : Nat} {fs : List Int} : (List.replicate (p : Int).toNat [V.int 0]).flatten = (cntL p d fs x 0).map V.int := by
  have e : ((p : Int)).toNat = p := Int.toNat_natCast p
  rw [e]
  have z : (cntL p d fs x 0).map V.int = List.replicate p (V.int 0) := by
    unfold cntL
    rw [List.map_map]
    refine List.eq_replicate_iff.mpr ⟨by rw [List.length_map, List.length_range], fun v hv => ?_⟩
    obtain ⟨i, _, rfl⟩ := List.mem_map.mp hv
    rfl
  rw [z]
  induction p with
  | zero => rfl
  | succ n ih =>
    clear z e
    have : ∀ k : Nat, (List.replicate k [V.int 0]).flatten = List.replicate k (V.int 0) := fun k => by
      induction k with
      | zero => rfl
      | succ k ih => rw [List.replicate_succ, List.replicate_succ, List.flatten_cons, ih]; rfl
    exact this _
def spVts (K : PySem.W.Frag) : Sp := fun vs H Q _ => ∃ (p d t x : Nat) (fs : List Int), vs = [.int p, .int d, .ref t, .int x] ∧ Tb K H p d t fs ∧ x < p ∧ ∀ (H' : Hp) (u : Addr), Same H H' → SqT K H' u ((cntL p d fs x p).map V.int) → Q (.ref u) H'
def stepsL : Nat → List Int
  | 0 => [1]
  | k + 1 => (List.range (k + 2)).map fun i => atI' (stepsL k ++ [0]) i - atI' (0 :: stepsL k) i
theorem stepsL_len : ∀ k, (stepsL k).length = k + 1
  | 0 => rfl
  | k + 1 => by show ((List.range (k + 2)).map _).length = _; rw [List.length_map, List.length_range]
theorem stepsL_facs {d : Nat} (h : d ≤ 4) : stepsL (d + 1) = facs d := by
  have k : ∀ d : Nat, d < 5 → stepsL (d + 1) = facs d := by decide +kernel
  exact k d (by omega)
theorem si_congr {n : Nat} {g h : Nat → Int} (e : ∀ i, i < n → g i = h i) : si n g = si n h := by
  induction n with
  | zero => rfl
  | succ n ih =>
    show si n g + g n = si n h + h n
    rw [ih fun i hi => e i (by omega), e n (by omega)]
theorem si_shift (n : Nat) (g : Nat → Int) : si (n + 1) g = g 0 + si n fun i => g (i + 1) := by
  induction n with
  | zero => show (0 : Int) + g 0 = g 0 + 0; omega
  | succ n ih =>
    show si (n + 1) g + g (n + 1) = g 0 + (si n (fun i => g (i + 1)) + g (n + 1))
    rw [ih]
    omega
/-- the votes without the first member -/
def stp1 (p d : Nat) (fs : List Int) (x h : Nat) : Int := si (d + 1) fun i => atI' (facs d) (i + 1) * atI' fs ((x + (i + 1) * h) % p)
theorem stp_split {p d x h : Nat} {fs : List Int} (hx : x < p) : stp p d fs x h = atI' fs x + stp1 p d fs x h := by
  unfold stp stp1
  rw [si_shift, facs_zero, Nat.zero_mul, Nat.add_zero, Nat.mod_eq_of_lt hx, Int.one_mul]
theorem vot_eq {p d x h : Nat} {fs : List Int} (hx : x < p) : ((vot p d fs x h : Nat) : Int) = (-stp1 p d fs x h) % p := by
  unfold vot
  rw [Int.toNat_of_nonneg (Int.emod_nonneg _ (by omega)), stp_split hx]
  congr 1
  omega
theorem vot_lt {p d x h : Nat} {fs : List Int} (hx : x < p) : vot p d fs x h < p := by
  have h1 := Int.emod_lt_of_pos (-stp1 p d fs x h) (show (0 : Int) < p by omega)
  rw [← vot_eq hx] at h1
  omega
def spLVts (K : PySem.W.Frag) : Sp := fun vs H Q _ => ∃ (p d t x : Nat) (fs : List Int), vs = [.int p, .int d, .ref t, .int x] ∧ Tb K H p d t fs ∧ x < p ∧ ∀ (H' : Hp) (u : Addr), Same H H' → H' u = some (.lst ((cntL p d fs x p).map V.int)) → Q (.ref u) H'
/-- how many steps are broken -/
def bks (p d : Nat) (fs : List Int) : Nat := G.sm p fun x => G.sm p fun h => G.ind (¬ stp p d fs x h % p = 0)
def spLBrk (K : PySem.W.Frag) : Sp := fun vs H Q _ => ∃ (p d t : Nat) (fs : List Int), vs = [.int p, .int d, .ref t] ∧ Tb K H p d t fs ∧ ∀ H', Same H H' → Q (.int (bks p d fs)) H'
end Wk
end
section
set_option Elab.async false
set_option linter.all false
set_option maxRecDepth 100000
namespace Wk
open PySem PySem.Spec PyProof.Rows L2
section
variable {X : Cx}
theorem i_zipA {e e2 : Expr} {ta : TA} {p pos tpos : Pos} {elts : List Expr} {kk : Nat} (K : PySem.W.Frag) (hg : Gl X "zip") (hm : X.mg "zip" = none) (ha : PA X [e, e2] ta)
    (hs : starEach [e, e2] X.env = (false, eval e X.env) :: starEach [e2] X.env := by rfl) (hpl : (backTo pos (starEach [e2] X.env)).any (·.1) = false := by rfl) (hK : X.K = K := by rfl) :
    PI X (.Tuple elts kk tpos) (.Call (.Name "zip" p) [e, e2] [] pos) (RZ.iZipA K ta) := by subst hK; exact RZ.pi_zipA hg hm ha hs hpl
end
section
variable {K : PySem.W.Frag} {j l : Nat} {te : TE} {ta : TA} {vs : List Nat} {σ : L2.St} {H : Hp} {Q : VK} {a b : Addr} {xs ys : List V}
/-- over zip(tuple, tuple), the values plain -/
theorem lc_zipT (f : Nat → V) (hx : SqT K H a xs) (hy : SqT K H b ys) (hl : xs.length = ys.length) (hz : xs.length ≤ 40000) (hta : ∀ R' : List V → Hp → Prop, R' [.ref a, .ref b] H → ta σ H R')
    (step : ∀ (i : Nat) x y H1 (Q' : VK), xs[i]? = some x → ys[i]? = some y → Same H H1 → (∀ H2, Same H1 H2 → Q' (f i) H2) → te (((wipe σ vs).set j (some x)).set l (some y)) H1 Q')
    (done : ∀ D H1, H D = none → Same H H1 → H1 D = some (.lst ((List.range xs.length).map f)) → Q (.ref D) H1) (hw : ∀ x y, wipe (((wipe σ vs).set j (some x)).set l (some y)) vs = wipe σ vs := by intro _ _; rfl) :
    tLc (RZ.iZipA K ta) (gTup K 2 (gCons (gName j) (gCons (gName l) gNil))) tYes te vs σ H Q := by
  refine hta _ ⟨a, b, xs, ys, rfl, .inr ⟨hx, hy, fun D hD => ?_⟩⟩
  refine ⟨fun i m H1 => m = xs.length - i ∧ i ≤ xs.length ∧ Same H H1 ∧ H1 D = some (.lst ((List.range i).map f)), ⟨xs.length, by simp, Nat.zero_le _, same_new hD, upd_same⟩, ?_⟩
  rintro i m H1 ⟨rfl, hi, s1, hL⟩
  have q := s1.sqT hx
  have q2 := s1.sqT hy
  by_cases lt : i < xs.length
  · refine .inr ⟨⟨xs, ys, xs[i], ys[i]'(by omega), q, q2, List.getElem?_eq_getElem lt, List.getElem?_eq_getElem (by omega)⟩, fun H' => Same H H' ∧ H' D = some (.lst ((List.range (i + 1)).map f)), fun H2 p' => ⟨xs.length - (i + 1), by omega, rfl, lt, p'⟩, fun z H2 y => ?_⟩
    obtain ⟨T, x, y, rfl, hT, rfl, ex, ey⟩ := y
    refine r_gTup (SqT.of upd_same) rfl (r_gCons (r_gName (r_gCons (r_gName (r_gNil ⟨hw _ _, ?_⟩)))))
    have s2 := same_new (o := .tup [x, y]) hT
    show te _ _ _
    refine step i x y _ _ (ex xs q) (ey ys q2) (s1.trans s2) fun H3 s3 => ?_
    have hL3 := s3 _ _ (s2 _ _ hL)
    refine ⟨_, hL3, szlt (by rw [List.length_map, List.length_range]; omega), fun b o e => ?_, ?_⟩
    · rw [upd_ne (ne_of_none e hD)]; exact s3 _ _ (s2 _ _ (s1 _ _ e))
    · rw [upd_same, List.range_succ, List.map_append]; rfl
  · have e : i = xs.length := by omega
    subst e
    exact .inl ⟨⟨xs, ys, q, q2, .inl (Nat.le_refl _)⟩, done D H1 hD s1 hL⟩
end
end Wk
end
section
set_option Elab.async false
set_option linter.all false
set_option maxRecDepth 100000
namespace Wk
open PySem PySem.Spec PyProof.Rows L2
/-- o.m(e, .., k = v, ..) -/
def tMethN (C : Addr) (m : PySem.Str) (n mm : Nat) (sp : Sp) (gV : List V → List V → List V) (E : XK) (ta : TE) (t tk : TA) : TE := fun σ H Q => ta σ H fun x H1 => ∃ a dx fs, x = .ref a ∧ H1 a = some (.ins C dx fs) ∧ fs.lookup m = none ∧
  t σ H1 fun vs H2 => tk σ H2 fun zs H3 => vs.length + 1 = n ∧ zs.length = mm ∧ sp (gV (x :: vs) zs) H3 Q E
section
variable {X : Cx} {CX : CXT} {k n : Nat} {C f : Addr} {fd : FuncData} {ps ks : List PySem.Str} {sp : Sp} {E : XK} {m : PySem.Str} {apos pos : Pos} {o e : Expr} {es : List Expr} {kws : List Keyword} {ta : TE} {t tk : TA} {g : List Value → List Value → List Value} {gV : List V → List V → List V}
theorem pe_methN {pl : Sem Bool} (he : PE X o ta) (c : Cls X.K C) (hm : Meth X.K C m f) (F : FnOk X.prog X.w X.K X.mg X.base CX k f fd ps sp) (hr : Room k X.A) (hb : KBn X.K fd ps n ks g gV) (hx : Passes CX X E) (ha : PA X (e :: es) t) (hkw : PK X kws tk)
    (hall : (backToKw pos (keywordEach kws X.env)).all (·.1.isSome) = true := by rfl) (hks : (backToKw pos (keywordEach kws X.env)).filterMap (·.1) = ks := by rfl)
    (hst : starEach (e :: es) X.env = (false, eval e X.env) :: starEach es X.env := by rfl) (hpl : ((backTo pos (starEach (e :: es) X.env)).any (·.1) || (backToKw pos (keywordEach kws X.env)).any (·.1.isNone)) = false := by rfl)
    (ht : eval (.Call (.Attribute o m apos) (e :: es) kws pos) X.env = (do
      let ov ← eval o X.env
      standAt apos.atName
      let (f, first) ← holding [ov] (getMethod ov m pl)
      callWith pos f first (backTo pos (starEach (e :: es) X.env)) (backToKw pos (keywordEach kws X.env))) := by rfl) :
    PE X (.Call (.Attribute o m apos) (e :: es) kws pos) (tMethN C m n ks.length sp gV E ta t tk) := by
  refine ⟨fun pins s σ H Q I h => ?_⟩
  refine PySem.W.methodCall_KW (pl := pl) (thn (he.run pins s σ H _ I h) fun u s1 ⟨x, H1, I1, rx, a, dx, fs, ex, ea, l, q⟩ => ?_) ht
  subst ex
  obtain rfl : u = Value.ref a := rx
  refine getmeth_ok I1 ea c hm l ?_
  refine PySem.W.callWith_KW (first := [.ref a]) (h₀ := X.base) I.ok.mod.kin hm.kp hall (thn (ha.run pos pins s1 σ H1 _ I1 q) fun us s2 ⟨vs, H2, I2, r, q2⟩ => ?_) hpl hst
  refine thn (hkw.run pos pins s2 σ H2 _ I2 q2) fun ws s3 ⟨zs, H3, I3, rz, l1, l2, q3⟩ => ⟨I3.kIn, ?_⟩
  rw [hks]
  exact run_fnN (us := .ref a :: us) (vs := .ref a :: vs) F hr hb hx I3 (.cons rfl r) rz (by rw [List.length_cons]; exact l1) l2 q3
/-- a method that is called with keywords too -/
def KeepN (P : Program) (w : World) (K : PySem.W.Frag) (mg : PySem.Str → Option Value) (base : Heap) (k : Nat) (C : Addr) (x : PySem.Str) (ps : List PySem.Str) (n : Nat) (ks : List PySem.Str) (sp : Sp) : Prop :=
  ∃ f fd, FnOk P w K mg base CX0 k f fd ps sp ∧ Meth K C x f ∧ Binds K fd ps [] ∧ KBn K fd ps n ks (fun us ws => us ++ ws) (fun vs zs => vs ++ zs)
theorem pe_mK {pl : Sem Bool} (he : PE X o ta) (c : Cls X.K C) (M : KeepN X.prog X.w X.K X.mg X.base k C m ps n ks sp) (hr : Room k X.A) (ha : PA X (e :: es) t) (hkw : PK X kws tk)
    (hall : (backToKw pos (keywordEach kws X.env)).all (·.1.isSome) = true := by rfl) (hks : (backToKw pos (keywordEach kws X.env)).filterMap (·.1) = ks := by rfl)
    (hst : starEach (e :: es) X.env = (false, eval e X.env) :: starEach es X.env := by rfl) (hpl : ((backTo pos (starEach (e :: es) X.env)).any (·.1) || (backToKw pos (keywordEach kws X.env)).any (·.1.isNone)) = false := by rfl)
    (ht : eval (.Call (.Attribute o m apos) (e :: es) kws pos) X.env = (do
      let ov ← eval o X.env
      standAt apos.atName
      let (f, first) ← holding [ov] (getMethod ov m pl)
      callWith pos f first (backTo pos (starEach (e :: es) X.env)) (backToKw pos (keywordEach kws X.env))) := by rfl) :
    PE X (.Call (.Attribute o m apos) (e :: es) kws pos) (tMethN C m n ks.length sp (fun vs zs => vs ++ zs) E0 ta t tk) := by
  obtain ⟨f, fd, F, M, _, hb⟩ := M
  exact pe_methN he c M F hr hb pass0 ha hkw hall hks hst hpl ht
theorem r_methN {mm : Nat} {σ : L2.St} {H : Hp} {Q : VK} (h : ta σ H fun x H1 => ∃ a dx fs, x = .ref a ∧ H1 a = some (.ins C dx fs) ∧ fs.lookup m = none ∧ t σ H1 fun vs H2 => tk σ H2 fun zs H3 => vs.length + 1 = n ∧ zs.length = mm ∧ sp (gV (x :: vs) zs) H3 Q E) : tMethN C m n mm sp gV E ta t tk σ H Q := h
end
end Wk
end
section
set_option Elab.async false
set_option linter.all false
set_option maxRecDepth 100000
namespace Wk
open PySem PySem.Spec PyProof.Rows L2
section
variable {X : Cx}
/-- t.index(y), flat items -/
def rIndexT (K : PySem.W.Frag) : V → List V → Hp → VK → Prop := fun x xs H Q => ∃ (a : Addr) (ys : List V) (y : V) (j : Nat) (z : V), x = V.ref a ∧ xs = [y] ∧ SqT K H a ys ∧ flatV y = true ∧ ys.all flatV = true ∧ ys[j]? = some z ∧ eqV z y = true ∧
  (∀ (m : Nat) (z' : V), m < j → ys[m]? = some z' → eqV z' y = false) ∧ Q (.int (j : Nat)) H
theorem m_indexT (K : PySem.W.Frag) (hK : X.K = K := by rfl) : MtR X "tuple.index" (rIndexT K) := by
  subst hK
  intro pins s σ H x xs v us Q I rx rxs h
  obtain ⟨a, ys, y, j, z, rfl, rfl, hs, fy, fys, hz, hzj, hno, q⟩ := h
  cases rx
  obtain ⟨uy, rfl, ry⟩ := vals1 rxs
  obtain ⟨its, rv, pl, hlen⟩ := I.tuple hs
  obtain ⟨⟨cls, dd, dt, sl⟩, ho, hc, n, hd⟩ := pl
  simp only at hc hd
  subst hc
  subst hd
  obtain ⟨u, hu, ru⟩ := rv.get hz
  obtain ⟨hjl, hje⟩ := List.getElem?_eq_some_iff.mp hu
  have hvl := rv.length
  have hj : j < its.toArray.size := by simpa using hjl
  refine call_meets PySem.F.slot_tuple_index ⟨_, ho, rfl⟩ PySem.F.entry_tuple_index (PySem.F.args_tuple_index_2 _ _) (TI.tuple_indexAt a its.toArray n dd sl uy (eqU y) j hj ?_ ?_)
    ⟨ho, fun w hw => mem_eqAt ry fy rv fys w (by simpa using hw), ⟨.int (j : Nat), H, I.tok _, ⟨_, rfl⟩, q⟩⟩
  · have e1 : its.toArray[j] = u := by simpa using hje
    rw [e1, eqU_of ru (flat_at fys hz)]
    exact hzj
  · intro m hm hmj
    have hml : m < its.length := by simpa using hm
    have hmy : m < ys.length := by omega
    have hy' : ys[m]? = some ys[m] := List.getElem?_eq_getElem hmy
    obtain ⟨u2, hu2, ru2⟩ := rv.get hy'
    obtain ⟨_, hme⟩ := List.getElem?_eq_some_iff.mp hu2
    have e1 : its.toArray[m] = u2 := by simpa using hme
    rw [e1, eqU_of ru2 (flat_at fys hy')]
    exact hno m _ hmj hy'
end
end Wk
end
section
set_option Elab.async false
set_option linter.all false
set_option maxRecDepth 100000
namespace Wk
open PySem PySem.Spec PyProof.Rows L2
section
variable {X : Cx} {o e : Expr} {es : List Expr} {to : TE} {t : TA} {name : PySem.Str} {apos cpos : Pos} {id : String} {r : V → List V → Hp → VK → Prop}
/-- t.m(e, ..), t such a tuple -/
def tBMZ (r : V → List V → Hp → VK → Prop) (to : TE) (t : TA) : TE := fun σ H Q => to σ H fun x H1 => (∃ a xs, x = .ref a ∧ SqZ H1 a xs) ∧ t σ H1 fun xs H2 => r x xs H2 Q
theorem r_bmZ {σ : L2.St} {H : Hp} {Q : VK} (h : to σ H fun x H1 => (∃ a xs, x = .ref a ∧ SqZ H1 a xs) ∧ t σ H1 fun xs H2 => r x xs H2 Q) : tBMZ r to t σ H Q := h
theorem e_bmZ (pa : PlainAttrs "tuple") (slot : Slot "tuple" name id) (hty : typeOf (.builtin id) = pure (.type "method_descriptor")) (hm : MtR X id r) (ho : PE X o to) (ha : PA X (e :: es) t)
    (hbase : attributeBase o name X.env (eval o X.env) = eval o X.env := by rfl)
    (hfew : ((backTo cpos (starEach (e :: es) X.env)).all (fun x => !x.1) && (backToKw cpos (keywordEach [] X.env)).all (fun x => x.1.isSome)
      && decide ((e :: es).length + ([] : List Keyword).length + (if ([] : List Keyword).isEmpty then 0 else 1) < 30)) = true := by rfl)
    (hline : (apos.endLine == cpos.line) = true := by rfl) (hs : starEach (e :: es) X.env = (false, eval e X.env) :: starEach es X.env := by rfl) (hplain : (backTo cpos (starEach es X.env)).any (·.1) = false := by rfl) :
    PE X (.Call (.Attribute o name apos) (e :: es) [] cpos) (tBMZ r to t) := by
  refine ⟨fun pins s σ H Q I h => ?_⟩
  refine wpAny_Call_method_late hbase hfew hline rfl (thn (ho.run pins s σ H _ I h) fun v s1 ⟨x, H1, I1, r1, ty, q1⟩ => ?_)
  obtain ⟨a, ys, rfl, ob, ea, hdn, hcl⟩ := ty
  cases r1
  have ho : s1.heap.get? a = some ob := (I1.hok a _ ea).1
  refine ⟨"tuple", id, pa, slot, hty, ⟨ob, ho, hcl⟩, fun b e => ?_, ?_⟩
  · cases e
    exact ⟨ob, ho, hdn⟩
  have hA := ha.run cpos pins s1 σ H1 _ I1 q1
  rw [hs] at hA ⊢
  refine Calls.callWith_builtin (by show (false || (backTo cpos (starEach es X.env)).any (·.1)) = false; rw [hplain] <;> rfl) (Calls.evalArgs_plain ?_)
  exact thn hA fun us s2 ⟨vs, H2, I2, r2, q2⟩ => hm pins s2 σ H2 (.ref a) vs (.ref a) us Q I2 rfl r2 q2
end
end Wk
end
section
set_option Elab.async false
set_option linter.all false
set_option maxRecDepth 100000
/-! what is shown is a text of code points; repr where an error is being handled -/
namespace Wk
open PySem PySem.Spec PyProof.Rows L2
theorem okT_of (s : String) : PyData.strOk (Str.ofString s) = true := by
  rw [Str.ofString_eq_toList]
  unfold PyData.strOk
  rw [List.all_toArray]
  refine List.all_eq_true.mpr fun n hn => ?_
  obtain ⟨c, _, rfl⟩ := List.mem_map.mp hn
  refine decide_eq_true ?_
  have := c.valid
  rcases this with h | ⟨_, h⟩
  · exact Nat.lt_trans h (by decide)
  · exact h
theorem okT_append {a b : Str} (ha : PyData.strOk a = true) (hb : PyData.strOk b = true) : PyData.strOk (a ++ b) = true := by
  show (a.cps ++ b.cps).all _ = true
  rw [Array.all_append]
  exact Bool.and_eq_true_iff.mpr ⟨ha, hb⟩
theorem okT_join {sep : Str} (hs : PyData.strOk sep = true) : ∀ ts : List Str, (∀ t ∈ ts, PyData.strOk t = true) → PyData.strOk (Str.join sep ts) = true
  | [], _ => okT_of ""
  | [x], h => h x List.mem_cons_self
  | x :: y :: r, h => by
    show PyData.strOk (x ++ sep ++ Str.join sep (y :: r)) = true
    exact okT_append (okT_append (h x List.mem_cons_self) hs) (okT_join hs (y :: r) fun t ht => h t (List.mem_cons_of_mem _ ht))
theorem okT_tuple (ts : List Str) (h : ∀ t ∈ ts, PyData.strOk t = true) : PyData.strOk (tupleText ts) = true := by
  unfold tupleText
  exact okT_append (okT_append (okT_of _) (okT_join (okT_of _) ts h)) (okT_of _)
theorem okT_from : ∀ (ts : List Str) (k : Nat) (acc : Str), PyData.strOk acc = true → (∀ t ∈ ts, PyData.strOk t = true) → PyData.strOk (textFrom k acc ts) = true
  | [], _, _, ha, _ => ha
  | t :: r, k, acc, ha, h => okT_from r (k + 1) _ (okT_append (okT_append ha (okT_of _)) (h t List.mem_cons_self)) fun u hu => h u (List.mem_cons_of_mem _ hu)
theorem okT_list (ts : List Str) (h : ∀ t ∈ ts, PyData.strOk t = true) : PyData.strOk (listText ts) = true := by
  unfold listText
  exact okT_append (okT_from ts 0 _ (okT_of _) h) (okT_of _)
mutual
/-- its texts are shown as texts of code points -/
def okS : PyData → Bool
  | .none | .bool _ | .int _ => true
  | .str x => PyData.strOk (reprText x)
  | .list xs | .tuple xs => okSA xs
  | .dict _ => false
def okSA : List PyData → Bool
  | [] => true
  | x :: xs => okS x && okSA xs
end
mutual
theorem okT_shown : ∀ d : PyData, okS d = true → PyData.strOk d.shown = true
  | .none, _ => okT_of _
  | .bool b, _ => by cases b <;> (simp only [PyData.shown]; exact okT_of _)
  | .int i, _ => okT_of _
  | .str x, h => by simp only [PyData.shown]; simpa only [okS] using h
  | .list xs, h => by
    simp only [PyData.shown]
    exact okT_list _ (okT_all xs (by simpa only [okS] using h))
  | .tuple xs, h => by
    simp only [PyData.shown]
    exact okT_tuple _ (okT_all xs (by simpa only [okS] using h))
  | .dict _, h => by simp [okS] at h
theorem okT_all : ∀ xs : List PyData, okSA xs = true → ∀ t ∈ PyData.shownAll xs, PyData.strOk t = true
  | [], _ => fun t ht => by simp [PyData.shownAll] at ht
  | x :: xs, h => fun t ht => by
    simp only [okSA, Bool.and_eq_true] at h
    simp only [PyData.shownAll, List.mem_cons] at ht
    rcases ht with rfl | ht
    · exact okT_shown x h.1
    · exact okT_all xs h.2 t ht
end
theorem c_reprU (K : PySem.W.Frag) {X : Cx} (hu : X.A.units + 65 < cLine) (hg : X.A.guards = some []) (hK : X.K = K := by rfl) : CallR X (.builtin "repr") (rRepr K) := by
  subst hK
  intro pins s σ H xs us Q I r h
  obtain ⟨x, d, rfl, hd, hs, hn, hdep, hsz, q⟩ := h
  obtain ⟨u, rfl, rx⟩ := vals1 r
  have seq : ∀ (a : Addr) as, Reads s.heap (.ref a) d as → wpAny (model X.prog X.w) X.A (call (.builtin "repr") [.ref a]) (EP X pins σ Q) X.xe s := fun a as rd =>
    repr_of_reads' rd hs (PyData.noDict_hsm hn) hg (by omega) (fun _ _ e => e) (fun h' u tk kp => ⟨.str d.shown, H, I.kept (t' := tk) kp, ⟨_, rfl⟩, q⟩) hsz
  obtain ⟨as, rd⟩ := Dp.reads I d x u hd rx
  cases hd with
  | non =>
    simp only [PyData.shown] at q
    cases rx
    exact PySem.P.repr_of_none ⟨.str _, H, I.tok _, ⟨_, rfl⟩, q⟩
  | bl b =>
    simp only [PyData.shown] at q
    cases rx
    exact PySem.P.repr_of_bool ⟨.str _, H, I.tok _, ⟨_, rfl⟩, by cases b <;> exact q⟩
  | int i =>
    simp only [PyData.shown] at q
    obtain ⟨t, rfl⟩ := rx
    exact PySem.P.repr_of_int (by simpa [PyData.showable] using hs) ⟨.str _, H, I.tok _, ⟨_, rfl⟩, q⟩
  | str z =>
    simp only [PyData.shown] at q hsz
    obtain ⟨t, rfl⟩ := rx
    exact PySem.P.repr_of_str ⟨.str _, H, I.tok _, ⟨_, rfl⟩, q⟩ hsz
  | lst hq ha => cases rx; exact seq _ as rd
  | tup hq ha => cases rx; exact seq _ as rd
end Wk
end
section
set_option Elab.async false
set_option linter.all false
set_option maxRecDepth 100000
/-! errors over the room with nothing being shown: they are made, go out, are caught; what is asked of a caught one -/
namespace Wk
open PySem PySem.Spec PyProof.Rows L2
section
variable {X : Cx} {CX : CXT} {k n : Nat} {C f : Addr} {fd : FuncData} {ps ks : List PySem.Str} {sp : Sp} {E : L2.St → XK} {m : PySem.Str} {apos pos : Pos} {o e : Expr} {es : List Expr} {kws : List Keyword} {ta : TE} {t tk : TA} {g : List Value → List Value → List Value} {gV : List V → List V → List V} {W : WX}
theorem run_fnNS {pins : List (Addr × Obj)} {σ : L2.St} {H : Hp} {s : Shared} {Q : VK} {us ws : List Value} {vs zs : List V} {E : XK} (F : FnOk X.prog X.w X.K X.mg X.base CX k f fd ps sp) (hr : Room k X.A) (hb : KBn X.K fd ps n ks g gV) (hx : PassesAt CX X σ E)
    (I : Inv X pins σ H s) (r : Vals vs us) (rz : Vals zs ws) (l1 : vs.length = n) (l2 : zs.length = ks.length) (h : sp (gV vs zs) H Q E) : wpAny (model X.prog X.w) X.A (call (.ref f) us (ks.zip ws)) (EP X pins σ Q) X.xe s := by
  have r2 := hb.rel r rz
  refine wpAny_call (codeAny_mono (F.run X.A X.stack s H ⟨us, ks.zip ws⟩ (g us ws) (gV vs zs) Q E hr I.env0 (hb.to s us ws I.kIn (r.length.symm.trans l1) (rz.length.symm.trans l2)) r2 h) fun r s' hq => ?_)
  cases r with
  | error e => exact hx pins H s e s' I hq
  | ok fl =>
    cases fl with
    | ret u => exact I.after hq
    | next => exact False.elim hq
    | brk => exact False.elim hq
    | cont => exact False.elim hq
/-- a method that keeps sp and may raise -/
def KeepMX (P : Program) (w : World) (K : PySem.W.Frag) (mg : PySem.Str → Option Value) (base : Heap) (k : Nat) (C : Addr) (x : PySem.Str) (ps : List PySem.Str) (sp : Sp) : Prop :=
  ∃ f fd, FnOk P w K mg base (L2.CX P w) k f fd ps sp ∧ Meth K C x f ∧ Binds K fd ps []
/-- the same, with keywords -/
def KeepNX (P : Program) (w : World) (K : PySem.W.Frag) (mg : PySem.Str → Option Value) (base : Heap) (k : Nat) (C : Addr) (x : PySem.Str) (ps : List PySem.Str) (n : Nat) (ks : List PySem.Str) (sp : Sp) : Prop :=
  ∃ f fd, FnOk P w K mg base (L2.CX P w) k f fd ps sp ∧ Meth K C x f ∧ KBn K fd ps n ks (fun us ws => us ++ ws) (fun vs zs => vs ++ zs)
def tMethX (C : Addr) (m : PySem.Str) (sp : Sp) (E : L2.St → XK) (ta : TE) (t : TA) : TE := fun σ H Q => ta σ H fun x H1 => ∃ a dx fs, x = .ref a ∧ H1 a = some (.ins C dx fs) ∧ fs.lookup m = none ∧ t σ H1 fun vs H2 => sp (x :: vs) H2 Q (E σ)
theorem r_methX {σ : L2.St} {H : Hp} {Q : VK} (h : ta σ H fun x H1 => ∃ a dx fs, x = .ref a ∧ H1 a = some (.ins C dx fs) ∧ fs.lookup m = none ∧ t σ H1 fun vs H2 => sp (x :: vs) H2 Q (E σ)) : tMethX C m sp E ta t σ H Q := h
theorem pe_mX {pl : Sem Bool} (he : PE X o ta) (c : Cls X.K C) (M : KeepMX X.prog X.w X.K X.mg X.base k C m ps sp) (hr : Room k X.A) (tkk : Takes X W) (ha : PA X (e :: es) t)
    (hst : starEach (e :: es) X.env = (false, eval e X.env) :: starEach es X.env := by rfl) (hpl : (backTo pos (starEach es X.env)).any (·.1) = false := by rfl)
    (ht : eval (.Call (.Attribute o m apos) (e :: es) [] pos) X.env = (do
      let ov ← eval o X.env
      standAt apos.atName
      let (f, first) ← holding [ov] (getMethod ov m pl)
      callWith pos f first (backTo pos (starEach (e :: es) X.env)) (backToKw pos (keywordEach [] X.env))) := by rfl) :
    PE X (.Call (.Attribute o m apos) (e :: es) [] pos) (tMethX C m sp (WE W) ta t) := by
  obtain ⟨f, fd, F, M, hb⟩ := M
  refine ⟨fun pins s σ H Q I h => ?_⟩
  refine PySem.W.methodCall_KW (pl := pl) (thn (he.run pins s σ H _ I h) fun u s1 ⟨x, H1, I1, rx, a, dx, fs, ex, ea, l, q⟩ => ?_) ht
  subst ex
  obtain rfl : u = Value.ref a := rx
  refine getmeth_ok I1 ea c M l ?_
  refine PySem.W.callWith_K (first := [.ref a]) (h₀ := X.base) I.ok.mod.kin M.kp (thn (ha.run pos pins s1 σ H1 _ I1 q) fun us s2 ⟨vs, H2, I2, r, q2⟩ => ⟨I2.kIn, ?_⟩) hst hpl
  exact run_fnS (us := .ref a :: us) (vs := .ref a :: vs) F hr hb (passAt tkk σ) I2 (.cons rfl r) q2
def tMethNX (C : Addr) (m : PySem.Str) (n mm : Nat) (sp : Sp) (E : L2.St → XK) (ta : TE) (t tk : TA) : TE := fun σ H Q => ta σ H fun x H1 => ∃ a dx fs, x = .ref a ∧ H1 a = some (.ins C dx fs) ∧ fs.lookup m = none ∧
  t σ H1 fun vs H2 => tk σ H2 fun zs H3 => vs.length + 1 = n ∧ zs.length = mm ∧ sp (x :: vs ++ zs) H3 Q (E σ)
theorem r_methNX {mm : Nat} {σ : L2.St} {H : Hp} {Q : VK} (h : ta σ H fun x H1 => ∃ a dx fs, x = .ref a ∧ H1 a = some (.ins C dx fs) ∧ fs.lookup m = none ∧ t σ H1 fun vs H2 => tk σ H2 fun zs H3 => vs.length + 1 = n ∧ zs.length = mm ∧ sp (x :: vs ++ zs) H3 Q (E σ)) : tMethNX C m n mm sp E ta t tk σ H Q := h
theorem pe_mKX {pl : Sem Bool} (he : PE X o ta) (c : Cls X.K C) (M : KeepNX X.prog X.w X.K X.mg X.base k C m ps n ks sp) (hr : Room k X.A) (tkk : Takes X W) (ha : PA X (e :: es) t) (hkw : PK X kws tk)
    (hall : (backToKw pos (keywordEach kws X.env)).all (·.1.isSome) = true := by rfl) (hks : (backToKw pos (keywordEach kws X.env)).filterMap (·.1) = ks := by rfl)
    (hst : starEach (e :: es) X.env = (false, eval e X.env) :: starEach es X.env := by rfl) (hpl : ((backTo pos (starEach (e :: es) X.env)).any (·.1) || (backToKw pos (keywordEach kws X.env)).any (·.1.isNone)) = false := by rfl)
    (ht : eval (.Call (.Attribute o m apos) (e :: es) kws pos) X.env = (do
      let ov ← eval o X.env
      standAt apos.atName
      let (f, first) ← holding [ov] (getMethod ov m pl)
      callWith pos f first (backTo pos (starEach (e :: es) X.env)) (backToKw pos (keywordEach kws X.env))) := by rfl) :
    PE X (.Call (.Attribute o m apos) (e :: es) kws pos) (tMethNX C m n ks.length sp (WE W) ta t tk) := by
  obtain ⟨f, fd, F, M, hb⟩ := M
  refine ⟨fun pins s σ H Q I h => ?_⟩
  refine PySem.W.methodCall_KW (pl := pl) (thn (he.run pins s σ H _ I h) fun u s1 ⟨x, H1, I1, rx, a, dx, fs, ex, ea, l, q⟩ => ?_) ht
  subst ex
  obtain rfl : u = Value.ref a := rx
  refine getmeth_ok I1 ea c M l ?_
  refine PySem.W.callWith_KW (first := [.ref a]) (h₀ := X.base) I.ok.mod.kin M.kp hall (thn (ha.run pos pins s1 σ H1 _ I1 q) fun us s2 ⟨vs, H2, I2, r, q2⟩ => ?_) hpl hst
  refine thn (hkw.run pos pins s2 σ H2 _ I2 q2) fun ws s3 ⟨zs, H3, I3, rz, l1, l2, q3⟩ => ⟨I3.kIn, ?_⟩
  rw [hks]
  exact run_fnNS (us := .ref a :: us) (vs := .ref a :: vs) F hr hb (passAt tkk σ) I3 (.cons rfl r) rz (by rw [List.length_cons]; exact l1) l2 q3
end
/-- what is asked of the class of a caught error -/
structure XcC (K : PySem.W.Frag) (C : Addr) : Prop where
  ga : PySem.W.findIn K (.ref C) "__getattribute__" = some (some (.builtin "BaseException.__getattribute__"))
  gg : PySem.W.findIn K (.ref C) "__getattr__" = some none
  exC : PySem.W.subIn K (.ref C) (.type "BaseException") = some true
  hdC : PySem.W.hasDictIn K C = true
  ha : PySem.W.findIn K (.ref C) "__class__" = some (some (.builtin "object.__class__"))
  hn : PySem.W.specialIn K (.builtin "object.__class__") "__get__" = some (some (.builtin "getset_descriptor.__get__"))
  ht : PySem.W.takesIn K (.builtin "object.__class__") = some true
  hm : PySem.W.mroIn K C (.type "object") = some true
theorem XcC.cl {K : PySem.W.Frag} {C : Addr} (T : XcC K C) : (PySem.W.clsIn K C).isSome = true := by
  obtain ⟨cd, hc, _⟩ := PySem.W.any_some T.hdC
  rw [hc]
  rfl
/-- err.f, err the error that the suite holds -/
def tXfA (K : PySem.W.Frag) (a : Addr) (cls : Value) (d : Option Addr) (f : PySem.Str) (te : TE) : TE := fun σ H Q => te σ H fun x H1 => x = .ref a ∧ ∃ (C dd : Addr) (fs : List (PySem.Str × V)) (v : V), cls = .ref C ∧ d = some dd ∧ XcC K C ∧ PySem.W.findIn K (.ref C) f = some none ∧ H1 dd = some (.xd fs) ∧ fs.lookup f = some v ∧ Q v H1
theorem r_xfA {K : PySem.W.Frag} {a : Addr} {cls : Value} {d : Option Addr} {f : PySem.Str} {te : TE} {σ : L2.St} {H : Hp} {Q : VK} (h : te σ H fun x H1 => x = .ref a ∧ ∃ (C dd : Addr) (fs : List (PySem.Str × V)) (v : V), cls = .ref C ∧ d = some dd ∧ XcC K C ∧ PySem.W.findIn K (.ref C) f = some none ∧ H1 dd = some (.xd fs) ∧ fs.lookup f = some v ∧ Q v H1) : tXfA K a cls d f te σ H Q := h
theorem pe_xfA {X : Cx} {a : Addr} {oe : Obj} {cls : Value} {d : Option Addr} {pn : List (Addr × Obj)} {e : Expr} {te : TE} {pos : Pos} {n : PySem.Str}
    (hz : Zc cls d oe) (hf : ∃ vs, oe.data = .fields vs) (he : PE (X.suite a ((a, oe) :: pn)) e te) (hb : attributeBase e n X.env (eval e X.env) = eval e X.env := by rfl) :
    PE (X.suite a ((a, oe) :: pn)) (.Attribute e n pos) (tXfA X.K a cls d n te) := by
  refine ⟨fun pins s σ H Q I h => ?_⟩
  refine attr_of hb (thn (he.run pins s σ H _ I h) fun u s1 hh => ?_)
  obtain ⟨x, H1, I1, rx, ex, C, dd, fs, v, ec, ed, T, hno, ea, l, q⟩ := hh
  subst ex
  obtain rfl : u = Value.ref a := rx
  subst ec
  subst ed
  obtain ⟨ha, _⟩ := I1.pin (a, oe) (List.mem_append_left _ List.mem_cons_self)
  obtain ⟨vs, hd⟩ := hf
  have hx : ObjOk X.prog X.w H1 s1.heap dd (.xd fs) := I1.hok dd _ ea
  obtain ⟨mA, hns, hr⟩ := hx
  obtain ⟨od, ho, hl⟩ := lookIn_ns hns
  obtain ⟨u, hu, ru⟩ := RelO.some_of (v := v) (o := mA n) (by rw [← l]; exact hr n)
  have J : PySem.W.InstAt s1.heap a oe C (some od) := ⟨ha, hz.1, by unfold PySem.W.notCls; rw [hd] <;> rfl, by rw [hz.2]; exact ho⟩
  exact HandSPX.exc_get I1.kIn J T.ga T.gg T.exC (PySem.W.findObj_own T.hdC hno rfl (by rw [hl, hu])) (handed_of ru) ⟨v, H1, I1.tok _, ru, q⟩
/-- isinstance(err, c) | isinstance(err, (c, ..)) -/
def rIsX (K : PySem.W.Frag) (cls : Value) (d : Option Addr) (a : Addr) : List V → Hp → VK → Prop := fun xs H Q => ∃ (C dd : Addr) (fs : List (PySem.Str × V)) (b : Bool) (y : V), cls = .ref C ∧ d = some dd ∧ XcC K C ∧ H dd = some (.xd fs) ∧ xs = [.ref a, y] ∧
  ((∃ u, ClsV y u ∧ PySem.W.kitOne K (.ref C) u = some b) ∨ ∃ (tp : Addr) (cs : List V) (us : List Value), y = .ref tp ∧ H tp = some (.tup cs) ∧ Paired ClsV cs us ∧ PySem.W.kitAny K (.ref C) us = some b) ∧ Q (.bl b) H
theorem call_isX {X : Cx} {a : Addr} {oe : Obj} {cls : Value} {d : Option Addr} {pn : List (Addr × Obj)} (hz : Zc cls d oe) (hf : ∃ vs, oe.data = .fields vs) : CallR (X.suite a ((a, oe) :: pn)) (.builtin "isinstance") (rIsX X.K cls d a) := by
  intro pins s σ H xs us Q I r h
  obtain ⟨C, dd, fs, b, y, ec, ed, T, ea, rfl, e, q⟩ := h
  subst ec
  subst ed
  obtain ⟨u1, u2, rfl, r1, r2⟩ := vals2 r
  obtain rfl : u1 = Value.ref a := r1
  obtain ⟨ha, _⟩ := I.pin (a, oe) (List.mem_append_left _ List.mem_cons_self)
  obtain ⟨vs, hd⟩ := hf
  have hx : ObjOk X.prog X.w H s.heap dd (.xd fs) := I.hok dd _ ea
  obtain ⟨mA, hns, hr⟩ := hx
  obtain ⟨od, ho, hl⟩ := lookIn_ns hns
  have J : PySem.W.InstAt s.heap a oe C (some od) := ⟨ha, hz.1, by unfold PySem.W.notCls; rw [hd] <;> rfl, by rw [hz.2]; exact ho⟩
  have Z : PySem.W.KitX X.K (.ref a) (.ref C) (fun h => PySem.W.InstAt h a oe C (some od)) := PySem.W.kitx_exc T.cl T.ga T.gg T.exC T.ha T.hn T.ht T.hm
  rcases e with ⟨u, k, e⟩ | ⟨tp, cs, ws, rfl, hT, k, e⟩
  · have e2 := k.eq r2
    subst e2
    exact PySem.W.kia_one Z I.kIn J e (fun z => nomatch z) fun tk => ⟨.bl b, H, I.tok tk, rfl, q⟩
  · cases (show u2 = Value.ref tp from r2)
    obtain ⟨_, its, rv, o, h1, h2, n, h3⟩ := (show ObjOk X.prog X.w H s.heap tp (.tup cs) from I.hok tp _ hT)
    have e3 := ClsV.all k rv
    subst e3
    obtain ⟨oc, od, dt, sl⟩ := o
    simp only at h2 h3
    subst h2 h3
    exact PySem.W.kia_tup Z I.kIn J h1 e (fun z => nomatch z) fun tk => ⟨.bl b, H, I.tok tk, rfl, q⟩
section
variable {H : Hp} {a d : Addr} {o1 o2 o3 o4 : HO}
/-- what is left of the heap when an error has been made: its dict -/
theorem made_heap (ha : H a = none) (ne : d ≠ a) : upd (del (upd (upd (upd H a o1) d o2) a o3) a) d o4 = upd H d o4 := by
  funext b
  by_cases c : b = d
  · subst c
    rw [upd_same, upd_same]
  · rw [upd_ne c, upd_ne c]
    by_cases c2 : b = a
    · subst c2
      rw [del_same, ha]
    · rw [del_ne c2, upd_ne c2, upd_ne c, upd_ne c2]
end
section
variable {X : Cx} {C : Addr} {x : PySem.Str} {ps : List PySem.Str} {sp : Sp} {e : Expr} {es : List Expr} {ta : TA} {p pos : Pos}
/-- an own error class whose __init__ keeps sp -/
def ErrF (P : Program) (w : World) (K : PySem.W.Frag) (mg : PySem.Str → Option Value) (base : Heap) (C : Addr) (ps : List PySem.Str) (sp : Sp) : Prop :=
  ∃ fI fd, OexC K C ∧ PySem.W.findIn K (.ref C) "__init__" = some (some (.ref fI)) ∧ PySem.W.typeIn K (.ref fI) = some (.type "function") ∧ FnOk P w K mg base CX0 1 fI fd ps sp ∧ Binds K fd ps []
theorem r_mkO {dvs : List V} {σ : L2.St} {H : Hp} {Q : XK} (h : ta σ H fun vs H1 => vs.length ≤ 1000 ∧ ∀ a, H1 a = none → sp (.ref a :: (vs ++ dvs)) (upd H1 a (exo a C none))
  (fun v H2 => v = .non ∧ ∃ (d : Addr) (fs : List (Str × V)), H2 a = some (exo a C (some d)) ∧ H2 d = some (exd d fs) ∧ H1 d = none ∧ Q (.ref C) (some d) (upd (del H2 a) d (.xd fs))) (fun _ _ _ => False)) : tMkO C sp dvs ta σ H Q := h
theorem pmk_err (N : ErrF X.prog X.w X.K X.mg X.base C ps sp) (hr : Room 2 X.A) (hg : Gl X x) (hm : X.mg x = some (.ref C)) (ha : PA X (e :: es) ta) (hdb : (x == ("__debug__" : PySem.Str)) = false := by decide)
    (he : starEach (e :: es) X.env = (false, eval e X.env) :: starEach es X.env := by rfl) (hpl : (backTo pos (starEach es X.env)).any (·.1) = false := by rfl) : PMk X (.Call (.Name x p) (e :: es) [] pos) (tMkO C sp [] ta) := by
  obtain ⟨fI, fd, T, iC, tI, F, hb⟩ := N
  exact pmk_oex T iC tI F hr hb .nil pass0 hg hm ha hdb he hpl
end
section
variable {P : Program} {w : World} {K : PySem.W.Frag} {mg : Str → Option Value} {base : Heap}
/-- x keeps sp, and may raise -/
def KeepX (P : Program) (w : World) (K : PySem.W.Frag) (mg : Str → Option Value) (base : Heap) (k : Nat) (x : Str) (ps : List Str) (sp : Sp) : Prop :=
  ∃ f fd, FnOk P w K mg base (L2.CX P w) k f fd ps sp ∧ mg x = some (.ref f) ∧ PySem.W.keepIn K (.ref f) = true ∧ Binds K fd ps []
theorem KeepX.of {x : Str} {st : Stmt} {N ps : List Str} {k : Nat} {sp : Sp} (a : At K mg x st ps) (S : FnScope N ps (defScope st)) (len : ∀ vs H Q E, sp vs H Q E → vs.length = ps.length)
    (hbody : ∀ (f : Addr) (cdv : Value) (A : Around) (outer : List Env) (s : Shared) (H : Hp) (vs : List V) (Q : VK) (E : XK), Room k (A.deeper (envOfC x (defScope st) s.heap.objs.size f cdv)) → sp vs H Q E →
      ∃ t, PSs (cxOf (L2.CX P w) P w K mg base N x (defScope st) f cdv A outer s H E) (defBody st) t ∧ t { nx := fun _ H' => Q .non H', rt := Q } (start N vs) H) : KeepX P w K mg base (k + 1) x ps sp := by
  obtain ⟨f, fd, F, g, b⟩ := a
  exact ⟨f, fd, F.okXG S len (fun cdv A outer s H vs Q E hr h => hbody f cdv A outer s H vs Q E hr h), g, F.kp, b⟩
/-- InvalidNumber(v) goes out -/
def OutV (CI : Addr) (H : Hp) (v : V) (E : XK) : Prop := ∀ d, H d = none → E (.ref CI) (some d) (upd H d (.xd [("value", v)]))
/-- the __init__ of an error with one field f -/
def spOexI (C : Addr) (f : Str) : Sp := fun vs H Q _ => ∃ (a : Addr) (v : V), vs = [.ref a, v] ∧ H a = some (exo a C none) ∧ ∀ dx, H dx = none → dx ≠ a → Q .non (upd (upd H dx (exd dx [(f, v)])) a (exo a C (some dx)))
theorem fnOk_or {CX : CXT} {k : Nat} {f : Addr} {fd : FuncData} {ps : List Str} {sp sp' : Sp} (F : FnOk P w K mg base CX k f fd ps sp) (F' : FnOk P w K mg base CX k f fd ps sp') : FnOk P w K mg base CX k f fd ps (fun vs H Q E => sp vs H Q E ∨ sp' vs H Q E) :=
  ⟨fun vs H Q E h => h.elim (F.len vs H Q E) (F'.len vs H Q E), fun A outer s H args us vs Q E hr e0 hb r h => h.elim (F.run A outer s H args us vs Q E hr e0 hb r) (F'.run A outer s H args us vs Q E hr e0 hb r)⟩
/-- an error of the class at S is what «except S» names -/
theorem exm_self {S : Addr} (h1 : PySem.W.subIn K (.ref S) (.type "BaseException") = some true) (h2 : PySem.W.isClsIn K S = true) (h3 : PySem.W.typeIn K (.ref S) = some (.type "type")) (h4 : PySem.W.subIn K (.ref S) (.ref S) = some true) :
    PySem.W.exmOne K (.ref S) (.ref S) = some true := by
  have e1 : (PySem.W.subIn K (.ref S) (.type "BaseException") == some true) = true := by rw [h1] <;> rfl
  have e2 : ((PySem.W.clsIn K S).isSome && PySem.W.typeIn K (.ref S) == some (.type "type")) = true := by
    have h2' : (PySem.W.clsIn K S).isSome = true := h2
    rw [h2', h3] <;> rfl
  show (if (PySem.W.subIn K (.ref S) (.type "BaseException") == some true) = true then (if ((PySem.W.clsIn K S).isSome && PySem.W.typeIn K (.ref S) == some (.type "type")) = true then PySem.W.subIn K (.ref S) (.ref S) else none) else none) = some true
  rw [if_pos e1, if_pos e2]
  exact h4
theorem kit_no {A B : Addr} (h0 : PySem.W.subIn K (.ref A) (.ref A) = some true) (h : PySem.W.subIn K (.ref A) (.ref B) = some false) (kc : PySem.W.isClsIn K B = true) (kt : PySem.W.typeIn K (.ref B) = some (.type "type")) : PySem.W.kitOne K (.ref A) (.ref B) = some false := by
  have ne : (Value.ref A == Value.ref B) = false := by
    refine beq_eq_false_iff_ne.mpr fun q => ?_
    cases q
    rw [h0] at h
    cases h
  have e : ((PySem.W.clsIn K B).isSome && PySem.W.typeIn K (.ref B) == some (.type "type")) = true := by
    rw [show (PySem.W.clsIn K B).isSome = true from kc, kt] <;> rfl
  unfold PySem.W.kitOne
  rw [ne, if_neg Bool.false_ne_true]
  show (if ((PySem.W.clsIn K B).isSome && PySem.W.typeIn K (.ref B) == some (.type "type")) = true then PySem.W.subIn K (.ref A) (.ref B) else none) = some false
  rw [if_pos e, h]
theorem kit_yes {A B : Addr} (h : PySem.W.subIn K (.ref A) (.ref B) = some true) (kc : PySem.W.isClsIn K B = true) (kt : PySem.W.typeIn K (.ref B) = some (.type "type")) : PySem.W.kitOne K (.ref A) (.ref B) = some true := by
  have e : ((PySem.W.clsIn K B).isSome && PySem.W.typeIn K (.ref B) == some (.type "type")) = true := by
    rw [show (PySem.W.clsIn K B).isSome = true from kc, kt] <;> rfl
  unfold PySem.W.kitOne
  by_cases c : (Value.ref A == Value.ref B) = true
  · rw [if_pos c]
  · rw [if_neg c]
    show (if ((PySem.W.clsIn K B).isSome && PySem.W.typeIn K (.ref B) == some (.type "type")) = true then PySem.W.subIn K (.ref A) (.ref B) else none) = some true
    rw [if_pos e, h]
theorem kit_tyR {A : Addr} {T : String} {b : Bool} (m : PySem.W.kitMeta T = true) (h : PySem.W.subIn K (.ref A) (.type T) = some b) : PySem.W.kitOne K (.ref A) (.type T) = some b := by
  unfold PySem.W.kitOne
  rw [show (Value.ref A == Value.type T) = false from rfl, if_neg Bool.false_ne_true]
  show (if PySem.W.kitMeta T = true then PySem.W.subIn K (.ref A) (.type T) else none) = some b
  rw [if_pos m, h]
end
section
variable {K : PySem.W.Frag} {H H' : Hp}
theorem _root_.L2.Same.sqL {K : PySem.W.Frag} {H H' : Hp} {a : Addr} {xs : List V} (e : Same H H') (h : SqL K H a xs) : SqL K H' a xs := e.seq h
theorem dp_mono (s : Same H H') {v : V} {d : PyData} (h : Dp K H v d) : Dp K H' v d :=
  Dp.rec (motive_1 := fun v d _ => Dp K H' v d) (motive_2 := fun vs ds _ => DpAll K H' vs ds) .non (fun b => .bl b) (fun i => .int i) (fun x => .str x)
    (fun h _ ih => .lst (s.seq h) ih) (fun h _ ih => .tup (s.sqT h) ih) .nil (fun _ _ a b => .cons a b) h
theorem lookup_one {f : PySem.Str} {v : V} : List.lookup f [(f, v)] = some v := by simp [List.lookup]
/-- data that equals itself -/
def DatV (K : PySem.W.Frag) (H : Hp) (v : V) : Prop := ∃ d, Dp K H v d ∧ SeqAt.shaped d = true ∧ PyData.eqv d d = true
theorem DatV.mono {v : V} (s : Same H H') (h : DatV K H v) : DatV K H' v := let ⟨d, a, b⟩ := h; ⟨d, dp_mono s a, b⟩
theorem datV_int (i : Int) : DatV K H (.int i) := ⟨_, .int i, by simp [SeqAt.shaped, PyData.canLay0, PyData.depth], by simp [PyData.eqv]⟩
theorem datV_bl (b : Bool) : DatV K H (.bl b) := ⟨_, .bl b, by cases b <;> decide, by simp [PyData.eqv]⟩
theorem datV_non : DatV K H .non := ⟨_, .non, by decide, by simp [PyData.eqv]⟩
theorem datV_str {H : Hp} (x : PySem.Str) (h : PyData.strOk x = true) : DatV K H (.str x) := ⟨_, .str x, by simp [SeqAt.shaped, PyData.canLay0, PyData.depth, h], by simp [PyData.eqv]⟩
end
section
variable {X : Cx} {W : WX} {k n : Nat} {x : PySem.Str} {ps ks : List PySem.Str} {sp : Sp} {e : Expr} {es : List Expr} {t tk : TA} {p pos : Pos} {kws : List Keyword}
/-- a call of a def that may raise -/
theorem pe_kX (M : KeepX X.prog X.w X.K X.mg X.base k x ps sp) (hr : Room k X.A) (hg : Gl X x) (tk : Takes X W) (ha : PA X (e :: es) t) (hdb : (x == ("__debug__" : PySem.Str)) = false := by decide)
    (he : starEach (e :: es) X.env = (false, eval e X.env) :: starEach es X.env := by rfl) (hpl : (backTo pos (starEach es X.env)).any (·.1) = false := by rfl) : PE X (.Call (.Name x p) (e :: es) [] pos) (tCallS sp (WE W) t) := by
  obtain ⟨f, fd, F, g, kp, b⟩ := M
  exact pe_callS F hr hg g kp b (fun σ => passAt tk σ) ha hdb he hpl
theorem r_callS {E : L2.St → XK} {σ : L2.St} {H : Hp} {Q : VK} (h : t σ H fun vs H1 => sp vs H1 Q (E σ)) : tCallS sp E t σ H Q := h
/-- x keeps sp, may raise, and takes the keywords ks behind n values -/
def KeepKX (P : Program) (w : World) (K : PySem.W.Frag) (mg : PySem.Str → Option Value) (base : Heap) (k : Nat) (x : PySem.Str) (ps : List PySem.Str) (n : Nat) (ks : List PySem.Str) (sp : Sp) : Prop :=
  ∃ f fd, FnOk P w K mg base (L2.CX P w) k f fd ps sp ∧ mg x = some (.ref f) ∧ PySem.W.keepIn K (.ref f) = true ∧ KBn K fd ps n ks (fun us ws => us ++ ws) (fun vs zs => vs ++ zs)
def tCallK0 (m : Nat) (sp : Sp) (E : L2.St → XK) (tk : TA) : TE := fun σ H Q => tk σ H fun zs H3 => zs.length = m ∧ sp zs H3 Q (E σ)
theorem pe_kXK0 (G : KeepKX X.prog X.w X.K X.mg X.base k x ps 0 ks sp) (hr : Room k X.A) (hg : Gl X x) (tkk : Takes X W) (hkw : PK X kws tk) (hall : (backToKw pos (keywordEach kws X.env)).all (·.1.isSome) = true := by rfl) (hks : (backToKw pos (keywordEach kws X.env)).filterMap (·.1) = ks := by rfl)
    (hdb : (x == ("__debug__" : PySem.Str)) = false := by decide)
    (hpl : ((backTo pos (starEach [] X.env)).any (·.1) || (backToKw pos (keywordEach kws X.env)).any (·.1.isNone)) = false := by rfl) :
    PE X (.Call (.Name x p) [] kws pos) (tCallK0 ks.length sp (WE W) tk) := by
  obtain ⟨f, fd, F, g, kp, b⟩ := G
  refine ⟨fun pins s σ H Q I h => ?_⟩
  refine wpAny_Call_Name_kw (ld_glob I hg g ?_ hdb)
  refine PySem.W.callWith_KW0 (h₀ := X.base) I.ok.mod.kin kp hall ?_ hpl
  refine thn (hkw.run pos pins s σ H _ I h) fun ws s2 ⟨zs, H2, I2, rz, l2, q2⟩ => ⟨I2.kIn, ?_⟩
  rw [hks]
  exact run_fnNS (us := []) (vs := []) F hr b (passAt tkk σ) I2 .nil rz rfl l2 q2
theorem KeepKX.of {P : Program} {w : World} {K : PySem.W.Frag} {mg : PySem.Str → Option Value} {base : Heap} {f : Addr} {fd : FuncData} (F : FnOk P w K mg base (L2.CX P w) k f fd ps sp) (g : mg x = some (.ref f)) (kp : PySem.W.keepIn K (.ref f) = true) (b : KBn K fd ps n ks (fun us ws => us ++ ws) (fun vs zs => vs ++ zs)) : KeepKX P w K mg base k x ps n ks sp := ⟨f, fd, F, g, kp, b⟩
end
end Wk
end
section
set_option Elab.async false
set_option linter.all false
set_option maxRecDepth 100000
/-! a tuple times a number from 0 on -/
namespace Wk
open PySem PySem.Spec PyProof.Rows L2
theorem tuple_mul0 (l : Addr) (items : Array Value) (n : Nat) (dd : Option Addr) (sl : Array (Option Value)) (u : Tok) (c1 : items.isEmpty = false) :
    Meets (Builtin.«tuple.__mul__» ⟨[.ref l, .int 0 u], []⟩) (fun _ R s => s.heap.get? l = some { cls := .type "tuple", dict := dd, data := .seq items n, slots := sl } ∧
      R (.ok (.ret (Value.ref s.heap.objs.size))) { s with heap := s.heap.push { cls := Value.type "tuple", data := Data.seq #[] }, toks := s.toks }) :=
  .of_wp fun prog w A R s h => by
    obtain ⟨hp, g, d, tk, os⟩ := s
    obtain ⟨hl, h⟩ := h
    have f1 := AutoSeq1.idx_int
    wp_walk using wpAny_loadPart' hl
    repeat (first
      | (refine wpAny_ite_false (decide_eq_false (by decide)) ?_; wp_walk using wpAny_loadPart' hl)
      | (refine wpAny_ite_false (decide_eq_false (by rw [c1]; decide)) ?_; wp_walk using wpAny_loadPart' hl)
      | (refine wpAny_ite_true (decide_eq_true (by decide)) ?_; wp_walk using wpAny_loadPart' hl)
      | (refine wpAny_ite_true (decide_eq_true (by rw [c1]; decide)) ?_; wp_walk using wpAny_loadPart' hl)
      | (refine wpAny_ite_false (decide_eq_false (Nat.not_lt.mpr (by decide))) ?_; wp_walk using wpAny_loadPart' hl))
    exact ⟨_, rfl, h⟩
theorem tuple_mul1 (l : Addr) (items : Array Value) (n : Nat) (dd : Option Addr) (sl : Array (Option Value)) (u : Tok) :
    Meets (Builtin.«tuple.__mul__» ⟨[.ref l, .int 1 u], []⟩) (fun _ R s => s.heap.get? l = some { cls := .type "tuple", dict := dd, data := .seq items n, slots := sl } ∧ R (.ok (.ret (Value.ref l))) s) :=
  .of_wp fun prog w A R s h => by
    obtain ⟨hp, g, d, tk, os⟩ := s
    obtain ⟨hl, h⟩ := h
    have f1 := AutoSeq1.idx_int
    wp_walk using wpAny_loadPart' hl
    repeat (first
      | (refine wpAny_ite_false (decide_eq_false (by decide)) ?_; wp_walk using wpAny_loadPart' hl)
      | (refine wpAny_ite_true (decide_eq_true (by simp)) ?_; wp_walk using wpAny_loadPart' hl)
      | (refine wpAny_ite_true (decide_eq_true (by decide)) ?_; wp_walk using wpAny_loadPart' hl))
    exact ⟨_, rfl, h⟩
def rTRep (K : PySem.W.Frag) : R2 := fun x y H Q => ∃ (l : Addr) (k : Nat) (xs : List V), x = .ref l ∧ y = .int (k : Int) ∧ SqT K H l xs ∧ xs ≠ [] ∧ k ≤ 1000 ∧ xs.length ≤ 1000 ∧ ∀ p H', Same H H' → SqT K H' p (List.replicate k xs).flatten → Q (.ref p) H'
section
variable {X : Cx}
theorem op_trep (K : PySem.W.Frag) (hK : X.K = K := by rfl) : OpR X (binaryOp .Mult) (rTRep K) := by
  subst hK
  intro pins s σ H x y v u Q I rx ry h
  obtain ⟨l, k, xs, rfl, rfl, hT, hne, hk, hz, q⟩ := h
  by_cases k2 : 2 ≤ k
  · exact op_repT pins s σ H _ _ v u Q I rx ry ⟨l, k, xs, rfl, rfl, hT, hne, by omega, by omega, hz, fun p hp => q p _ (same_new hp) (by rw [Int.toNat_natCast]; exact SqT.of upd_same)⟩
  cases rx
  obtain ⟨t, rfl⟩ := ry
  obtain ⟨its, r, ⟨⟨cls, dd, data, sl⟩, ho, hc, n, hd⟩, hs⟩ := I.tuple hT
  simp only at hc hd
  subst hc hd
  have hle : its.length = xs.length := r.length.symm
  have hn : its ≠ [] := fun e => hne (by
    rw [e] at hle
    exact List.eq_nil_of_length_eq_zero hle.symm)
  have hi : its.toArray.isEmpty = false := by
    cases its with
    | nil => exact absurd rfl hn
    | cons a b => rfl
  have hk01 : k = 0 ∨ k = 1 := by omega
  rcases hk01 with rfl | rfl
  · refine wpAny_binaryOp_repeat_ref (T := "tuple") (U := "int") (by decide) ⟨_, ho, rfl⟩ (fun s' => typeIs_int s' _ t) noFill_tuple_mul F.fills_int_mul F.slot_int_rmul repeat_tuple F.slot_int_index.lookup
      (call_meets F.slot_int_rmul (typeIs_int s _ t) F.entry_int_rmul (F.args_int_rmul_2 _ _) (int_rmul_tuple _ t l its.toArray n dd sl)
        ⟨ho, rfl, ⟨_, ho, rfl⟩, call_meets F.slot_tuple_mul ⟨_, ho, rfl⟩ F.entry_tuple_mul (F.args_tuple_mul_2 _ _) (tuple_mul0 l its.toArray n dd sl t hi) ⟨ho, ?_⟩⟩)
    refine ⟨.ref s.heap.objs.size, _, I.laid (t' := s.toks) (o := .tup []) (fun b ob q => Heap.get?_push_of_some _ q) (Nat.le_refl _) ?_, rfl, q _ _ (same_new (I.hok.fresh (Nat.le_refl _))) (SqT.of upd_same)⟩
    exact ⟨Nat.zero_le _, [], .nil, IsTup.new _ _⟩
  · refine wpAny_binaryOp_repeat_ref (T := "tuple") (U := "int") (by decide) ⟨_, ho, rfl⟩ (fun s' => typeIs_int s' _ t) noFill_tuple_mul F.fills_int_mul F.slot_int_rmul repeat_tuple F.slot_int_index.lookup
      (call_meets F.slot_int_rmul (typeIs_int s _ t) F.entry_int_rmul (F.args_int_rmul_2 _ _) (int_rmul_tuple _ t l its.toArray n dd sl)
        ⟨ho, rfl, ⟨_, ho, rfl⟩, call_meets F.slot_tuple_mul ⟨_, ho, rfl⟩ F.entry_tuple_mul (F.args_tuple_mul_2 _ _) (tuple_mul1 l its.toArray n dd sl t) ⟨ho, ?_⟩⟩)
    exact ⟨.ref l, H, I, rfl, q _ _ (Same.refl _) (by rw [List.replicate_one, List.flatten_singleton]; exact hT)⟩
end
theorem rep_one (k : Nat) (v : V) : (List.replicate k [v]).flatten = List.replicate k v := by
  induction k with
  | zero => rfl
  | succ k ih => rw [List.replicate_succ, List.flatten_cons, ih]; rfl
end Wk
end
section
set_option Elab.async false
set_option linter.all false
set_option maxRecDepth 100000
namespace Wk
open PySem PySem.Spec PyProof.Rows L2
local macro_rules | `(tactic| walk_at "hp") => `(tactic| first | assumption | exact upd_same | exact (upd_ne (ne_of_none (by assumption) (by assumption))).trans (by assumption) | (rw [upd_ne (by first | assumption | exact Ne.symm (by assumption))]; walk_at "hp"))
local macro_rules | `(tactic| walk_at "sq") => `(tactic| first | assumption | exact SqL.of (by assumption) | exact SqT.of (by assumption) | exact SqL.of (by walk_at "hp") | exact SqT.of (by walk_at "hp") | (refine Same.seq ?_ ?_ <;> assumption))
local macro_rules | `(tactic| walk_at "cmul") => `(tactic| first | exact .inr ⟨by decide, by decide⟩ | exact .inl ⟨by decide, by decide⟩ | exact .inr ⟨by omega, by omega⟩ | exact .inl ⟨by omega, by omega⟩)
local macro_rules | `(tactic| walk_at "cdiv") => `(tactic| first | exact ⟨by decide, by decide⟩ | exact wide_div (b := 64) (by omega) (by omega) (by decide) (by decide) | exact wide_div (b := 128) (by omega) (by omega) (by decide) (by decide))
local macro_rules | `(tactic| walk_at "rd1") => `(tactic| first
  | ((with_reducible show tVar _ _ _ _); refine Wk.r_var rfl ?_)
  | (with_reducible first
    | refine Wk.r_c ?_ | refine Wk.r_op ?_ | refine Wk.r_cons ?_ | refine Wk.r_nil ?_
    | refine Wk.r_seq ?_ | refine Wk.r_next ?_ | refine Wk.r_set ?_ | refine Wk.r_asgS ?_ | refine Wk.r_ret ?_ | refine Wk.r_drop ?_ | refine Wk.r_if ?_
    | refine Wk.r_asgG ?_ | refine Wk.r_gName ?_ | refine Wk.r_gCons ?_ | refine Wk.r_gNil ?_ | refine Wk.r_par ?_ | refine Wk.r_par3 ?_ | refine Wk.r_lstRg1 ?_ | refine Wk.r_tupRg1 ?_ | refine ⟨_, _, _, rfl, ?_⟩ | refine Wk.r_un ?_ | refine Wk.r_I0 ?_ | refine Wk.r_U ?_
    | refine Wk.r_test ?_ | refine Wk.r_B ?_ | refine Wk.r_k ?_ | refine Wk.r_not ?_ | refine Wk.r_and ?_ | refine Wk.r_or ?_ | refine Wk.r_andV ?_ | refine Wk.r_orV ?_ | refine Wk.r_notV ?_
    | refine Wk.r_CB ?_ | refine Wk.r_chain ?_ | refine Wk.r_fld ?_ | refine Wk.r_sfld ?_ | refine Wk.r_lst ?_ | refine Wk.r_tup ?_ | refine Wk.r_call ?_ | refine Wk.r_BM ?_ | refine Wk.r_BM0 ?_ | refine Wk.r_T ?_ | refine Wk.r_nT ?_ | refine Wk.r_nF ?_ | refine Wk.r_F ?_
    | refine Or.inl ⟨_, rfl, ?_⟩ | refine Or.inr ⟨_, rfl, ?_⟩ | refine ⟨_, rfl, ?_⟩ | refine ⟨_, _, rfl, ?_⟩)
  | ((with_reducible refine Wk.r_eq ?c0 ?_); (case c0 => rfl)) | ((with_reducible refine Wk.r_ne ?c0 ?_); (case c0 => rfl))
  | ((with_reducible refine Wk.r_pow ?c0 ?_); (case c0 => exact ⟨by decide, by decide, by decide⟩))
  | ((with_reducible refine Wk.r_mul ?c0 ?_); (case c0 => walk_at "cmul")) | ((with_reducible refine Wk.r_mod ?c0 ?_); (case c0 => first | decide | omega)) | ((with_reducible refine Wk.r_div ?c0 ?_); (case c0 => walk_at "cdiv"))
  | ((with_reducible refine Wk.r_new ?c0 ?_); (case c0 => (simp only [List.length_cons, List.length_nil]; omega)))
  | ((with_reducible show gTup _ _ _ _ _ _ _); refine Wk.r_gTup (by walk_at "sq") (by rfl) ?_)
  | (refine Wk.r_tyL (by walk_at "hp") ?_)
  | ((with_reducible show rSetL _ _ _ _ _); refine Wk.r_setL (by walk_at "hp") (by rfl) ?_)
  | ((with_reducible show rIxL _ _ _ _ _); refine Wk.r_ixL (by walk_at "sq") (by rfl) ?_) | ((with_reducible show rIxT _ _ _ _ _); refine Wk.r_ixT (by walk_at "sq") (by rfl) ?_)
  | ((with_reducible show rLenOf _ _ _ _); first | refine Wk.n_lenL (by walk_at "sq") ?_ | refine Wk.n_lenT (by walk_at "sq") ?_)
  | ((with_reducible show rListOf _ _ _ _); first | refine Wk.n_listL (by walk_at "sq") ?_ | refine Wk.n_listT (by walk_at "sq") ?_)
  | ((with_reducible show rTupZ _ _ _ _); first | refine Wk.z_tupL (by walk_at "sq") ?_ | refine Wk.z_tupT (by walk_at "sq") ?_)
  | ((with_reducible show rTupOf _ _ _ _); first | refine Wk.n_tupL (by walk_at "sq") ?_ | refine Wk.n_tupT (by walk_at "sq") ?_))
local macro_rules | `(tactic| walk_at "rd") => `(tactic| repeat (walk_at "rd1"))
local macro_rules | `(tactic| walk_at "rd1") => `(tactic| (with_reducible first | refine Wk.r_dget ?_ | refine Wk.r_din ?_ | refine Wk.r_dnotin ?_ | refine Wk.r_dput ?_ | refine Wk.r_pairs ?_ | refine Wk.r_pairs0 ?_ | refine Wk.r_sl ?_ | refine Wk.r_part ?_ | refine Wk.r_nopart ?_ | refine Wk.r_augS ?_ | refine Wk.r_ipI ?_ | refine Wk.r_aug rfl ?_ | refine Wk.r_revT ?_))

section
variable {P : Program} {w : World} {K : PySem.W.Frag} {mg : Str → Option Value} {base : Heap}
/-- no whole number: a truth, or of another type -/
def Odd1 (K : PySem.W.Frag) (H : Hp) (v : V) : Prop := (∃ b, v = .bl b) ∨ ∃ T, TyX K H v (.type T) ∧ kitB T "int" = some false
def spWholeA (K : PySem.W.Frag) : Sp := fun vs H Q _ => (∃ i : Int, vs = [.int i] ∧ Q (.bl true) H) ∨ ∃ v, vs = [v] ∧ Odd1 K H v ∧ Q (.bl false) H
theorem kA_is_whole (T : Txt mg) (a : At K mg "is_whole" s_is_whole ["value"]) : Keep P w K mg base 1 "is_whole" ["value"] (spWholeA K) := by
  refine Keep.of a sc_is_whole (fun vs H Q E h => ?_) (fun f cdv A outer s H vs Q E hr h => ?_)
  · rcases h with ⟨i, rfl, _⟩ | ⟨v, rfl, _⟩ <;> rfl
  · refine ⟨_, (pss_one (ps_ret (pe_and (pe_callB call_isi (by rfl) T.n_isinstance (by decide +kernel) (pa_cons (pv 0) (pa_cons (pe_bltn (v := .ty "int") (u := .type "int") (by rfl) T.n_int (by decide +kernel) rfl) pa_nil))) (pe_one (pe_not (pe_callB call_isi (by rfl) T.n_isinstance (by decide +kernel) (pa_cons (pv 0) (pa_cons (pe_bltn (v := .ty "bool") (u := .type "bool") (by rfl) T.n_bool (by decide +kernel) rfl) pa_nil)))))))), ?_⟩
    rcases h with ⟨i, rfl, kk⟩ | ⟨v, rfl, ⟨b, rfl⟩ | ⟨ty, hty, hk⟩, kk⟩
    · walk_at "rd"
      refine n_isiB (b := true) (.base (.int _)) (by decide +kernel) ?_
      walk_at "rd"
      refine n_isiB (b := false) (.base (.int _)) (by decide +kernel) ?_
      walk_at "rd"
      exact kk
    · walk_at "rd"
      refine n_isiB (b := true) (.base (.bl _)) (by decide +kernel) ?_
      walk_at "rd"
      refine n_isiB (b := true) (.base (.bl _)) (by decide +kernel) ?_
      walk_at "rd"
      exact kk
    · walk_at "rd"
      refine n_isiB (b := false) hty hk ?_
      walk_at "rd"
      exact kk
def spWithinA (K : PySem.W.Frag) : Sp := fun vs H Q _ => (∃ i a b : Int, vs = [.int i, .int a, .int b] ∧ Q (.bl (decide (a ≤ i) && decide (i ≤ b))) H) ∨ ∃ (v : V) (a b : Int), vs = [v, .int a, .int b] ∧ Odd1 K H v ∧ Q (.bl false) H
theorem kA_is_within (T : Txt mg) (k_is_whole : Keep P w K mg base 1 "is_whole" ["value"] (spWholeA K)) (a : At K mg "is_within" s_is_within ["value", "least", "most"]) : Keep P w K mg base 2 "is_within" ["value", "least", "most"] (spWithinA K) := by
  refine Keep.of a sc_is_within (fun vs H Q E h => ?_) (fun f cdv A outer s H vs Q E hr h => ?_)
  · rcases h with ⟨_, _, _, rfl, _⟩ | ⟨_, _, _, rfl, _⟩ <;> rfl
  · refine ⟨_, (pss_one (ps_ret (pe_and (pe_k k_is_whole (hr.mono (by decide)) (by rfl) (pa_cons (pv 0) pa_nil)) (pe_one (pe_chain op_le op_le (pv 1) (pv 0) (pv 2)))))), ?_⟩
    rcases h with ⟨i, a, b, rfl, kk⟩ | ⟨v, a, b, rfl, ho, kk⟩
    · walk_at "rd"
      refine .inl ⟨i, rfl, ?_⟩
      walk_at "rd"
      refine r_if1 (fun c => ?_) (fun c => ?_)
      · walk_at "rd"
        rw [decide_eq_true c, Bool.true_and] at kk
        exact kk
      · rw [decide_eq_false c, Bool.false_and] at kk
        exact kk
    · walk_at "rd"
      refine .inr ⟨v, rfl, ho, ?_⟩
      walk_at "rd"
      exact kk
end
section
variable {K : PySem.W.Frag}
/-- a member that is no number below k -/
def BadM (k : Nat) (x : V) : Prop := ∀ z : Int, x = .int z → ¬ (0 ≤ z ∧ z < k)
/-- no tuple of n numbers below k -/
def RowBad (K : PySem.W.Frag) (H : Hp) (n k : Nat) (v : V) : Prop := (∀ H', Same H H' → ∃ T, TyX K H' v (.type T) ∧ kitB T "tuple" = some false) ∨
  ∃ (a : Addr) (xs : List V), v = .ref a ∧ SqT K H a xs ∧ xs.length ≤ 1000 ∧ (xs.length ≠ n ∨ ((∀ x ∈ xs, (∃ z : Int, x = .int z) ∨ ∀ H', Same H H' → Odd1 K H' x) ∧ ∃ x ∈ xs, BadM k x))
theorem bools {L : List V} {n i0 : Nat} (len : L.length = n) (h0 : i0 < n) (r : ∀ (i : Nat) v, L[i]? = some v → ∃ b : Bool, v = .bl b ∧ (i = i0 → b = false)) : ∃ bs : List Bool, L = bs.map V.bl ∧ bs.all id = false := by
  refine ⟨L.map fun v => match v with | .bl b => b | _ => false, ?_, ?_⟩
  · apply List.ext_getElem?
    intro i
    rw [List.map_map, List.getElem?_map]
    cases e : L[i]? with
    | none => rfl
    | some v =>
      obtain ⟨b, rfl, _⟩ := r i v e
      rfl
  · rw [List.all_eq_false]
    have hl : i0 < L.length := by omega
    obtain ⟨b, e, hb⟩ := r i0 _ (List.getElem?_eq_getElem hl)
    refine ⟨false, List.mem_map.mpr ⟨L[i0], List.getElem_mem hl, by rw [e, hb rfl]⟩, by decide⟩

theorem RowBad.mono {H H' : Hp} {n k : Nat} {v : V} (s : Same H H') (h : RowBad K H n k v) : RowBad K H' n k v := by
  rcases h with h | ⟨a, xs, e, hs, hz, h⟩
  · exact .inl fun H2 s2 => h H2 (s.trans s2)
  · exact .inr ⟨a, xs, e, s.sqT hs, hz, h.imp id fun ⟨h1, h2⟩ => ⟨fun x hx => (h1 x hx).imp id fun g H2 s2 => g H2 (s.trans s2), h2⟩⟩
/-- no whole number from a to b -/
def BadZ (K : PySem.W.Frag) (H : Hp) (a b : Int) (v : V) : Prop := (∃ z : Int, v = .int z ∧ ¬ (a ≤ z ∧ z ≤ b)) ∨ ∀ H', Same H H' → Odd1 K H' v
theorem BadZ.mono {H H' : Hp} {a b : Int} {v : V} (s : Same H H') (h : BadZ K H a b v) : BadZ K H' a b v := h.imp id fun g H2 s2 => g H2 (s.trans s2)
theorem withinA_bad {a b : Int} {v : V} {H : Hp} {Q : VK} {E : XK} (hb : BadZ K H a b v) (q : Q (.bl false) H) : spWithinA K [v, .int a, .int b] H Q E := by
  rcases hb with ⟨z, rfl, hz⟩ | ho
  · refine .inl ⟨z, a, b, rfl, ?_⟩
    have e1 : (decide (a ≤ z) && decide (z ≤ b)) = false := by
      rw [Bool.and_eq_false_iff, decide_eq_false_iff_not, decide_eq_false_iff_not]
      by_cases c : a ≤ z
      · exact .inr fun q => hz ⟨c, q⟩
      · exact .inl c
    rw [e1]
    exact q
  · exact .inr ⟨v, a, b, rfl, ho H (Same.refl _), q⟩
/-- no prime up to m -/
def NoPrime (K : PySem.W.Frag) (H : Hp) (m : Nat) (v : V) : Prop := BadZ K H 2 m v ∨ ∃ n q : Nat, v = .int n ∧ n ≤ m ∧ 2 ≤ q ∧ q < n ∧ n % q = 0
theorem NoPrime.mono {H H' : Hp} {m : Nat} {v : V} (s : Same H H') (h : NoPrime K H m v) : NoPrime K H' m v := h.imp (BadZ.mono s) id
end
section
variable {P : Program} {w : World} {K : PySem.W.Frag} {mg : Str → Option Value} {base : Heap}
/-- what never raises may be called where it might -/
theorem fnOk_lift {CX : CXT} {k : Nat} {f : Addr} {fd : FuncData} {ps : List Str} {sp : Sp} (F : FnOk P w K mg base CX0 k f fd ps sp) : FnOk P w K mg base CX k f fd ps sp :=
  ⟨F.len, fun A outer s H args us vs Q E hr e0 hb r h => codeAny_mono (F.run A outer s H args us vs Q E hr e0 hb r h) fun r s' hq => by
    cases r with
    | ok x => cases x <;> exact hq
    | error e => exact False.elim hq⟩
/-- a def raises: with the arguments vs at H an error of the class c, the value v in it -/
def spOut (S : List V → Hp → Addr → V → Prop) : Sp := fun vs H _ E => ∃ (c : Addr) (v : V), S vs H c v ∧ ∀ H', Same H H' → OutV c H' v E
abbrev spB (g : Sp) (S : List V → Hp → Addr → V → Prop) : Sp := fun vs H Q E => g vs H Q E ∨ spOut S vs H Q E
theorem keepX_of {k : Nat} {x : Str} {ps : List Str} {g : Sp} {S : List V → Hp → Addr → V → Prop} {f : Addr} {fd : FuncData} (F : FnOk P w K mg base CX0 k f fd ps g) (F' : FnOk P w K mg base (L2.CX P w) k f fd ps (spOut S)) (gx : mg x = some (.ref f)) (kp : PySem.W.keepIn K (.ref f) = true) (b : Binds K fd ps []) : KeepX P w K mg base k x ps (spB g S) := ⟨f, fd, fnOk_or (fnOk_lift F) F', gx, kp, b⟩
def spNRowA (K : PySem.W.Frag) : Sp := fun vs H Q _ => ∃ (n k : Nat) (v : V), vs = [v, .int (n : Int), .int (k : Int)] ∧ RowBad K H n k v ∧ ∀ H', Same H H' → Q (.bl false) H'
theorem kA_is_number_row (T : Txt mg) (k_is_within : Keep P w K mg base 2 "is_within" ["value", "least", "most"] (spWithinA K)) (a : At K mg "is_number_row" s_is_number_row ["value", "length", "bound"]) : Keep P w K mg base 3 "is_number_row" ["value", "length", "bound"] (spNRowA K) := by
  refine Keep.of a sc_is_number_row (fun vs H Q E h => ?_) (fun fa cdv A outer s H vs Q E hr h => ?_)
  · obtain ⟨_, _, _, rfl, _⟩ := h
    rfl
  · obtain ⟨n, k, v, rfl, hb, kk⟩ := h
    refine ⟨_, (pss_cons (ps_if (PW.pt (pw_or (pt_not (pt_val (pe_callB call_isi (by rfl) T.n_isinstance (by decide +kernel) (pa_cons (pv 0) (pa_cons (pe_bltn (v := .ty "tuple") (u := .type "tuple") (by rfl) T.n_tuple (by decide +kernel) rfl) pa_nil))))) (pw_or1 (pt_cmpR op_ne (pe_callB (c_len K) (by rfl) T.n_len (by decide +kernel) (pa_cons (pv 0) pa_nil)) (pv 1) (nomark _))))) (pss_one (ps_ret pe_bl)) pss_nil)
    (pss_one (ps_ret (pe_callB (c_all K rfl) (by rfl) T.n_all (by decide +kernel) (pa_cons (pe_lc (own := [("x", 3)]) rfl sc_is_number_row.nd (i_tup K (pv 0)) (blkOk_by (N := ["value", "length", "bound", "x"]) (sc := defScope s_is_number_row) (by decide +kernel)) (fun _ _ _ _ _ => (pg_name (i := 3) sc_is_number_row.nd rfl (by first | exact Or.inl rfl | exact Or.inr rfl))) (fun _ _ _ _ _ => pts_nil) (fun _ _ _ _ _ => (pe_k k_is_within (hr.mono (by decide)) (by rfl) (pa_cons (pv 3) (pa_cons pe_int (pa_cons (pe_op op_sub (pv 2) pe_int) pa_nil)))))) pa_nil))))), ?_⟩
    rcases hb with hb | ⟨t, xs, rfl, ht, hz, hb⟩
    · obtain ⟨ty, hty, hk⟩ := hb H (Same.refl _)
      walk_at "rd"
      refine n_isiB (b := false) hty hk ?_
      walk_at "rd"
      exact kk _ (Same.refl _)
    · walk_at "rd"
      refine n_isiB (b := true) (sq_ty ht) (by decide +kernel) ?_
      walk_at "rd"
      refine r_ifNI (fun _ => ?_) (fun c => ?_)
      · walk_at "rd"
        exact kk _ (Same.refl _)
      · have hlen : xs.length = n := by omega
        rcases hb with hb | ⟨hm, x0, hx0, hb⟩
        · exact absurd hlen hb
        obtain ⟨i0, hi0⟩ := List.mem_iff_getElem?.mp hx0
        walk_at "rd"
        refine lc_tpl (fun i v _ => ∃ b : Bool, v = V.bl b ∧ (i = i0 → b = false)) ht (by omega) (fun R' h => ?_) (fun i v H1 H2 D L _ _ h => h) ?_ ?_
        · walk_at "rd"
          exact h
        · intro i y H2 Q' hy s2 k2
          walk_at "rd"
          by_cases c1 : ∃ z : Int, y = .int z
          · obtain ⟨z, rfl⟩ := c1
            refine .inl ⟨z, _, _, rfl, ?_⟩
            refine k2 _ _ (Same.refl _) ⟨_, rfl, fun e => ?_⟩
            subst e
            rw [hi0] at hy
            cases hy
            have := hb z rfl
            rw [Bool.and_eq_false_iff, decide_eq_false_iff_not, decide_eq_false_iff_not]
            by_cases c : 0 ≤ z
            · exact .inr fun q => this ⟨c, by omega⟩
            · exact .inl c
          · have ho := (hm y (List.mem_of_getElem? hy)).resolve_left c1
            exact .inr ⟨y, _, _, rfl, ho H2 s2, k2 _ _ (Same.refl _) ⟨_, rfl, fun _ => rfl⟩⟩
        · intro D L H2 hD s2 hL len r
          have hi : i0 < xs.length := (List.getElem?_eq_some_iff.mp hi0).1
          obtain ⟨bs, e1, e2⟩ := bools len hi r
          walk_at "rd"
          rw [e1] at hL
          refine n_all (SqL.of hL) ?_
          rw [e2]
          exact kk _ s2

def spPrmA (K : PySem.W.Frag) : Sp := fun vs H Q _ => ∃ (v : V) (m : Nat), vs = [v, .int (m : Int)] ∧ m ≤ 1000 ∧ NoPrime K H m v ∧ ∀ H', Same H H' → Q (.bl false) H'
def SPrm (K : PySem.W.Frag) (CI : Addr) : List V → Hp → Addr → V → Prop := fun vs H c v => ∃ m : Nat, vs = [v, .int (m : Int)] ∧ m ≤ 1000 ∧ c = CI ∧ NoPrime K H m v
def SPlp (K : PySem.W.Frag) (CI : Addr) : List V → Hp → Addr → V → Prop := fun vs H c v => vs = [v] ∧ c = CI ∧ NoPrime K H 101 v
def SWit (K : PySem.W.Frag) (CI : Addr) : List V → Hp → Addr → V → Prop := fun vs H c v => ∃ a b : Int, vs = [v, .int a, .int b] ∧ c = CI ∧ BadZ K H a b v
theorem okX_require_within {CI fa : Addr} {fd : FuncData} (T : Txt mg) (nI : mg "InvalidNumber" = some (.ref CI)) (x_InvalidNumber : ErrF P w K mg base CI ["self", "value"] (spOexI CI "value")) (k_is_within : Keep P w K mg base 2 "is_within" ["value", "least", "most"] (spWithinA K)) (F : Fun K "require_within" "require_within" s_require_within fa fd) : FnOk P w K mg base (L2.CX P w) 3 fa fd ["value", "least", "most"] (spOut (SWit K CI)) := by
  refine F.okXG sc_require_within (fun vs H Q E h => ?_) (fun cdv A outer s H vs Q E hr h => ?_)
  · obtain ⟨_, _, ⟨_, _, rfl, _⟩, _⟩ := h
    rfl
  · obtain ⟨c, v, ⟨a, b, rfl, rfl, hb⟩, kk⟩ := h
    refine ⟨_, (pss_one (ps_if (pt_not (pt_val (pe_k k_is_within (hr.mono (by decide)) (by rfl) (pa_cons (pv 0) (pa_cons (pv 1) (pa_cons (pv 2) pa_nil)))))) (pss_one (ps_raise rfl (takes_of rfl rfl rfl rfl) (pmk_err x_InvalidNumber (hr.mono (by decide)) (by rfl) nI (pa_cons (pv 0) pa_nil)))) pss_nil)), ?_⟩
    walk_at "rd"
    refine withinA_bad hb ?_
    obtain ⟨H1, s1, e1⟩ : ∃ H1, Same H H1 ∧ H1 = H := ⟨H, Same.refl _, rfl⟩
    subst e1
    walk_at "rd"
    refine r_mkO ?_
    walk_at "rd"
    refine ⟨by show 1 ≤ 1000; decide, fun a ha => ⟨a, v, rfl, upd_same, fun dx' hd ne => ⟨rfl, dx', [("value", v)], upd_same, ?_, ?_, ?_⟩⟩⟩
    · rw [upd_ne ne, upd_same]
    · rw [upd_ne ne] at hd
      exact hd
    · rw [made_heap ha ne]
      refine kk H1 s1 dx' ?_
      rw [upd_ne ne] at hd
      exact hd
def SVal (K : PySem.W.Frag) (CM : Addr) : List V → Hp → Addr → V → Prop := fun vs H c v => ∃ p : Nat, vs = [.int (p : Int), v] ∧ c = CM ∧ RowBad K H p p v
end
end Wk
end
section
set_option Elab.async false
set_option linter.all false
set_option maxRecDepth 100000
/-! values that are shown; rows that are no rows; what is kept while a hand changes -/
namespace Wk
open PySem PySem.Spec PyProof.Rows L2
section
variable {K : PySem.W.Frag}
/-- data that is shown by a text of code points -/
structure ShV (K : PySem.W.Frag) (H : Hp) (v : V) (d : PyData) : Prop where
  dp : Dp K H v d
  sh : d.showable = true
  nd : d.hasDict = false
  de : d.depth ≤ 60
  sz : d.shown.length ≤ sizeLine
  ok : okS d = true
theorem ShV.mono {H H' : Hp} {v : V} {d : PyData} (s : Same H H') (h : ShV K H v d) : ShV K H' v d := { h with dp := dp_mono s h.dp }
theorem r_reprU {H : Hp} {Q : VK} {v : V} {d : PyData} (h : ShV K H v d) (q : Q (.str d.shown) H) : rRepr K [v] H Q := ⟨v, d, rfl, h.dp, h.sh, h.nd, h.de, h.sz, q⟩
end
/-- small data: shown by a text of at most B signs -/
structure Sm (B : Nat) (d : PyData) : Prop where
  sh : d.showable = true
  nd : d.hasDict = false
  de : d.depth ≤ 8
  sz : d.shown.length ≤ B
  ok : okS d = true
theorem sm_all {B : Nat} : ∀ ds : List PyData, (∀ d ∈ ds, Sm B d) → PyData.showableAll ds = true ∧ PyData.hasDictAll ds = false ∧ PyData.depthAll ds ≤ 8 ∧ piled (PyData.shownAll ds) ≤ ds.length * (B + 2) ∧ okSA ds = true
  | [], _ => by simp [PyData.showableAll, PyData.hasDictAll, PyData.depthAll, PyData.shownAll, piled, okSA]
  | d :: ds, h => by
    obtain ⟨a1, a2, a3, a4, a5⟩ := h d List.mem_cons_self
    obtain ⟨b1, b2, b3, b4, b5⟩ := sm_all ds fun x hx => h x (List.mem_cons_of_mem _ hx)
    refine ⟨by simp [PyData.showableAll, a1, b1], by simp [PyData.hasDictAll, a2, b2], by simp only [PyData.depthAll]; omega, ?_, by simp [okSA, a5, b5]⟩
    rw [PyData.shownAll, piled_cons, List.length_cons, Nat.add_mul]
    omega
theorem shV_tup {B : Nat} {K : PySem.W.Frag} {H : Hp} {a : Addr} {xs : List V} {ds : List PyData} (h : SqT K H a xs) (hd : DpAll K H xs ds) (hs : ∀ d ∈ ds, Sm B d) (hl : ds.length * (B + 2) + 3 ≤ 100000) : ShV K H (.ref a) (.tuple ds) := by
  obtain ⟨b1, b2, b3, b4, b5⟩ := sm_all ds hs
  refine ⟨.tup h hd, by simpa only [PyData.showable] using b1, by simpa only [PyData.hasDict] using b2, by simp only [PyData.depth]; omega, ?_, by simpa only [okS] using b5⟩
  simp only [PyData.shown]
  have := tupleText_le (PyData.shownAll ds)
  exact szl (by omega)
theorem from_le : ∀ (ts : List Str) (k : Nat) (acc : Str), (textFrom k acc ts).length ≤ acc.length + piled ts
  | [], _, _ => Nat.le_add_right _ _
  | t :: r, k, acc => by
    have ih := from_le r (k + 1) (acc ++ (if k > 0 then ", " else "" : String) ++ t)
    refine Nat.le_trans (show (textFrom k acc (t :: r)).length ≤ _ from ih) ?_
    rw [strLen_append, strLen_append, piled_cons]
    have e3 : (((if k > 0 then ", " else "" : String) : Str)).length ≤ 2 := by split <;> decide
    omega
theorem shV_lst {B : Nat} {K : PySem.W.Frag} {H : Hp} {a : Addr} {xs : List V} {ds : List PyData} (h : SqL K H a xs) (hd : DpAll K H xs ds) (hs : ∀ d ∈ ds, Sm B d) (hl : ds.length * (B + 2) + 3 ≤ 100000) : ShV K H (.ref a) (.list ds) := by
  obtain ⟨b1, b2, b3, b4, b5⟩ := sm_all ds hs
  refine ⟨.lst h hd, by simpa only [PyData.showable] using b1, by simpa only [PyData.hasDict] using b2, by simp only [PyData.depth]; omega, ?_, by simpa only [okS] using b5⟩
  simp only [PyData.shown]
  have := from_le (PyData.shownAll ds) 0 "["
  unfold listText
  rw [strLen_append]
  have e1 : ((("[" : String) : Str)).length = 1 := rfl
  have e2 : ((("]" : String) : Str)).length = 1 := rfl
  exact szl (by omega)
/-- a value shown by a text of at most B signs -/
def SmV (B : Nat) (K : PySem.W.Frag) (H : Hp) (v : V) : Prop := ∃ d, Dp K H v d ∧ Sm B d
theorem smv_all {B : Nat} {K : PySem.W.Frag} {H : Hp} : ∀ xs : List V, (∀ x ∈ xs, SmV B K H x) → ∃ ds, DpAll K H xs ds ∧ (∀ d ∈ ds, Sm B d) ∧ ds.length = xs.length
  | [], _ => ⟨[], .nil, fun _ h => (nomatch h), rfl⟩
  | x :: xs, h => by
    obtain ⟨d, h1, h2⟩ := h x List.mem_cons_self
    obtain ⟨ds, g1, g2, g3⟩ := smv_all xs fun y hy => h y (List.mem_cons_of_mem _ hy)
    exact ⟨d :: ds, .cons h1 g1, fun y hy => (List.mem_cons.mp hy).elim (fun e => e ▸ h2) (g2 y), by rw [List.length_cons, List.length_cons, g3]⟩
theorem smV_tup {B C : Nat} {K : PySem.W.Frag} {H : Hp} {a : Addr} {xs : List V} (h : SqT K H a xs) (hs : ∀ x ∈ xs, SmV B K H x) (hl : xs.length * (B + 2) + 3 ≤ C) (hd : ∀ ds, (∀ d ∈ ds, Sm B d) → DpAll K H xs ds → PyData.depthAll ds ≤ 7) : SmV C K H (.ref a) := by
  obtain ⟨ds, g1, g2, g3⟩ := smv_all xs hs
  obtain ⟨b1, b2, b3, b4, b5⟩ := sm_all ds g2
  have := hd ds g2 g1
  refine ⟨.tuple ds, .tup h g1, by simpa only [PyData.showable] using b1, by simpa only [PyData.hasDict] using b2, by simp only [PyData.depth]; omega, ?_, by simpa only [okS] using b5⟩
  simp only [PyData.shown]
  have := tupleText_le (PyData.shownAll ds)
  rw [g3] at b4
  omega
theorem shV_tupV {B : Nat} {K : PySem.W.Frag} {H : Hp} {a : Addr} {xs : List V} (h : SqT K H a xs) (hs : ∀ x ∈ xs, SmV B K H x) (hl : xs.length * (B + 2) + 3 ≤ 100000) : ∃ d, ShV K H (.ref a) d := by
  obtain ⟨ds, g1, g2, g3⟩ := smv_all xs hs
  exact ⟨_, shV_tup h g1 g2 (by rw [g3]; exact hl)⟩
theorem shV_lstV {B : Nat} {K : PySem.W.Frag} {H : Hp} {a : Addr} {xs : List V} (h : SqL K H a xs) (hs : ∀ x ∈ xs, SmV B K H x) (hl : xs.length * (B + 2) + 3 ≤ 100000) : ∃ d, ShV K H (.ref a) d := by
  obtain ⟨ds, g1, g2, g3⟩ := smv_all xs hs
  exact ⟨_, shV_lst h g1 g2 (by rw [g3]; exact hl)⟩
theorem smv_allC {B : Nat} {K : PySem.W.Frag} {C : Hp → Prop} : ∀ xs : List V, (∀ x ∈ xs, ∃ d, Sm B d ∧ ∀ H', C H' → Dp K H' x d) → ∃ ds, ds.length = xs.length ∧ (∀ d ∈ ds, Sm B d) ∧ ∀ H', C H' → DpAll K H' xs ds
  | [], _ => ⟨[], rfl, fun _ h => (nomatch h), fun _ _ => .nil⟩
  | x :: xs, h => by
    obtain ⟨d, h1, h2⟩ := h x List.mem_cons_self
    obtain ⟨ds, g1, g2, g3⟩ := smv_allC xs fun y hy => h y (List.mem_cons_of_mem _ hy)
    exact ⟨d :: ds, by rw [List.length_cons, List.length_cons, g1], fun y hy => (List.mem_cons.mp hy).elim (fun e => e ▸ h1) (g2 y), fun H' c => .cons (h2 H' c) (g3 H' c)⟩
theorem okSA_iD : ∀ ns : List Int, okSA (iD ns) = true
  | [] => by simp [iD, okSA]
  | z :: ns => by
    have := okSA_iD ns
    simp only [iD, List.map_cons, okSA, okS, Bool.true_and] at this ⊢
    exact this
theorem sm_tupI {ns : List Int} (h : ∀ z ∈ ns, Few z) (hl : ns.length ≤ 200) : Sm 20000 (.tuple (iD ns)) := by
  obtain ⟨h1, h2, h3, h4⟩ := iD_all h
  refine ⟨by simpa only [PyData.showable] using h1, by simpa only [PyData.hasDict] using h2, by simp only [PyData.depth, h3]; decide, ?_, by simpa only [okS] using okSA_iD ns⟩
  simp only [PyData.shown]
  have := tupleText_le (PyData.shownAll (iD ns))
  omega
theorem sm_lstI {ns : List Int} (h : ∀ z ∈ ns, Few z) (hl : ns.length ≤ 200) : Sm 20000 (.list (iD ns)) := by
  obtain ⟨h1, h2, h3, h4⟩ := iD_all h
  refine ⟨by simpa only [PyData.showable] using h1, by simpa only [PyData.hasDict] using h2, by simp only [PyData.depth, h3]; decide, ?_, by simpa only [okS] using okSA_iD ns⟩
  simp only [PyData.shown]
  have := from_le (PyData.shownAll (iD ns)) 0 "["
  unfold listText
  rw [strLen_append]
  have e1 : ((("[" : String) : Str)).length = 1 := rfl
  have e2 : ((("]" : String) : Str)).length = 1 := rfl
  omega
theorem Sm.shV {B : Nat} {K : PySem.W.Frag} {H : Hp} {v : V} {d : PyData} (h : Sm B d) (hd : Dp K H v d) (hB : B ≤ 100000) : ShV K H v d := ⟨hd, h.sh, h.nd, Nat.le_trans h.de (by decide), Nat.le_trans h.sz (szl hB), h.ok⟩
section
variable {K : PySem.W.Frag} {H : Hp} {Q : VK}
theorem cat_gen {a b : Addr} {xs ys : List V} (ha : SqT K H a xs) (hb : SqT K H b ys) (hz : xs.length + ys.length ≤ 1000) (q : ∀ p H', Same H H' → SqT K H' p (xs ++ ys) → Q (.ref p) H') : rCatA K (.ref a) (.ref b) H Q := by
  refine ⟨a, b, xs, ys, rfl, rfl, ha, hb, Nat.le_trans hz (by decide), fun e => ?_, fun _ e => ?_, fun _ _ p hp => ?_⟩
  · subst e
    exact q b H (Same.refl _) hb
  · subst e
    exact q a H (Same.refl _) (by rw [List.append_nil]; exact ha)
  · exact q p _ (same_new hp) (SqT.of upd_same)
theorem cut_whole {xs : List V} {lo hi : Option Int} (h1 : HT.sIx xs.length 0 lo = 0) (h2 : HT.sIx xs.length xs.length hi = xs.length) : cutV xs lo hi = xs := by
  unfold cutV
  rw [h1, h2, List.drop_zero, Nat.sub_zero, List.take_of_length_le (Nat.le_refl _)]
theorem sl_gen {a : Addr} {xs : List V} {lo hi : Option Int} (h : SqT K H a xs) (q : ∀ p H', Same H H' → SqT K H' p (cutV xs lo hi) → Q (.ref p) H') : rSlA K (.ref a) lo hi H Q :=
  ⟨a, xs, rfl, h, fun e => q a H (Same.refl _) (by rw [cut_whole e.1 e.2]; exact h), fun _ p hp => q p _ (same_new hp) (SqT.of upd_same)⟩
theorem sl_tupK {X : Cx} (K : PySem.W.Frag) (hK : X.K = K := by rfl) : SlR X (rSlA K) := by subst hK; exact sl_tupA
theorem cut_drop {xs : List V} {w : Nat} : cutV xs (some (w : Int)) none = xs.drop w := by
  unfold cutV
  rw [HT.sIx_none, HT.sIx_nat]
  by_cases c : w ≤ xs.length
  · rw [Nat.min_eq_left c, List.take_of_length_le (by rw [List.length_drop]; omega)]
  · rw [Nat.min_eq_right (by omega), List.drop_of_length_le (Nat.le_refl _), List.drop_of_length_le (by omega)]
    exact List.take_nil
theorem rep_set {xs : List V} {i : Nat} {v : V} (h : i < xs.length) : (xs.take i ++ [v]) ++ xs.drop (i + 1) = xs.set i v := by
  rw [List.set_eq_take_append_cons_drop, if_pos h, List.append_assoc]
  rfl
theorem sm_bl (b : Bool) : Sm 100 (.bool b) := by cases b <;> exact ⟨by simp [PyData.showable], by simp [PyData.hasDict], by simp [PyData.depth], by simp only [PyData.shown]; decide, by simp [okS]⟩
theorem sm_non : Sm 100 .none := ⟨by simp [PyData.showable], by simp [PyData.hasDict], by simp [PyData.depth], by simp only [PyData.shown]; decide, by simp [okS]⟩
theorem sm_zero : Sm 100 (.str "0") := ⟨by simp [PyData.showable], by simp [PyData.hasDict], by simp [PyData.depth], by simp only [PyData.shown]; decide +kernel, by simp only [okS]; decide +kernel⟩
theorem sm_int {z : Int} (h : Few z) : Sm 100 (.int z) := ⟨h.showable, by simp only [PyData.hasDict], by simp only [PyData.depth]; decide, by have := h.shown; omega, by simp only [okS]⟩
end
/-! "0" * n -/
theorem rep_zero : ∀ (n : Nat) (acc : Array Nat), (∀ c ∈ acc, c = 48) → (∀ c ∈ (List.replicate n #[48]).foldl (· ++ ·) acc, c = 48) ∧ ((List.replicate n #[48]).foldl (· ++ ·) acc).size = acc.size + n
  | 0, acc, h => ⟨h, rfl⟩
  | n + 1, acc, h => by
    have h2 : ∀ c ∈ acc ++ #[48], c = 48 := fun c hc => by
      rcases Array.mem_append.mp hc with g | g
      · exact h c g
      · simpa using g
    have ih := rep_zero n (acc ++ #[48]) h2
    rw [List.replicate_succ, List.foldl_cons]
    refine ⟨ih.1, ?_⟩
    rw [ih.2, Array.size_append]
    show acc.size + 1 + n = acc.size + (n + 1)
    omega
theorem repr_zeros {s : PySem.Str} (h : ∀ c ∈ s.cps, c = 48) : PyData.strOk (reprText s) = true := by
  have hq : ∀ q : Nat, q < 1114112 → ∀ (l : List Nat) (acc : Array Nat), (∀ c ∈ l, c = 48) → (∀ c ∈ acc, c < 1114112) → ∀ c ∈ l.foldl (fun out c => out ++ (Builtin.Str.reprChar q c).toArray) acc, c < 1114112 := by
    intro q hq l
    induction l with
    | nil => exact fun acc _ ha => ha
    | cons x l ih =>
      intro acc hl ha
      rw [List.foldl_cons]
      refine ih _ (fun c hc => hl c (List.mem_cons_of_mem _ hc)) fun c hc => ?_
      rcases Array.mem_append.mp hc with g | g
      · exact ha c g
      · rw [hl x List.mem_cons_self] at g
        have e : Builtin.Str.reprChar q 48 = [48] ∨ Builtin.Str.reprChar q 48 = [92, 48] := by
          unfold Builtin.Str.reprChar
          by_cases c1 : (48 == q) = true
          · right; simp [c1]
          · left; simp [c1]; decide
        rcases e with e | e <;> rw [e] at g <;> simp at g <;> omega
  have q2 : reprQuote s < 1114112 := by
    unfold reprQuote
    split <;> decide
  unfold PyData.strOk reprText
  rw [Array.all_eq_true']
  intro c hc
  refine decide_eq_true ?_
  rcases Array.mem_push.mp hc with g | g
  · rw [← Array.foldl_toList] at g
    exact hq _ q2 _ _ (fun c hc => h c (Array.mem_toList_iff.mp hc)) (fun c hc => by simp at hc; omega) c g
  · omega
def rSRep : R2 := fun x y H Q => x = .str "0" ∧ ∃ n : Nat, y = .int (n : Int) ∧ n ≤ 1000 ∧ ∀ s : PySem.Str, (∀ c ∈ s.cps, c = 48) → s.cps.size = n → Q (.str s) H
theorem op_srep {X : Cx} : OpR X (binaryOp .Mult) rSRep := by
  intro pins s σ H x y v u Q I rx ry h
  obtain ⟨rfl, n, rfl, hn, q⟩ := h
  obtain ⟨t, rfl⟩ := rx
  obtain ⟨t2, rfl⟩ := ry
  have e0 : (Str.ofString "0").length = 1 := by decide
  have ec : (Str.ofString "0").cps = #[48] := by decide +kernel
  refine PySem.P.mul_str ?_ (fun h1 _ => ?_) (fun _ _ => ?_) ?_
  · have h1 : ¬ (n : Int) < -(2 ^ 63) := by omega
    have h2 : ¬ (n : Int) ≥ 2 ^ 63 := by omega
    rw [decide_eq_false h1, decide_eq_false h2]; rfl
  · rw [e0]
    have : (1 : Int) ≤ (2 ^ 63 - 1) / (n : Int) := by
      have := Int.le_ediv_of_mul_le (a := 1) (b := 2 ^ 63 - 1) (c := (n : Int)) (by omega) (by omega)
      exact this
    omega
  · rw [e0, Int.toNat_natCast]
    unfold Builtin.Str.tooLong
    simp
    rw [sizeLine_eq]
    omega
  · by_cases h1 : (n : Int) < 1
    · rw [if_pos h1]
      exact ⟨by decide, .str _, H, I.tok _, ⟨_, rfl⟩, q _ (fun c hc => by simp [Str.empty] at hc) (by show 0 = n; omega)⟩
    · rw [if_neg h1]
      by_cases h2 : ((n : Int) == 1 || (Str.ofString "0").length == 0) = true
      · rw [if_pos h2]
        rw [e0] at h2
        have : n = 1 := by
          simp at h2
          omega
        subst this
        exact ⟨.str _, H, I, ⟨_, rfl⟩, q _ (fun c hc => by rw [ec] at hc; simpa using hc) (by rw [ec]; rfl)⟩
      · rw [if_neg h2]
        have := rep_zero n #[] (fun c hc => by simp at hc)
        rw [ec, Int.toNat_natCast]
        refine ⟨?_, .str _, H, I.tok _, ⟨_, rfl⟩, q ⟨_⟩ this.1 (by rw [this.2]; simp)⟩
        show _ ≤ sizeLine
        rw [sizeLine_eq]
        have := this.2
        show ((List.replicate n #[48]).foldl (· ++ ·) #[]).size ≤ _
        rw [this]
        simp
        omega
section
variable {K : PySem.W.Frag} {H : Hp} {Q : VK}
theorem shV_zeros {s : PySem.Str} {n : Nat} (h : ∀ c ∈ s.cps, c = 48) (hs : s.cps.size = n) (hn : n ≤ 1000) : ShV K H (.str s) (.str s) := by
  refine ⟨.str s, by simp only [PyData.showable], by simp only [PyData.hasDict], by simp only [PyData.depth]; decide, ?_, by simp only [okS]; exact repr_zeros h⟩
  simp only [PyData.shown]
  have e := StrLaws.reprText_len s (fun c hc => by rw [h c (Array.mem_toList_iff.mp hc)]; decide)
  refine Nat.le_trans e (szl ?_)
  show 10 * s.cps.size + 2 ≤ _
  omega
end
section
variable {K : PySem.W.Frag} {H H' : Hp} {p : Nat} {v : V} {l h : Addr}
/-- no row: no tuple, an empty one, or one with a member that is no number below p -/
def BR (K : PySem.W.Frag) (p : Nat) (H : Hp) (v : V) : Prop := (∀ H', Same H H' → ∃ T, TyX K H' v (.type T) ∧ kitB T "tuple" = some false) ∨
  ∃ (a : Addr) (xs : List V), v = .ref a ∧ SqT K H a xs ∧ xs.length ≤ 1000 ∧ (xs = [] ∨ ((∀ x ∈ xs, (∃ z : Int, x = .int z) ∨ ∀ H', Same H H' → Odd1 K H' x) ∧ ∃ x ∈ xs, BadM p x))
theorem BR.row {n : Nat} (hn : 1 ≤ n) (b : BR K p H v) : RowBad K H n p v := by
  rcases b with b | ⟨a, xs, e, hs, hz, b⟩
  · exact .inl b
  · refine .inr ⟨a, xs, e, hs, hz, ?_⟩
    rcases b with rfl | b
    · exact .inl (by show 0 ≠ n; omega)
    · exact .inr b
def ExQ (l h : Addr) (H H' : Hp) : Prop := ∀ b o, b ≠ l → b ≠ h → H b = some o → H' b = some o
theorem ExQ.trans {H1 : Hp} (a : ExQ l h H H1) (b : ExQ l h H1 H') : ExQ l h H H' := fun c o n1 n2 e => b c o n1 n2 (a c o n1 n2 e)
theorem _root_.L2.ExP.exQ (a : ExP l H H') : ExQ l h H H' := fun c o n1 _ e => a c o n1 e
theorem exQ_h (a : ExP h H H') : ExQ l h H H' := fun c o _ n e => a c o n e
theorem _root_.L2.Same.exQ (a : Same H H') : ExQ l h H H' := fun c o _ _ e => a c o e
theorem sqT_q {a : Addr} {xs L M : List V} (hl : H l = some (.lst L)) (hh : H h = some (.lst M)) (e : ExQ l h H H') (s : SqT K H a xs) : SqT K H' a xs := by
  rcases s with (s | ⟨o, s⟩) | s
  · exact .inl (.inl (e _ _ (ne_of s hl (by intro z; cases z)) (ne_of s hh (by intro z; cases z)) s))
  · exact .inl (.inr ⟨o, e _ _ (ne_of s hl (by intro z; cases z)) (ne_of s hh (by intro z; cases z)) s⟩)
  · exact .inr s
/-- it is no row, and shown, whatever the lists at l and h are -/
def Nq (K : PySem.W.Frag) (l h : Addr) (p : Nat) (H : Hp) (v : V) : Prop := ∃ d, ∀ H', ExQ l h H H' → BR K p H' v ∧ ShV K H' v d
theorem Nq.mono (a : Nq K l h p H v) (e : ExQ l h H H') : Nq K l h p H' v := let ⟨d, f⟩ := a; ⟨d, fun H2 e2 => f H2 (e.trans e2)⟩
theorem nq_val {T : String} {d : PyData} (ty : ∀ H', TyX K H' v (.type T)) (kt : kitB T "tuple" = some false) (sh : ∀ H', ShV K H' v d) : Nq K l h p H v := ⟨d, fun H' _ => ⟨.inl fun H2 _ => ⟨T, ty H2, kt⟩, sh H'⟩⟩
theorem smv_int {z : Int} (hz : Few z) : SmV 100 K H (.int z) := ⟨_, .int z, sm_int hz⟩
theorem nq_lst {b : Addr} {fs : List Int} (n1 : b ≠ l) (n2 : b ≠ h) (hb : H b = some (.lst (fs.map V.int))) (hf : ∀ z ∈ fs, Few z) (hn : fs.length ≤ 200) : Nq K l h p H (.ref b) := ⟨.list (iD fs), fun H' e => by
  have hb' := e _ _ n1 n2 hb
  exact ⟨.inl fun H2 s2 => ⟨"list", sl_ty (SqL.of (s2 _ _ hb')), by decide +kernel⟩, (sm_lstI hf hn).shV (.lst (SqL.of hb') (dp_ints fs)) (by decide)⟩⟩
theorem nq_tup {B : Nat} {a : Addr} {xs L M : List V} (hl : H l = some (.lst L)) (hh : H h = some (.lst M)) (hs : SqT K H a xs) (hz : xs.length ≤ 1000) (hB : xs.length * (B + 2) + 3 ≤ 100000)
    (m : ∀ x ∈ xs, ∃ d, Sm B d ∧ ∀ H', ExQ l h H H' → Dp K H' x d) (b : xs = [] ∨ ((∀ x ∈ xs, (∃ z : Int, x = .int z) ∨ ∀ H', ExQ l h H H' → Odd1 K H' x) ∧ ∃ x ∈ xs, BadM p x)) : Nq K l h p H (.ref a) := by
  obtain ⟨ds, g1, g2, g3⟩ := smv_allC xs m
  refine ⟨.tuple ds, fun H' e => ?_⟩
  have hs' := sqT_q hl hh e hs
  exact ⟨.inr ⟨a, xs, rfl, hs', hz, b.imp id fun ⟨b1, b2⟩ => ⟨fun x hx => (b1 x hx).imp id fun g H2 s2 => g H2 (e.trans s2.exQ), b2⟩⟩, shV_tup hs' (g3 H' e) g2 (by rw [g1]; exact hB)⟩
/-- a member that is no number below p -/
def OM (K : PySem.W.Frag) (l h : Addr) (p : Nat) (H : Hp) (v : V) : Prop := BadM p v ∧ ∃ d, Sm 100 d ∧ ∀ H', ExQ l h H H' → Dp K H' v d ∧ ((∃ z : Int, v = .int z) ∨ Odd1 K H' v)
theorem OM.mono (a : OM K l h p H v) (e : ExQ l h H H') : OM K l h p H' v := let ⟨b, d, s, f⟩ := a; ⟨b, d, s, fun H2 e2 => f H2 (e.trans e2)⟩
theorem om_int {z : Int} (hz : Few z) (hb : ¬ (0 ≤ z ∧ z < p)) : OM K l h p H (.int z) := ⟨(fun y e => by cases e; exact hb), _, sm_int hz, fun H' _ => ⟨.int z, .inl ⟨_, rfl⟩⟩⟩
theorem om_bl (b : Bool) : OM K l h p H (.bl b) := ⟨(fun y e => by cases e), _, sm_bl b, fun H' _ => ⟨.bl b, .inr (.inl ⟨b, rfl⟩)⟩⟩
theorem om_non : OM K l h p H .non := ⟨(fun y e => by cases e), _, sm_non, fun H' _ => ⟨.non, .inr (.inr ⟨"NoneType", .base .non, by decide +kernel⟩)⟩⟩
theorem om_zero : OM K l h p H (.str "0") := ⟨(fun y e => by cases e), _, sm_zero, fun H' _ => ⟨.str "0", .inr (.inr ⟨"str", .base (.str _), by decide +kernel⟩)⟩⟩
theorem sm_tup0 : Sm 100 (.tuple [.int 0]) := ⟨by simp [PyData.showable, PyData.showableAll], by simp [PyData.hasDict, PyData.hasDictAll], by simp [PyData.depth, PyData.depthAll], by simp only [PyData.shown, PyData.shownAll]; decide +kernel, by simp [okS, okSA]⟩
theorem om_tup0 {a : Addr} {L M : List V} (hl : H l = some (.lst L)) (hh : H h = some (.lst M)) (hs : SqT K H a [.int 0]) : OM K l h p H (.ref a) := ⟨(fun y e => by cases e), _, sm_tup0, fun H' e => ⟨.tup (sqT_q hl hh e hs) (.cons (.int 0) .nil), .inr (.inr ⟨"tuple", sq_ty (sqT_q hl hh e hs), by decide +kernel⟩)⟩⟩
end
section
variable {K : PySem.W.Frag} {tl : TE} {g : TG} {t : TS} {D : Ends} {σ : L2.St} {H : Hp} {j : Nat}
def ForR (J : It) (g : TG) (t : TS) (D : Ends) (σ : L2.St) (H1 : Hp) : Prop := ∃ W : Nat → Nat → L2.St → Hp → Prop, (∃ m, W 0 m σ H1) ∧ ∀ i m σ H, W i m σ H →
  (J.stop i H ∧ D.nx σ H) ∨ (J.go i H ∧ ∃ N : L2.St → Hp → Prop, (∀ σ' H', N σ' H' → ∃ m', m' < m ∧ W (i + 1) m' σ' H') ∧ ∀ x H', J.yld i H x H' → g x σ H' fun σ2 H2 => t { D with nx := N, ct := N, bk := D.nx } σ2 H2)
theorem r_forL (h : tl σ H fun x H1 => ∃ a, x = .ref a ∧ (∃ xs, SqL K H1 a xs) ∧ ForR (Itl K a) g t D σ H1) : tFor (iList K tl) g t D σ H := h
theorem forL_go {a : Addr} {xs : List V} (Pv : Nat → L2.St → Hp → Prop) (hs : SqL K H a xs) (h0 : Pv 0 σ H) (hl : ∀ i σ' H', Pv i σ' H' → SqL K H' a xs)
    (step : ∀ (i : Nat) x σ' H', xs[i]? = some x → Pv i σ' H' → TurnOf (Pv (i + 1)) D t (σ'.set j (some x)) H') (done : ∀ σ' H', Pv xs.length σ' H' → D.nx σ' H') :
    ∃ a', V.ref a = .ref a' ∧ (∃ xs, SqL K H a' xs) ∧ ForR (Itl K a') (gName j) t D σ H :=
  ⟨a, rfl, ⟨xs, hs⟩, for_list (K := K) (a := a) (xs := xs) Pv h0 (fun i σ' H' _ p => hl i σ' H' p) (fun i x σ' H' hx p => (step i x σ' H' hx p).go) done⟩
end
section
variable {K : PySem.W.Frag} {H H' : Hp} {v : V} {h : Addr} {R R' : Hp → V → Prop}
/-- R holds, and it is shown, whatever the list at h is -/
def Cl (K : PySem.W.Frag) (h : Addr) (R : Hp → V → Prop) (H : Hp) (v : V) : Prop := ∃ d, ∀ H', ExP h H H' → R H' v ∧ ShV K H' v d
theorem Cl.exP (x : ExP h H H') (c : Cl K h R H v) : Cl K h R H' v := let ⟨d, f⟩ := c; ⟨d, fun H2 x2 => f H2 (ExP.trans x x2)⟩
theorem Cl.at_ (c : Cl K h R H v) : R H v := let ⟨_, f⟩ := c; (f H (ExP.refl _ _)).1
theorem Cl.imp (f : ∀ H v, R H v → R' H v) (c : Cl K h R H v) : Cl K h R' H v := let ⟨d, g⟩ := c; ⟨d, fun H2 x2 => ⟨f _ _ (g H2 x2).1, (g H2 x2).2⟩⟩
theorem Nq.cl {l : Addr} {p : Nat} (c : Nq K l h p H v) : Cl K h (BR K p) H v := let ⟨d, f⟩ := c; ⟨d, fun H' x => f H' (exQ_h x)⟩
theorem cl_int {z : Int} (hz : Few z) (hr : ∀ H, R H (.int z)) : Cl K h R H (.int z) := ⟨_, fun H' _ => ⟨hr _, (sm_int hz).shV (.int z) (by decide)⟩⟩
theorem cl_bl (b : Bool) (hr : ∀ H, R H (.bl b)) : Cl K h R H (.bl b) := ⟨_, fun H' _ => ⟨hr _, (sm_bl b).shV (.bl b) (by decide)⟩⟩
theorem cl_non (hr : ∀ H, R H .non) : Cl K h R H .non := ⟨_, fun H' _ => ⟨hr _, sm_non.shV .non (by decide)⟩⟩
theorem cl_str {s : PySem.Str} (sm : Sm 100 (.str s)) (hr : ∀ H, R H (.str s)) : Cl K h R H (.str s) := ⟨_, fun H' _ => ⟨hr _, sm.shV (.str s) (by decide)⟩⟩
theorem cl_tup {a q : Addr} {xs : List Int} (hd : HS H h q) (hs : SqT K H a (xs.map V.int)) (hz : ∀ z ∈ xs, Few z) (hl : xs.length ≤ 200) (hr : ∀ H', SqT K H' a (xs.map V.int) → R H' (.ref a)) : Cl K h R H (.ref a) :=
  ⟨_, fun H' x => ⟨hr _ (sqT_exP hd x hs), (sm_tupI hz hl).shV (.tup (sqT_exP hd x hs) (dp_ints xs)) (by decide)⟩⟩
theorem cl_lst {a : Addr} {xs : List Int} (ne : a ≠ h) (hl : H a = some (.lst (xs.map V.int))) (hz : ∀ z ∈ xs, Few z) (hn : xs.length ≤ 200) (hr : ∀ H', SqL K H' a (xs.map V.int) → R H' (.ref a)) : Cl K h R H (.ref a) :=
  ⟨_, fun H' x => ⟨hr _ (SqL.of (x _ _ ne hl)), (sm_lstI hz hn).shV (.lst (SqL.of (x _ _ ne hl)) (dp_ints xs)) (by decide)⟩⟩
theorem badZ_int {a b z : Int} (hz : ¬ (a ≤ z ∧ z ≤ b)) : BadZ K H a b (.int z) := .inl ⟨z, rfl, hz⟩
theorem badZ_bl {a b : Int} {c : Bool} : BadZ K H a b (.bl c) := .inr fun _ _ => .inl ⟨c, rfl⟩
theorem badZ_non {a b : Int} : BadZ K H a b .non := .inr fun _ _ => .inr ⟨"NoneType", .base .non, by decide +kernel⟩
theorem badZ_str {a b : Int} {s : PySem.Str} : BadZ K H a b (.str s) := .inr fun _ _ => .inr ⟨"str", .base (.str _), by decide +kernel⟩
theorem badZ_tup {a b : Int} {t : Addr} {xs : List V} (hs : SqT K H t xs) : BadZ K H a b (.ref t) := .inr fun _ s => .inr ⟨"tuple", sq_ty (s.sqT hs), by decide +kernel⟩
theorem badZ_lst {a b : Int} {t : Addr} {xs : List V} (hs : SqL K H t xs) : BadZ K H a b (.ref t) := .inr fun _ s => .inr ⟨"list", sl_ty (s.sqL hs), by decide +kernel⟩
theorem sm_seven : Sm 100 (.str "7") := ⟨by simp [PyData.showable], by simp [PyData.hasDict], by simp [PyData.depth], by simp only [PyData.shown]; decide +kernel, by simp only [okS]; decide +kernel⟩
theorem datV_tup0 {a : Addr} {z : Int} (hs : SqT K H a ([z].map V.int)) : DatV K H (.ref a) := ⟨.tuple [.int z], .tup hs (.cons (.int z) .nil), by simp [SeqAt.shaped, PyData.canLay0, PyData.canLayAll0, PyData.depth, PyData.depthAll], by simp [PyData.eqv, PyData.eqvAll]⟩
/-- the refusal that is told at l -/
def Told (K : PySem.W.Frag) (H : Hp) (l : Addr) (name : PySem.Str) (d : PyData) : Prop := ∃ t : Addr, H l = some (.lst [.ref t]) ∧ SqT K H t [.str name, .str d.shown]
theorem Told.exP {l q : Addr} {name : PySem.Str} {d : PyData} (hs : HS H h q) (ne : l ≠ h) (x : ExP h H H') (t : Told K H l name d) : Told K H' l name d := let ⟨t, a, b⟩ := t; ⟨t, x _ _ ne a, sqT_exP hs x b⟩
theorem ne_nil {l l' : Addr} {Q : VK} (a : SqL K H l []) (b : SqL K H l' []) (q : Q (.bl false) H) : rNeD K (.ref l) (.ref l') H Q := by
  refine ⟨.list [], .list [], .lst a .nil, .lst b .nil, by decide, by decide, ?_⟩
  have e : PyData.eqv (.list []) (.list []) = true := by simp [PyData.eqv, PyData.eqvAll]
  rw [e]
  exact q
theorem told_sh {d : PyData} (hd : okS d = true) {name : PySem.Str} (hn : PyData.strOk name = true) : SeqAt.shaped (.list [.tuple [.str name, .str d.shown]]) = true := by
  have := okT_shown d hd
  simp [SeqAt.shaped, PyData.canLay0, PyData.canLayAll0, PyData.depth, PyData.depthAll, hn, this]
theorem ne_told {l l' t : Addr} {Q : VK} {d : PyData} {name : PySem.Str} (hd : okS d = true) (hn : PyData.strOk name = true) (a : H l = some (.lst [.ref t])) (at_ : SqT K H t [.str name, .str d.shown]) (b : Told K H l' name d) (q : Q (.bl false) H) : rNeD K (.ref l) (.ref l') H Q := by
  obtain ⟨t', b, bt⟩ := b
  refine ⟨.list [.tuple [.str name, .str d.shown]], .list [.tuple [.str name, .str d.shown]], .lst (SqL.of a) (.cons (.tup at_ (.cons (.str _) (.cons (.str _) .nil))) .nil), .lst (SqL.of b) (.cons (.tup bt (.cons (.str _) (.cons (.str _) .nil))) .nil), told_sh hd hn, told_sh hd hn, ?_⟩
  have e : PyData.eqv (.list [.tuple [.str name, .str d.shown]]) (.list [.tuple [.str name, .str d.shown]]) = true := by simp [PyData.eqv, PyData.eqvAll]
  rw [e]
  exact q
theorem pick2 {a b : V} {c : Prop} [Decidable c] : atI [a, b] (if decide c = true then 1 else 0) = some (if c then b else a) := by
  by_cases h : c
  · rw [if_pos (decide_eq_true h), if_pos h]; rfl
  · rw [if_neg (by rw [decide_eq_false h]; decide), if_neg h]; rfl
end
section
variable {K : PySem.W.Frag} {j : Nat} {te : TE} {ta : TA} {vs : List Nat} {σ : L2.St} {H : Hp} {Q : VK} {p q : Addr}
theorem lc_drwS (Cn : Nat → Prop) (R : V → Prop) (hta : ∀ R' : List V → Hp → Prop, (∀ (n : Nat) H1, ExP p H H1 → HS H1 p q → Cn n → n ≤ 50000 → R' [.int n] H1) → ta σ H R')
    (step : ∀ (i : Nat) H1 (Q' : VK), ExP p H H1 → HS H1 p q → (∀ v H2, ExP p H1 H2 → HS H2 p q → R v → Q' v H2) → te ((wipe σ vs).set j (some (.int (i : Int)))) H1 Q')
    (done : ∀ D L H1, ExP p H H1 → HS H1 p q → H1 D = some (.lst L) → Cn L.length → (∀ v ∈ L, R v) → Q (.ref D) H1) (hw : ∀ x, wipe ((wipe σ vs).set j (some x)) vs = wipe σ vs := by intro _; rfl) : tLc (iRng1 ta) (gName j) tYes te vs σ H Q :=
  hta _ fun n H1 x1 d1 c hn => lc_drw (ta := fun _ H R => R [.int n] H) R d1 hn (fun _ h => h) (fun i H2 Q' _ x d k => step i H2 Q' (ExP.trans x1 x) d k) (fun D L H2 _ x d hL len r => done D L H2 (ExP.trans x1 x) d hL (len ▸ c) r) hw
end
theorem cut_m1 {xs : List V} : cutV xs none (some (-1)) = xs.take (xs.length - 1) := by
  unfold cutV
  rw [HT.sIx_none, Nat.sub_zero, List.drop_zero]
  show xs.take (if (-1 : Int) < 0 then ((-1 : Int) + (xs.length : Int)).toNat else min (-1 : Int).toNat xs.length) = _
  rw [if_pos (by decide)]
  congr 1
  omega
end Wk
namespace Wk
open PySem PySem.Spec PyProof.Rows L2
def tTru (K : PySem.W.Frag) (ta : TE) : TT := fun σ H Q => ta σ H fun x H' => ∃ k, TruV K x H' k ∧ Q k H'
theorem pt_truK {X : Cx} {a : Expr} {ta : TE} (K : PySem.W.Frag) (ha : PE X a ta) (he : ∀ whole, isTrue a X.env whole = (do let v ← whole; standAt a.pos; holding [v] (truthy v))) (hK : X.K = K := by rfl) :
    PT X a (tTru K ta) := by subst hK; exact pt_truth ha he
theorem r_tru {K : PySem.W.Frag} {ta : TE} {σ : L2.St} {H : Hp} {Q : Bool → Hp → Prop} (h : ta σ H fun x H' => ∃ k, TruV K x H' k ∧ Q k H') : tTru K ta σ H Q := h
theorem r_tIf {tt : TT} {ta tb : TE} {σ : L2.St} {H : Hp} {Q : VK} (h : tt σ H fun c H1 => if c = true then ta σ H1 Q else tb σ H1 Q) : tIf tt ta tb σ H Q := h
theorem tru_int {K : PySem.W.Frag} {i : Int} {H : Hp} {QT : Bool → Hp → Prop} (h : QT (i != 0) H) : ∃ k, TruV K (.int i) H k ∧ QT k H := ⟨_, rfl, h⟩
end Wk
namespace Wk
open PySem PySem.Spec PyProof.Rows L2
section
variable {ta : TA} {g : TG} {t : TS} {D : Ends} {σ : L2.St} {H : Hp} {j : Nat}
theorem r_forR (h : ta σ H fun vs H1 => ∃ j : Int, vs = [.int j] ∧ -(2 ^ 62) ≤ j ∧ j < 2 ^ 62 ∧ ForR (Itr 0 j.toNat) g t D σ H1) : tFor (iRng1 ta) g t D σ H := h
theorem forR_go {n : Nat} (Pv : Nat → L2.St → Hp → Prop) (hn : n ≤ 1000000) (h0 : Pv 0 σ H) (step : ∀ (i : Nat) σ' H', i < n → Pv i σ' H' → TurnOf (Pv (i + 1)) D t (σ'.set j (some (.int (i : Int)))) H') (done : ∀ σ' H', Pv n σ' H' → D.nx σ' H') :
    -(2 ^ 62) ≤ (n : Int) ∧ (n : Int) < 2 ^ 62 ∧ ForR (Itr 0 (n : Int).toNat) (gName j) t D σ H := by
  refine ⟨by omega, by omega, ?_⟩
  have en : ((n : Int)).toNat = n := Int.toNat_natCast n
  rw [en]
  refine for_range (lo := 0) (n := n) Pv h0 (fun i σ' H' hi p => ?_) done
  have e0 : (0 : Int) + (i : Int) = (i : Int) := Int.zero_add _
  rw [e0]
  exact (step i σ' H' hi p).go
end
end Wk
end
section
set_option Elab.async false
set_option linter.all false
set_option maxRecDepth 100000
/-! a refusal that was told, against the one that is due; what is kept -/
namespace Wk
open PySem PySem.Spec PyProof.Rows L2
section
variable {K : PySem.W.Frag} {H Hf : Hp} {l t : Addr} {v : V} {d : PyData} {name : PySem.Str} {Q : VK}
theorem told_eqD {l' : Addr} (hd : okS d = true) (hn : PyData.strOk name = true) (a : H l = some (.lst [.ref t])) (at_ : SqT K H t [.str name, .str d.shown]) (b : Told K H l' name d) (q : Q (.bl true) H) : rEqD K (.ref l) (.ref l') H Q := by
  obtain ⟨t', b, bt⟩ := b
  refine ⟨.list [.tuple [.str name, .str d.shown]], .list [.tuple [.str name, .str d.shown]], .lst (SqL.of a) (.cons (.tup at_ (.cons (.str _) (.cons (.str _) .nil))) .nil), .lst (SqL.of b) (.cons (.tup bt (.cons (.str _) (.cons (.str _) .nil))) .nil), told_sh hd hn, told_sh hd hn, ?_⟩
  have e : PyData.eqv (.list [.tuple [.str name, .str d.shown]]) (.list [.tuple [.str name, .str d.shown]]) = true := by simp [PyData.eqv, PyData.eqvAll]
  rw [e]
  exact q
/-- told != [(name, repr(v))] -/
theorem told_stepN (sh : ∀ H', Same H H' → ShV K H' v d) (s : Same H Hf) (hn : PyData.strOk name = true) (hl : Hf l = some (.lst [.ref t])) (ht : SqT K Hf t [.str name, .str d.shown]) (q : ∀ H', Same H H' → Q (.bl false) H') :
    rRepr K [v] Hf fun x H1 => [V.str name, x].length ≤ sizeLine ∧ ∀ p, H1 p = none → [V.ref p].length ≤ sizeLine ∧ ∀ p', (upd H1 p (.tup [V.str name, x])) p' = none → rNeD K (.ref l) (.ref p') (upd (upd H1 p (.tup [V.str name, x])) p' (.lst [V.ref p])) Q := by
  refine r_reprU (sh _ s) ⟨szl (by simp), fun p hp => ⟨szl (by simp), fun p' hp' => ?_⟩⟩
  have s1 := same_new (o := .tup [V.str name, V.str d.shown]) hp
  have h1 : SqT K (upd Hf p (.tup [V.str name, V.str d.shown])) p [V.str name, V.str d.shown] := SqT.of upd_same
  have s2 := same_new (o := .lst [V.ref p]) hp'
  exact ne_told (sh _ s).ok hn (s2 _ _ (s1 _ _ hl)) (s2.sqT (s1.sqT ht)) ⟨p, upd_same, s2.sqT h1⟩ (q _ ((s.trans s1).trans s2))
theorem told_stepE (sh : ∀ H', Same H H' → ShV K H' v d) (s : Same H Hf) (hn : PyData.strOk name = true) (hl : Hf l = some (.lst [.ref t])) (ht : SqT K Hf t [.str name, .str d.shown]) (q : ∀ H', Same H H' → Q (.bl true) H') :
    rRepr K [v] Hf fun x H1 => [V.str name, x].length ≤ sizeLine ∧ ∀ p, H1 p = none → [V.ref p].length ≤ sizeLine ∧ ∀ p', (upd H1 p (.tup [V.str name, x])) p' = none → rEqD K (.ref l) (.ref p') (upd (upd H1 p (.tup [V.str name, x])) p' (.lst [V.ref p])) Q := by
  refine r_reprU (sh _ s) ⟨szl (by simp), fun p hp => ⟨szl (by simp), fun p' hp' => ?_⟩⟩
  have s1 := same_new (o := .tup [V.str name, V.str d.shown]) hp
  have h1 : SqT K (upd Hf p (.tup [V.str name, V.str d.shown])) p [V.str name, V.str d.shown] := SqT.of upd_same
  have s2 := same_new (o := .lst [V.ref p]) hp'
  exact told_eqD (sh _ s).ok hn (s2 _ _ (s1 _ _ hl)) (s2.sqT (s1.sqT ht)) ⟨p, upd_same, s2.sqT h1⟩ (q _ ((s.trans s1).trans s2))
end
theorem ints_list {L : List V} {n : Nat} {f : Nat → Int} (len : L.length = n) (r : ∀ (i : Nat) v, L[i]? = some v → v = .int (f i)) : L = ((List.range n).map f).map V.int := by
  apply List.ext_getElem?
  intro i
  rw [List.getElem?_map, List.getElem?_map]
  by_cases c : i < n
  · rw [List.getElem?_range c]
    have h := List.getElem?_eq_getElem (l := L) (i := i) (by omega)
    rw [h]
    exact congrArg some (r i _ h)
  · rw [List.getElem?_eq_none (by omega), List.getElem?_eq_none (by rw [List.length_range]; omega)]
    rfl
theorem ints_at_some {l : List Int} {i : Nat} {y : V} (h : (l.map V.int)[i]? = some y) : i < l.length ∧ y = .int (atI' l i) := by
  rw [List.getElem?_map] at h
  cases c : l[i]? with
  | none => rw [c] at h; cases h
  | some z =>
    rw [c] at h
    cases h
    have hi : i < l.length := (List.getElem?_eq_some_iff.mp c).1
    rw [at_get hi] at c
    cases c
    exact ⟨hi, rfl⟩
end Wk
end
section
set_option Elab.async false
set_option linter.all false
set_option maxRecDepth 100000
/-! objects with methods, properties, and an __init__ that may raise: over the room of Q0 -/
namespace Wk
open PySem PySem.Spec PyProof.Rows L2
section
variable {X : Cx} {CX : CXT} {C a dx p g : Addr} {k : Nat} {sp : Sp} {e o : Expr} {es : List Expr} {ta : TE} {t : TA} {x m f : PySem.Str} {apos pos : Pos} {ps : List PySem.Str} {fs : List (Str × V)} {fd : FuncData} {W : WX}
theorem pe_m {pl : Sem Bool} (he : PE X o ta) (c : Cls X.K C) (M : KeepM X.prog X.w X.K X.mg X.base k C m ps sp) (hr : Room k X.A) (ha : PA X (e :: es) t)
    (hst : starEach (e :: es) X.env = (false, eval e X.env) :: starEach es X.env := by rfl) (hpl : (backTo pos (starEach es X.env)).any (·.1) = false := by rfl)
    (ht : eval (.Call (.Attribute o m apos) (e :: es) [] pos) X.env = (do
      let ov ← eval o X.env
      standAt apos.atName
      let (f, first) ← holding [ov] (getMethod ov m pl)
      callWith pos f first (backTo pos (starEach (e :: es) X.env)) (backToKw pos (keywordEach [] X.env))) := by rfl) :
    PE X (.Call (.Attribute o m apos) (e :: es) [] pos) (tMeth C m sp [] E0 ta t) := by
  obtain ⟨f, fd, F, M, hb⟩ := M
  exact pe_meth he c M F hr hb .nil pass0 ha hst hpl ht
theorem pe_m0 {pl : Sem Bool} (he : PE X o ta) (c : Cls X.K C) (M : KeepM X.prog X.w X.K X.mg X.base k C m ps sp) (hr : Room k X.A)
    (ht : eval (.Call (.Attribute o m apos) [] [] pos) X.env = (do
      let ov ← eval o X.env
      standAt apos.atName
      let (f, first) ← holding [ov] (getMethod ov m pl)
      callWith pos f first (backTo pos (starEach [] X.env)) (backToKw pos (keywordEach [] X.env))) := by rfl) :
    PE X (.Call (.Attribute o m apos) [] [] pos) (tMeth C m sp [] E0 ta tNil) := by
  obtain ⟨f, fd, F, M, hb⟩ := M
  exact pe_meth0 he c M F hr hb .nil pass0 ht
theorem r_meth {ta : TE} {t : TA} {dvs : List V} {E : XK} {σ : L2.St} {H : Hp} {Q : VK} (h : ta σ H fun x H1 => ∃ a dx fs, x = .ref a ∧ H1 a = some (.ins C dx fs) ∧ fs.lookup m = none ∧ t σ H1 fun vs H2 => sp (x :: (vs ++ dvs)) H2 Q E) : tMeth C m sp dvs E ta t σ H Q := h
theorem r_fldaug {K : PySem.W.Frag} {tv : TE} {rd : V → V → Hp → VK → Prop} {D : Ends} {σ : L2.St} {H : Hp} (h : ta σ H fun x H1 => ∃ a C dx fs v, x = .ref a ∧ H1 a = some (.ins C dx fs) ∧ Cls K C ∧ NoAttr K C f ∧ fs.lookup f = some v ∧
  tv σ H1 fun y H2 => rd v y H2 fun z H3 => ∃ dx' fs', H3 a = some (.ins C dx' fs') ∧ fs'.length < 1000 ∧ D.nx σ (upd H3 a (.ins C dx' (putF f z fs')))) : sFldAug K ta tv rd f D σ H := h
/-- a property of the class keeps sp -/
def KeepP (P : Program) (w : World) (K : PySem.W.Frag) (mg : PySem.Str → Option Value) (base : Heap) (k : Nat) (C : Addr) (x : PySem.Str) (ps : List PySem.Str) (sp : Sp) : Prop :=
  ∃ p f fd, FnOk P w K mg base CX0 k f fd ps sp ∧ PropOf K C x p f ∧ Binds K fd ps []
/-- the property is read off the object -/
theorem prop_read {pins : List (Addr × Obj)} {σ : L2.St} {H : Hp} {s : Shared} {Q : VK} {b : Bool} {R : Value → Shared → Prop} (I : Inv X pins σ H s) (ea : H a = some (.ins C dx fs)) (c : Cls X.K C) (hp : PropOf X.K C f p g)
    (F : FnOk X.prog X.w X.K X.mg X.base CX0 k g fd ps sp) (hr : Room (k + 1) X.A) (hb : Binds X.K fd ps []) (h : sp [.ref a] H Q E0) : wpAny (model X.prog X.w) X.A (getAttr (.ref a) f b) (EP X pins σ Q) R s := by
  obtain ⟨_, O, _⟩ := ins_get I.hok ea
  obtain ⟨_, J, _⟩ := O.look
  obtain ⟨_, hrec⟩ := hp.rec_
  have I2 := I.tok (s.toks + 1)
  have ll : [Value.ref a].length = ps.length := (F.len _ _ _ _ h).symm ▸ rfl
  have cls : (PySem.W.clsIn X.K C).isSome = true := by
    obtain ⟨_, e, _⟩ := PySem.W.any_some c.hd
    rw [e] <;> rfl
  have gg := PySem.W.plainGet_of (c.get f)
  refine PySem.W.get_bind I.kIn J gg.1 (PySem.W.findObj_data cls hp.at_ hp.get hp.tak) gg.2 (wpAny_call (PySem.W.prop_get (s := { s with toks := s.toks + 1 }) I.kIn hrec ?_))
  have run := F.run X.A.in1 X.stack { s with toks := s.toks + 1 } H ⟨[.ref a], []⟩ [.ref a] [.ref a] Q E0 hr.in1 I2.env0.in1 (by have := hb _ [.ref a] I2.kIn (by simpa using ll); simpa using this) (.cons rfl .nil) h
  refine codeAny_mono run fun r s' hq => ?_
  rcases r with er | fl
  · exact hq.elim
  · cases fl with
    | ret u =>
      obtain ⟨v, H', I3, rv, q3⟩ := I2.after hq
      show wpAny _ _ (handedOut u) _ _ _
      rw [PySem.W.handedOut_of (handed_of rv)]
      exact wpAny_pure ⟨v, H', I3, rv, q3⟩
    | _ => exact hq.elim
theorem e_prop (he : PE X e ta) (c : Cls X.K C) (M : KeepP X.prog X.w X.K X.mg X.base k C f ps sp) (hr : Room (k + 1) X.A) (hab : attributeBase e f X.env (eval e X.env) = eval e X.env) : PE X (.Attribute e f pos) (tProp C sp [] E0 ta) := by
  obtain ⟨p, g, fd, F, M, hb⟩ := M
  refine ⟨fun pins s σ H Q I h => attr_of hab (thn (he.run pins s σ H _ I h) fun u s1 z => ?_)⟩
  obtain ⟨y, H1, I1, ry, b, dy, gs, ey, eb, q⟩ := z
  subst ey
  obtain rfl : u = Value.ref b := ry
  exact prop_read I1 eb c M F hr hb q
theorem r_prop {ta : TE} {dvs : List V} {E : XK} {σ : L2.St} {H : Hp} {Q : VK} (h : ta σ H fun x H1 => ∃ a dx fs, x = .ref a ∧ H1 a = some (.ins C dx fs) ∧ sp (.ref a :: dvs) H1 Q E) : tProp C sp dvs E ta σ H Q := h
/-- the class is called: its __init__ keeps sp -/
def KeepC0 (P : Program) (w : World) (K : PySem.W.Frag) (mg : PySem.Str → Option Value) (base : Heap) (k : Nat) (C : Addr) (ps : List PySem.Str) (sp : Sp) : Prop :=
  ∃ f fd, Mk K C f ∧ FnOk P w K mg base CX0 k f fd ps sp ∧ Binds K fd ps []
theorem e_make0 (M : KeepC0 X.prog X.w X.K X.mg X.base k C ps sp) (hr : Room (k + 1) X.A) (hg : Gl X x) (hm : X.mg x = some (.ref C)) (ha : PA X (e :: es) t) (hdb : (x == ("__debug__" : PySem.Str)) = false := by decide)
    (he : starEach (e :: es) X.env = (false, eval e X.env) :: starEach es X.env := by rfl) (hpl : (backTo pos (starEach es X.env)).any (·.1) = false := by rfl) : PE X (.Call (.Name x apos) (e :: es) [] pos) (tMake C sp [] E0 t) := by
  obtain ⟨f, fd, M, F, hb⟩ := M
  exact pe_make M F hr hg hm hb .nil pass0 ha hdb he hpl
theorem r_make {dvs : List V} {E : XK} {σ : L2.St} {H : Hp} {Q : VK} (h : t σ H fun vs H1 => ∀ x dx, H1 x = none → H1 dx = none → dx ≠ x → sp (.ref x :: (vs ++ dvs)) (upd (upd H1 dx (.own x)) x (.ins C dx [])) (fun v H2 => v = .non ∧ Q (.ref x) H2) E) : tMake C sp dvs E t σ H Q := h
/-- the class is called, its __init__ may raise -/
def KeepCX (P : Program) (w : World) (K : PySem.W.Frag) (mg : PySem.Str → Option Value) (base : Heap) (k : Nat) (C : Addr) (ps : List PySem.Str) (sp : Sp) : Prop :=
  ∃ f fd, Mk K C f ∧ FnOk P w K mg base (L2.CX P w) k f fd ps sp ∧ Binds K fd ps []
def tMakeX (C : Addr) (sp : Sp) (E : L2.St → XK) (t : TA) : TE := fun σ H Q => t σ H fun vs H1 => ∀ x dx, H1 x = none → H1 dx = none → dx ≠ x → sp (.ref x :: vs) (upd (upd H1 dx (.own x)) x (.ins C dx [])) (fun v H2 => v = .non ∧ Q (.ref x) H2) (E σ)
theorem r_makeX {E : L2.St → XK} {σ : L2.St} {H : Hp} {Q : VK} (h : t σ H fun vs H1 => ∀ x dx, H1 x = none → H1 dx = none → dx ≠ x → sp (.ref x :: vs) (upd (upd H1 dx (.own x)) x (.ins C dx [])) (fun v H2 => v = .non ∧ Q (.ref x) H2) (E σ)) : tMakeX C sp E t σ H Q := h
theorem run_makeX {E : XK} {pins : List (Addr × Obj)} {σ : L2.St} {H : Hp} {s : Shared} {Q : VK} {us : List Value} {vs : List V} {f : Addr} (M : Mk X.K C f) (F : FnOk X.prog X.w X.K X.mg X.base CX k f fd ps sp) (hr : Room (k + 1) X.A) (hb : Binds X.K fd ps [])
    (hx : PassesAt CX X σ E) (I : Inv X pins σ H s) (r : Vals vs us)
    (h : ∀ x dx, H x = none → H dx = none → dx ≠ x → sp (.ref x :: vs) (upd (upd H dx (.own x)) x (.ins C dx [])) (fun v H2 => v = .non ∧ Q (.ref x) H2) E) : wpAny (model X.prog X.w) X.A (call (.ref C) us) (EP X pins σ Q) X.xe s := by
  have q0 := h (s.heap.objs.size + 1) s.heap.objs.size (I.hok.fresh (Nat.le_succ _)) (I.hok.fresh (Nat.le_refl _)) (Nat.ne_of_lt (Nat.lt_succ_self _))
  have I2 := Inv.made (C := C) I
  have rr : Vals (V.ref (s.heap.objs.size + 1) :: vs) (Value.ref (s.heap.objs.size + 1) :: us) := .cons rfl r
  have ll : (Value.ref (s.heap.objs.size + 1) :: us ++ []).length = ps.length := by
    rw [← F.len _ _ _ _ q0, List.append_nil]
    exact rr.length.symm
  have bb := hb _ (Value.ref (s.heap.objs.size + 1) :: us) I2.kIn ll
  rw [List.append_nil] at bb
  refine wpAny_call (make_map (f := f) I.kIn M.makes M.init (beq_iff_eq.mp M.fn) (codeAny_mono (F.run _ X.stack _ _ ⟨Value.ref (s.heap.objs.size + 1) :: us, []⟩ _ _ _ E (hr.make C us []) (I2.env0.make C us []) bb rr q0) fun res s' hq => ?_))
  rcases res with er | fl
  · exact hx pins _ _ er s' I2 hq
  · cases fl with
    | ret u =>
      obtain ⟨v, H', I3, rv, ev, q3⟩ := I2.after hq
      subst ev
      exact ⟨rv, V.ref (s.heap.objs.size + 1), H', I3, rfl, q3⟩
    | _ => exact hq.elim
theorem e_makeX (M : KeepCX X.prog X.w X.K X.mg X.base k C ps sp) (hr : Room (k + 1) X.A) (tk : Takes X W) (hg : Gl X x) (hm : X.mg x = some (.ref C)) (ha : PA X (e :: es) t) (hdb : (x == ("__debug__" : PySem.Str)) = false := by decide)
    (he : starEach (e :: es) X.env = (false, eval e X.env) :: starEach es X.env := by rfl) (hpl : (backTo pos (starEach es X.env)).any (·.1) = false := by rfl) : PE X (.Call (.Name x apos) (e :: es) [] pos) (tMakeX C sp (WE W) t) := by
  obtain ⟨f, fd, M, F, hb⟩ := M
  refine ⟨fun pins s σ H Q I h => wpAny_Call_Name_kw (ld_glob I hg hm ?_ hdb)⟩
  refine PySem.W.callWith_K (h₀ := X.base) I.ok.mod.kin M.kp (thn (ha.run pos pins s σ H _ I h) fun us s1 z => ?_) he hpl
  obtain ⟨vs, H1, I1, r, q⟩ := z
  exact ⟨I1.kIn, run_makeX M F hr hb (passAt tk σ) I1 r q⟩
end
end Wk
end
section
set_option Elab.async false
set_option linter.all false
set_option maxRecDepth 100000
namespace Wk
open PySem PySem.Spec PyProof.Rows L2
/-- at D a list of n lists, each an object of its own -/
structure NR (H : Hp) (D : Addr) (n : Nat) (F : Nat → List V) (bs : List Addr) : Prop where
  at_ : H D = some (.lst (bs.map V.ref))
  len : bs.length = n
  nd : bs.Nodup
  out : D ∉ bs
  rows : ∀ k b, bs[k]? = some b → H b = some (.lst (F k))
theorem NR.mono {H H' : Hp} {D : Addr} {n : Nat} {F : Nat → List V} {bs : List Addr} (s : Same H H') (h : NR H D n F bs) : NR H' D n F bs := { h with at_ := s _ _ h.at_, rows := fun k b e => s _ _ (h.rows k b e) }
theorem NR.exP {H H' : Hp} {D h : Addr} {n : Nat} {F : Nat → List V} {bs : List Addr} (n1 : D ≠ h) (n2 : h ∉ bs) (s : ExP h H H') (r : NR H D n F bs) : NR H' D n F bs := { r with at_ := s _ _ n1 r.at_, rows := fun k b e => s _ _ (fun q => n2 (q ▸ List.mem_of_getElem? e)) (r.rows k b e) }
theorem NR.get {H : Hp} {D : Addr} {n : Nat} {F : Nat → List V} {bs : List Addr} (r : NR H D n F bs) {x : Nat} (hx : x < n) : ∃ b, bs[x]? = some b ∧ b ∈ bs ∧ (bs.map V.ref)[x]? = some (.ref b) ∧ H b = some (.lst (F x)) := by
  have hl : x < bs.length := by rw [r.len]; exact hx
  refine ⟨bs[x], List.getElem?_eq_getElem hl, List.getElem_mem hl, ?_, r.rows x _ (List.getElem?_eq_getElem hl)⟩
  rw [List.getElem?_map, List.getElem?_eq_getElem hl]
  rfl
/-- one row is changed -/
theorem NR.set {H : Hp} {D : Addr} {n x : Nat} {F G : Nat → List V} {bs : List Addr} {b : Addr} (r : NR H D n F bs) (hb : bs[x]? = some b) (e : ∀ k, k ≠ x → k < n → G k = F k) : NR (upd H b (.lst (G x))) D n G bs := by
  have nD : D ≠ b := fun q => r.out (q ▸ List.mem_of_getElem? hb)
  refine { r with at_ := by rw [upd_ne nD]; exact r.at_, rows := fun k c hc => ?_ }
  by_cases h : k = x
  · subst h
    rw [hb] at hc
    cases hc
    exact upd_same
  · have ne : c ≠ b := fun q => by
      subst q
      obtain ⟨h1, e1⟩ := List.getElem?_eq_some_iff.mp hc
      obtain ⟨h2, e2⟩ := List.getElem?_eq_some_iff.mp hb
      have pw := List.pairwise_iff_getElem.mp r.nd
      rcases Nat.lt_trichotomy k x with g | g | g
      · exact pw k x h1 h2 g (e1.trans e2.symm)
      · exact h g
      · exact pw x k h2 h1 g (e2.trans e1.symm)
    have hk : k < n := by rw [← r.len]; exact (List.getElem?_eq_some_iff.mp hc).1
    rw [upd_ne ne, e k h hk]
    exact r.rows k c hc
section
variable {n : Nat} {ta : TA} {te : TE} {j : Nat} {vs : List Nat} {σ : L2.St} {H : Hp} {Q : VK}
theorem lc_rngN (F : Nat → List V) (hn : n ≤ 50000) (hta : ∀ R' : List V → Hp → Prop, R' [.int n] H → ta σ H R')
    (step : ∀ (i : Nat) H1 (Q' : VK), i < n → Same H H1 → (∀ b H2, H1 b = none → Same H1 H2 → H2 b = some (.lst (F i)) → Q' (.ref b) H2) → te ((wipe σ vs).set j (some (.int (i : Int)))) H1 Q')
    (done : ∀ D bs H1, H D = none → Same H H1 → NR H1 D n F bs → (∀ b ∈ bs, H b = none) → Q (.ref D) H1) (hw : ∀ x, wipe ((wipe σ vs).set j (some x)) vs = wipe σ vs := by intro _; rfl) : tLc (iRng1 ta) (gName j) tYes te vs σ H Q := by
  refine hta _ ⟨n, rfl, by omega, by omega, fun D hD => ?_⟩
  have en : ((n : Int)).toNat = n := Int.toNat_natCast n
  rw [en]
  refine lc_range (lo := 0) (n := n) (fun i H1 => ∃ bs, Same H H1 ∧ NR H1 D i F bs ∧ ∀ b ∈ bs, H b = none) ⟨[], same_new hD, ⟨upd_same, rfl, List.nodup_nil, List.not_mem_nil, fun k b e => by simp at e⟩, fun b e => by simp at e⟩ ?_ ?_
  · rintro i H1 hi ⟨bs, s1, r, fr⟩
    have e0 : (0 : Int) + (i : Int) = (i : Int) := Int.zero_add _
    rw [e0]
    refine ⟨hw _, ?_⟩
    show te _ H1 _
    refine step i H1 _ hi s1 fun b H2 nb s2 hb => ?_
    have r2 := r.mono s2
    have nbs : b ∉ bs := fun m => by
      obtain ⟨k, hk⟩ := List.mem_iff_getElem?.mp m
      rw [r.rows k b hk] at nb
      cases nb
    have nbD : b ≠ D := fun q => by rw [q, r.at_] at nb; cases nb
    refine ⟨_, r2.at_, szlt (by rw [List.length_map, r.len]; omega), bs ++ [b], fun c o e => ?_, ⟨?_, by rw [List.length_append, r.len]; rfl, ?_, ?_, fun k c e => ?_⟩, fun c m => ?_⟩
    · rw [upd_ne (ne_of_none e hD)]; exact s2 _ _ (s1 _ _ e)
    · rw [upd_same, List.map_append]; rfl
    · rw [List.nodup_append]
      exact ⟨r.nd, List.nodup_cons.mpr ⟨List.not_mem_nil, List.nodup_nil⟩, fun c hc d hd q => by rw [List.mem_singleton.mp hd] at q; exact nbs (q ▸ hc)⟩
    · intro m
      rcases List.mem_append.mp m with m | m
      · exact r.out m
      · exact nbD (List.mem_singleton.mp m).symm
    · rcases get_snoc e with ⟨_, q⟩ | ⟨q, rfl⟩
      · rw [upd_ne (fun z : c = D => r.out (by rw [← z]; exact List.mem_of_getElem? q))]
        exact r2.rows k c q
      · rw [q, r.len, upd_ne nbD]
        exact hb
    · rcases List.mem_append.mp m with m | m
      · exact fr c m
      · rw [List.mem_singleton.mp m]
        exact s1.free nb
  · rintro H1 ⟨bs, s1, r, fr⟩
    exact done D bs H1 hD s1 r fr
end
end Wk
end
section
set_option Elab.async false
set_option linter.all false
set_option maxRecDepth 100000
namespace Wk
open PySem PySem.Spec PyProof.Rows L2
section
variable {K : PySem.W.Frag} {n : Nat} {tl te : TE} {j : Nat} {vs : List Nat} {σ : L2.St} {H : Hp} {Q : VK} {a : Addr} {xs : List V}
/-- over a list, the items new lists -/
theorem lc_lstN (F : Nat → List V) (hs : SqL K H a xs) (hn : xs.length ≤ 50000) (htl : ∀ R' : V → Hp → Prop, R' (.ref a) H → tl σ H R')
    (step : ∀ (i : Nat) x H1 (Q' : VK), xs[i]? = some x → Same H H1 → (∀ b H2, H1 b = none → Same H1 H2 → H2 b = some (.lst (F i)) → Q' (.ref b) H2) → te ((wipe σ vs).set j (some x)) H1 Q')
    (done : ∀ D bs H1, H D = none → Same H H1 → NR H1 D xs.length F bs → (∀ b ∈ bs, H b = none) → Q (.ref D) H1) (hw : ∀ x, wipe ((wipe σ vs).set j (some x)) vs = wipe σ vs := by intro _; rfl) : tLc (iList K tl) (gName j) tYes te vs σ H Q := by
  refine htl _ ⟨a, rfl, ⟨xs, hs⟩, fun D hD => ?_⟩
  refine lc_list (K := K) (a := a) (xs := xs) (fun i H1 => ∃ bs, Same H H1 ∧ NR H1 D i F bs ∧ ∀ b ∈ bs, H b = none) ⟨[], same_new hD, ⟨upd_same, rfl, List.nodup_nil, List.not_mem_nil, fun k b e => by simp at e⟩, fun b e => by simp at e⟩ (fun i H1 _ ⟨_, s1, _⟩ => s1.seq hs) ?_ ?_
  · rintro i x H1 hx ⟨bs, s1, r, fr⟩
    refine ⟨hw _, ?_⟩
    show te _ H1 _
    refine step i x H1 _ hx s1 fun b H2 nb s2 hb => ?_
    have hi : i < xs.length := (List.getElem?_eq_some_iff.mp hx).1
    have r2 := r.mono s2
    have nbs : b ∉ bs := fun m => by
      obtain ⟨k, hk⟩ := List.mem_iff_getElem?.mp m
      rw [r.rows k b hk] at nb
      cases nb
    have nbD : b ≠ D := fun q => by rw [q, r.at_] at nb; cases nb
    refine ⟨_, r2.at_, szlt (by rw [List.length_map, r.len]; omega), bs ++ [b], fun c o e => ?_, ⟨?_, by rw [List.length_append, r.len]; rfl, ?_, ?_, fun k c e => ?_⟩, fun c m => ?_⟩
    · rw [upd_ne (ne_of_none e hD)]; exact s2 _ _ (s1 _ _ e)
    · rw [upd_same, List.map_append]; rfl
    · rw [List.nodup_append]
      exact ⟨r.nd, List.nodup_cons.mpr ⟨List.not_mem_nil, List.nodup_nil⟩, fun c hc d hd q => by rw [List.mem_singleton.mp hd] at q; exact nbs (q ▸ hc)⟩
    · intro m
      rcases List.mem_append.mp m with m | m
      · exact r.out m
      · exact nbD (List.mem_singleton.mp m).symm
    · rcases get_snoc e with ⟨_, q⟩ | ⟨q, rfl⟩
      · rw [upd_ne (fun z : c = D => r.out (by rw [← z]; exact List.mem_of_getElem? q))]
        exact r2.rows k c q
      · rw [q, r.len, upd_ne nbD]
        exact hb
    · rcases List.mem_append.mp m with m | m
      · exact fr c m
      · rw [List.mem_singleton.mp m]
        exact s1.free nb
  · rintro H1 ⟨bs, s1, r, fr⟩
    exact done D bs H1 hD s1 r fr
end
/-- a list that is a permutation of the numbers below n tells one -/
theorem perm_list {n : Nat} {L : List Nat} (h : L.Perm (List.range n)) : ∃ o p, G.Perm n o p ∧ L = (List.range n).map o := by
  have hl : L.length = n := by rw [h.length_eq, List.length_range]
  have hm : ∀ x, x ∈ L ↔ x < n := fun x => by rw [h.mem_iff, List.mem_range]
  have hd : L.Nodup := h.nodup_iff.mpr List.nodup_range
  have g : ∀ y : Nat, ∃ i : Nat, y < n → i < n ∧ L.getD i 0 = y := fun y => by
    by_cases c : y < n
    · obtain ⟨i, hi, e⟩ := List.getElem_of_mem ((hm y).mpr c)
      exact ⟨i, fun _ => ⟨by omega, by rw [List.getD_eq_getElem?_getD, List.getElem?_eq_getElem hi, e]; rfl⟩⟩
    · exact ⟨0, fun h => absurd h c⟩
  obtain ⟨p, hp⟩ := Classical.axiomOfChoice g
  have at_ : ∀ x, x < n → ∃ hx : x < L.length, L.getD x 0 = L[x] := fun x hx => ⟨by omega, by rw [List.getD_eq_getElem?_getD, List.getElem?_eq_getElem (by omega)]; rfl⟩
  have ol : ∀ x, x < n → L.getD x 0 < n := fun x hx => by
    obtain ⟨h1, e⟩ := at_ x hx
    rw [e]
    exact (hm _).mp (List.getElem_mem h1)
  have op : ∀ x, x < n → L.getD (p x) 0 = x := fun x hx => (hp x hx).2
  refine ⟨fun i => L.getD i 0, p, ⟨ol, fun x hx => (hp x hx).1, fun x hx => ?_, op⟩, ?_⟩
  · have e := op _ (ol x hx)
    obtain ⟨h1, e1⟩ := at_ _ (hp _ (ol x hx)).1
    obtain ⟨h2, e2⟩ := at_ x hx
    have e3 : L[p (L.getD x 0)] = L[x] := by rw [← e1, ← e2]; exact e
    have pw := List.pairwise_iff_getElem.mp hd
    rcases Nat.lt_trichotomy (p (L.getD x 0)) x with g | g | g
    · exact absurd e3 (pw _ _ h1 h2 g)
    · exact g
    · exact absurd e3.symm (pw _ _ h2 h1 g)
  · apply List.ext_getElem?
    intro i
    rw [List.getElem?_map]
    by_cases c : i < n
    · rw [List.getElem?_range c, List.getElem?_eq_getElem (by omega)]
      obtain ⟨h1, e⟩ := at_ i c
      exact congrArg some e.symm
    · rw [List.getElem?_eq_none (by omega), List.getElem?_eq_none (by rw [List.length_range]; omega)]
      rfl
end Wk
end
section
set_option linter.all false
/-! Powers and orders in a group on the numbers below n. Core Lean. -/
namespace G
def pw (m : Nat → Nat → Nat) (e x : Nat) : Nat → Nat
  | 0 => e
  | k + 1 => m (pw m e x k) x
section
variable {n e x : Nat} {m : Nat → Nat → Nat}
theorem pw_lt (g : Grp n m) (he : IsNe n m e) (hx : x < n) : ∀ k, pw m e x k < n
  | 0 => he.lt
  | k + 1 => g.cl _ _ (pw_lt g he hx k) hx
theorem pw_one (he : IsNe n m e) (hx : x < n) : pw m e x 1 = x := he.l x hx
theorem pw_add (g : Grp n m) (he : IsNe n m e) (hx : x < n) (a : Nat) : ∀ b, pw m e x (a + b) = m (pw m e x a) (pw m e x b)
  | 0 => (he.r _ (pw_lt g he hx a)).symm
  | b + 1 => by
    show m (pw m e x (a + b)) x = m (pw m e x a) (m (pw m e x b) x)
    rw [pw_add g he hx a b]
    exact g.as _ _ _ (pw_lt g he hx a) (pw_lt g he hx b) hx
theorem cancel (g : Grp n m) (he : IsNe n m e) {a b : Nat} (ha : a < n) (hb : b < n) (h : m a b = a) : b = e := by
  obtain ⟨e', he', hi⟩ := g.ne
  have ee : e' = e := he'.uniq he
  subst ee
  obtain ⟨c, hc, _, h2⟩ := hi a ha
  have h3 : m (m c a) b = m c a := by rw [g.as c a b hc ha hb, h]
  rw [h2, he'.l b hb] at h3
  exact h3
/-- numbers below n, n + 1 of them: two are alike -/
theorem pigeon : ∀ (n : Nat) (f : Nat → Nat), (∀ i, i ≤ n → f i < n) → ∃ i j, i < j ∧ j ≤ n ∧ f i = f j
  | 0, f, h => absurd (h 0 (Nat.le_refl _)) (Nat.not_lt_zero _)
  | n + 1, f, h => by
    by_cases c : ∃ i, i < n + 1 ∧ f i = f (n + 1)
    · obtain ⟨i, hi, q⟩ := c
      exact ⟨i, n + 1, hi, Nat.le_refl _, q⟩
    · -- swap the last value out
      have c' : ∀ i, i < n + 1 → f i ≠ f (n + 1) := fun i hi q => c ⟨i, hi, q⟩
      obtain ⟨i, j, hij, hj, q⟩ := pigeon n (fun i => if f i = n then f (n + 1) else f i) (fun i hi => by
        have h1 := h i (by omega)
        have h2 := h (n + 1) (Nat.le_refl _)
        have h3 := c' i (by omega)
        show (if f i = n then f (n + 1) else f i) < n
        by_cases z : f i = n
        · rw [if_pos z]; omega
        · rw [if_neg z]; omega)
      have q' : (if f i = n then f (n + 1) else f i) = (if f j = n then f (n + 1) else f j) := q
      have h1 := c' i (by omega)
      have h2 := c' j (by omega)
      refine ⟨i, j, hij, by omega, ?_⟩
      by_cases z1 : f i = n <;> by_cases z2 : f j = n
      · rw [z1, z2]
      · rw [if_pos z1, if_neg z2] at q'
        exact absurd q'.symm h2
      · rw [if_neg z1, if_pos z2] at q'
        exact absurd q' h1
      · rw [if_neg z1, if_neg z2] at q'
        exact q'
/-- k is x's order -/
structure IsOrd (n : Nat) (m : Nat → Nat → Nat) (e x k : Nat) : Prop where
  pos : 0 < k
  le : k ≤ n
  at_ : pw m e x k = e
  least : ∀ j, 0 < j → j < k → pw m e x j ≠ e
theorem least_of {p : Nat → Prop} : ∀ k, 0 < k → p k → ∃ j, 0 < j ∧ j ≤ k ∧ p j ∧ ∀ i, 0 < i → i < j → ¬ p i := by
  intro k
  induction k using Nat.strongRecOn with
  | ind k ih =>
    intro hk hp
    by_cases c : ∃ i, 0 < i ∧ i < k ∧ p i
    · obtain ⟨i, h1, h2, h3⟩ := c
      obtain ⟨j, a, b, r⟩ := ih i h2 h1 h3
      exact ⟨j, a, by omega, r⟩
    · exact ⟨k, hk, Nat.le_refl _, hp, fun i h1 h2 h3 => c ⟨i, h1, h2, h3⟩⟩
theorem ord_ex (g : Grp n m) (he : IsNe n m e) (hx : x < n) : ∃ k, IsOrd n m e x k := by
  obtain ⟨i, j, hij, hj, q⟩ := pigeon n (pw m e x) (fun i _ => pw_lt g he hx i)
  have h1 : pw m e x j = m (pw m e x i) (pw m e x (j - i)) := by
    rw [← pw_add g he hx i (j - i)]
    congr 1
    omega
  have h2 : pw m e x (j - i) = e := cancel g he (pw_lt g he hx i) (pw_lt g he hx _) (by rw [← h1, q])
  obtain ⟨k, k1, k2, k3, k4⟩ := least_of (p := fun k => pw m e x k = e) (j - i) (by omega) h2
  exact ⟨k, k1, by omega, k3, k4⟩
theorem IsOrd.uniq {k k' : Nat} (a : IsOrd n m e x k) (b : IsOrd n m e x k') : k = k' := by
  rcases Nat.lt_trichotomy k k' with h | h | h
  · exact absurd a.at_ (b.least k a.pos h)
  · exact h
  · exact absurd b.at_ (a.least k' b.pos h)
/-- the inverse of a member is one only -/
theorem inv_uniq (g : Grp n m) (he : IsNe n m e) {y z : Nat} (hx : x < n) (hy : y < n) (hz : z < n) (h1 : m x y = e) (h2 : m z x = e) : y = z := by
  have h3 : m (m z x) y = m z (m x y) := g.as z x y hz hx hy
  rw [h1, h2, he.l y hy, he.r z hz] at h3
  exact h3
end
end G
end
section
set_option linter.all false
/-! the walk that finds a homomorphism by its values at generators -/
namespace G
def Hom (n : Nat) (m1 m2 : Nat → Nat → Nat) (f : Nat → Nat) : Prop := ∀ x y, x < n → y < n → f (m1 x y) = m2 (f x) (f y)
structure Wlk (n k : Nat) (m1 m2 : Nat → Nat → Nat) (S Vs : List Nat) (e e2 : Nat) (A : List Nat) (F : Nat → Nat) (i sl : Nat) : Prop where
  nd : A.Nodup
  lt : ∀ x ∈ A, x < n
  flt : ∀ x ∈ A, F x < k
  head : A[0]? = some e
  fe : F e = e2
  reach : ∀ (j x : Nat), A[j]? = some x → 0 < j → ∃ (j' x' s y v : Nat), j' < j ∧ A[j']? = some x' ∧ S[s]? = some y ∧ Vs[s]? = some v ∧ x = m1 x' y ∧ F x = m2 (F x') v
  fin : ∀ (j x s y v : Nat), A[j]? = some x → (j < i ∨ (j = i ∧ s < sl)) → S[s]? = some y → Vs[s]? = some v → m1 x y ∈ A ∧ F (m1 x y) = m2 (F x) v
section
variable {n k : Nat} {m1 m2 : Nat → Nat → Nat} {S Vs : List Nat} {e e2 : Nat} {A : List Nat} {F : Nat → Nat} {i sl : Nat}
theorem Wlk.start (he : e < n) (he2 : e2 < k) (hF : F e = e2) : Wlk n k m1 m2 S Vs e e2 [e] F 0 0 where
  nd := by simp
  lt := fun x hx => by rw [List.mem_singleton.mp hx]; exact he
  flt := fun x hx => by rw [List.mem_singleton.mp hx, hF]; exact he2
  head := rfl
  fe := hF
  reach := fun j x h hj => by
    cases j with
    | zero => omega
    | succ j => simp at h
  fin := fun j x s y v _ h => by omega
theorem Wlk.known (W : Wlk n k m1 m2 S Vs e e2 A F i sl) {x y v : Nat} (hx : A[i]? = some x) (hy : S[sl]? = some y) (hv : Vs[sl]? = some v) (h1 : m1 x y ∈ A) (h2 : F (m1 x y) = m2 (F x) v) : Wlk n k m1 m2 S Vs e e2 A F i (sl + 1) :=
  ⟨W.nd, W.lt, W.flt, W.head, W.fe, W.reach, fun j x' s y' v' hj hs hy' hv' => by
      rcases hs with hs | ⟨rfl, hs⟩
      · exact W.fin j x' s y' v' hj (.inl hs) hy' hv'
      · by_cases c : s = sl
        · subst c
          rw [hx] at hj; rw [hy] at hy'; rw [hv] at hv'
          cases hj; cases hy'; cases hv'
          exact ⟨h1, h2⟩
        · exact W.fin j x' s y' v' hj (.inr ⟨rfl, by omega⟩) hy' hv'⟩
theorem get_old {A : List Nat} {z j x : Nat} (h : (A ++ [z])[j]? = some x) (hz : x ≠ z ∨ j < A.length) : A[j]? = some x := by
  by_cases c : j < A.length
  · rwa [List.getElem?_append_left c] at h
  · rw [List.getElem?_append_right (by omega)] at h
    exfalso
    rcases hz with hz | hz
    · by_cases d : j - A.length = 0
      · rw [d] at h
        exact hz (Option.some.inj h).symm
      · rw [List.getElem?_eq_none (by simp; omega)] at h
        cases h
    · exact c hz
theorem Wlk.new (W : Wlk n k m1 m2 S Vs e e2 A F i sl) (cl1 : ∀ x y, x < n → y < n → m1 x y < n) (cl2 : ∀ x y, x < k → y < k → m2 x y < k) (hS : ∀ y ∈ S, y < n) (hVs : ∀ v ∈ Vs, v < k) {x y v : Nat} (hx : A[i]? = some x) (hy : S[sl]? = some y) (hv : Vs[sl]? = some v) (hz : m1 x y ∉ A) :
    Wlk n k m1 m2 S Vs e e2 (A ++ [m1 x y]) (fun u => if u = m1 x y then m2 (F x) v else F u) i (sl + 1) := by
  have xA := List.mem_of_getElem? hx
  have old : ∀ u ∈ A, (if u = m1 x y then m2 (F x) v else F u) = F u := fun u hu => if_neg fun (q : u = m1 x y) => hz (q ▸ hu)
  have eA : e ∈ A := List.mem_of_getElem? W.head
  have ap : ∀ {j u : Nat}, A[j]? = some u → (A ++ [m1 x y])[j]? = some u := fun {j u} h => by
    have hl := (List.getElem?_eq_some_iff.mp h).1
    rw [List.getElem?_append_left hl]
    exact h
  refine ⟨?_, fun u hu => ?_, fun u hu => ?_, ap W.head, ?_, fun j u hj j0 => ?_, fun j u s y' v' hj hs hy' hv' => ?_⟩
  · rw [List.nodup_append]
    exact ⟨W.nd, by simp, fun a ha b hb q => by rw [List.mem_singleton.mp hb] at q; exact hz (q ▸ ha)⟩
  · rcases List.mem_append.mp hu with hu | hu
    · exact W.lt u hu
    · rw [List.mem_singleton.mp hu]
      exact cl1 _ _ (W.lt x xA) (hS _ (List.mem_of_getElem? hy))
  · rcases List.mem_append.mp hu with hu | hu
    · rw [old u hu]; exact W.flt u hu
    · rw [List.mem_singleton.mp hu, if_pos rfl]
      exact cl2 _ _ (W.flt x xA) (hVs _ (List.mem_of_getElem? hv))
  · rw [old e eA]; exact W.fe
  · by_cases c : j < A.length
    · have hj' := get_old hj (.inr c)
      obtain ⟨j', x', s, y', v', h1, h2, h3, h4, h5, h6⟩ := W.reach j u hj' j0
      refine ⟨j', x', s, y', v', h1, ap h2, h3, h4, h5, ?_⟩
      rw [old u (List.mem_of_getElem? hj'), old x' (List.mem_of_getElem? h2)]
      exact h6
    · have hu : u = m1 x y := by
        refine Classical.byContradiction fun q => c ?_
        exact (List.getElem?_eq_some_iff.mp (get_old hj (.inl q))).1
      subst hu
      have ji : i < j := by
        have := (List.getElem?_eq_some_iff.mp hx).1
        omega
      exact ⟨i, x, sl, y, v, ji, ap hx, hy, hv, rfl, by rw [if_pos rfl, old x xA]⟩
  · by_cases c : j < A.length
    · have hj' := get_old hj (.inr c)
      have uA := List.mem_of_getElem? hj'
      by_cases d : j < i ∨ (j = i ∧ s < sl)
      · obtain ⟨h1, h2⟩ := W.fin j u s y' v' hj' d hy' hv'
        exact ⟨List.mem_append_left _ h1, by rw [old _ h1, old u uA]; exact h2⟩
      · have ej : j = i := by omega
        have es : s = sl := by omega
        subst ej; subst es
        rw [hx] at hj'; rw [hy] at hy'; rw [hv] at hv'
        cases hj'; cases hy'; cases hv'
        exact ⟨List.mem_append_right _ (List.mem_singleton.mpr rfl), by rw [if_pos rfl, old x xA]⟩
    · exfalso
      have := (List.getElem?_eq_some_iff.mp hx).1
      omega
theorem Wlk.next (W : Wlk n k m1 m2 S Vs e e2 A F i S.length) : Wlk n k m1 m2 S Vs e e2 A F (i + 1) 0 :=
  ⟨W.nd, W.lt, W.flt, W.head, W.fe, W.reach, fun j x s y v hj hs hy hv => W.fin j x s y v hj (by
      have := (List.getElem?_eq_some_iff.mp hy).1
      omega) hy hv⟩
theorem Wlk.skip (W : Wlk n k m1 m2 S Vs e e2 A F i 0) (h : A.length ≤ i) : Wlk n k m1 m2 S Vs e e2 A F (i + 1) 0 :=
  ⟨W.nd, W.lt, W.flt, W.head, W.fe, W.reach, fun j x s y v hj hs hy hv => W.fin j x s y v hj (by
      have := (List.getElem?_eq_some_iff.mp hj).1
      omega) hy hv⟩
theorem Wlk.hom (W : Wlk n k m1 m2 S Vs e e2 A F n 0) (g1 : Grp n m1) (g2 : Grp k m2) (he : IsNe n m1 e) (he2 : IsNe k m2 e2) (hS : ∀ y ∈ S, y < n) (hVs : ∀ v ∈ Vs, v < k) (full : ∀ x, x < n → x ∈ A) : Hom n m1 m2 F := by
  have al : A.length ≤ n := by
    have := List.Nodup.length_le_of_subset W.nd (l₂ := List.range n) fun x hx => List.mem_range.mpr (W.lt x hx)
    rwa [List.length_range] at this
  have Fl : ∀ x, x < n → F x < k := fun x hx => W.flt x (full x hx)
  have st : ∀ x s y v, x < n → S[s]? = some y → Vs[s]? = some v → F (m1 x y) = m2 (F x) v := fun x s y v hx hy hv => by
    obtain ⟨j, hj, ej⟩ := List.getElem_of_mem (full x hx)
    exact (W.fin j x s y v (by rw [List.getElem?_eq_getElem hj, ej]) (.inl (by omega)) hy hv).2
  have key : ∀ (j y : Nat), A[j]? = some y → ∀ x, x < n → F (m1 x y) = m2 (F x) (F y) := by
    intro j
    induction j using Nat.strongRecOn with
    | ind j ih =>
      intro y hj x hx
      by_cases c : 0 < j
      · obtain ⟨j', x', s, y', v, h1, h2, h3, h4, h5, h6⟩ := W.reach j y hj c
        have hx' := W.lt x' (List.mem_of_getElem? h2)
        have hy' := hS _ (List.mem_of_getElem? h3)
        have hv := hVs _ (List.mem_of_getElem? h4)
        rw [h6, h5, ← g1.as x x' y' hx hx' hy', st _ s y' v (g1.cl _ _ hx hx') h3 h4, ih j' h1 x' h2 x hx, g2.as _ _ _ (Fl x hx) (Fl x' hx') hv]
      · have j0 : j = 0 := by omega
        subst j0
        rw [W.head] at hj
        cases hj
        rw [W.fe, he.r x hx, he2.r _ (Fl x hx)]
  intro x y hx hy
  obtain ⟨j, hj, ej⟩ := List.getElem_of_mem (full y hy)
  exact key j y (by rw [List.getElem?_eq_getElem hj, ej]) x hx
end
end G
end
section
set_option linter.all false
/-! votes -/
namespace G
/-- inv tells the inverses -/
def InvOf (k : Nat) (m : Nat → Nat → Nat) (e : Nat) (inv : Nat → Nat) : Prop := ∀ x, x < k → inv x < k ∧ m x (inv x) = e ∧ m (inv x) x = e
theorem InvOf.uniq {k : Nat} {m : Nat → Nat → Nat} {e : Nat} {i j : Nat → Nat} (g : Grp k m) (he : IsNe k m e) (a : InvOf k m e i) (b : InvOf k m e j) : ∀ x, x < k → i x = j x := fun x hx =>
  inv_uniq g he hx (a x hx).1 (b x hx).1 (a x hx).2.1 (b x hx).2.2
/-- what y votes for at x -/
def vote (m1 m2 : Nat → Nat → Nat) (inv f : Nat → Nat) (x y : Nat) : Nat := m2 (f (m1 x y)) (inv (f y))
/-- how many of the first j elements vote for h at x -/
def vts (m1 m2 : Nat → Nat → Nat) (inv f : Nat → Nat) (x j h : Nat) : Nat := ((List.range j).filter fun y => vote m1 m2 inv f x y == h).length
section
variable {n k : Nat} {m1 m2 : Nat → Nat → Nat} {inv f : Nat → Nat} {x j h : Nat}
theorem vts_zero : vts m1 m2 inv f x 0 h = 0 := rfl
theorem vts_succ : vts m1 m2 inv f x (j + 1) h = if h = vote m1 m2 inv f x j then vts m1 m2 inv f x j h + 1 else vts m1 m2 inv f x j h := by
  unfold vts
  rw [List.range_succ, List.filter_append, List.length_append]
  by_cases c : h = vote m1 m2 inv f x j
  · rw [if_pos c]
    simp [c]
  · rw [if_neg c]
    have : ¬ (vote m1 m2 inv f x j = h) := fun q => c q.symm
    simp [this]
theorem vts_le : vts m1 m2 inv f x j h ≤ j := by
  unfold vts
  have := List.length_filter_le (fun y => vote m1 m2 inv f x y == h) (List.range j)
  rwa [List.length_range] at this
theorem vote_lt {e2 : Nat} (g1 : Grp n m1) (g2 : Grp k m2) (hi : InvOf k m2 e2 inv) (hf : ∀ x, x < n → f x < k) (hx : x < n) (hj : j < n) : vote m1 m2 inv f x j < k :=
  g2.cl _ _ (hf _ (g1.cl _ _ hx hj)) (hi _ (hf _ hj)).1
theorem vote_congr {inv' : Nat → Nat} (hf : ∀ x, x < n → f x < k) (h : ∀ x, x < k → inv x = inv' x) (hj : j < n) : vote m1 m2 inv f x j = vote m1 m2 inv' f x j := by
  unfold vote
  rw [h _ (hf _ hj)]
end
/-- the least place below k with the greatest value -/
structure IsAm (k : Nat) (c : Nat → Nat) (j : Nat) : Prop where
  lt : j < k
  le : ∀ h, h < k → c h ≤ c j
  least : ∀ i, i < j → c i < c j
theorem am_ex {c : Nat → Nat} : ∀ {k : Nat}, 0 < k → ∃ j, IsAm k c j
  | 0, h => by omega
  | 1, _ => ⟨0, by omega, fun h hh => by rw [show h = 0 by omega]; exact Nat.le_refl _, fun i hi => by omega⟩
  | k + 2, _ => by
    obtain ⟨j, hj⟩ := am_ex (c := c) (k := k + 1) (by omega)
    by_cases q : c j < c (k + 1)
    · refine ⟨k + 1, by omega, fun h hh => ?_, fun i hi => ?_⟩
      · by_cases d : h = k + 1
        · rw [d]; exact Nat.le_refl _
        · have := hj.le h (by omega); omega
      · have := hj.le i (by omega); omega
    · refine ⟨j, by have := hj.lt; omega, fun h hh => ?_, hj.least⟩
      by_cases d : h = k + 1
      · rw [d]; omega
      · exact hj.le h (by omega)
theorem IsAm.uniq {k : Nat} {c : Nat → Nat} {i j : Nat} (a : IsAm k c i) (b : IsAm k c j) : i = j := by
  rcases Nat.lt_trichotomy i j with h | h | h
  · have := b.least i h
    have := a.le j b.lt
    omega
  · exact h
  · have := a.least j h
    have := b.le i a.lt
    omega
end G
end
section
set_option Elab.async false
set_option linter.all false
set_option maxRecDepth 100000
namespace Wk
open PySem PySem.Spec PyProof.Rows L2
local macro_rules | `(tactic| walk_at "hp") => `(tactic| first | assumption | exact upd_same | exact (upd_ne (ne_of_none (by assumption) (by assumption))).trans (by assumption) | (rw [upd_ne (by first | assumption | exact Ne.symm (by assumption))]; walk_at "hp"))
local macro_rules | `(tactic| walk_at "sq") => `(tactic| first | assumption | exact SqL.of (by assumption) | exact SqT.of (by assumption) | exact SqL.of (by walk_at "hp") | exact SqT.of (by walk_at "hp") | (refine Same.seq ?_ ?_ <;> assumption))
local macro_rules | `(tactic| walk_at "cmul") => `(tactic| first | exact .inr ⟨by decide, by decide⟩ | exact .inl ⟨by decide, by decide⟩ | exact .inr ⟨by omega, by omega⟩ | exact .inl ⟨by omega, by omega⟩)
local macro_rules | `(tactic| walk_at "cdiv") => `(tactic| first | exact ⟨by decide, by decide⟩ | exact wide_div (b := 64) (by omega) (by omega) (by decide) (by decide) | exact wide_div (b := 128) (by omega) (by omega) (by decide) (by decide))
local macro_rules | `(tactic| walk_at "rd1") => `(tactic| first
  | ((with_reducible show tVar _ _ _ _); refine Wk.r_var rfl ?_)
  | (with_reducible first
    | refine Wk.r_c ?_ | refine Wk.r_op ?_ | refine Wk.r_cons ?_ | refine Wk.r_nil ?_
    | refine Wk.r_seq ?_ | refine Wk.r_next ?_ | refine Wk.r_set ?_ | refine Wk.r_asgS ?_ | refine Wk.r_ret ?_ | refine Wk.r_drop ?_ | refine Wk.r_if ?_
    | refine Wk.r_asgG ?_ | refine Wk.r_gName ?_ | refine Wk.r_gCons ?_ | refine Wk.r_gNil ?_ | refine Wk.r_par ?_ | refine Wk.r_par3 ?_ | refine Wk.r_lstRg1 ?_ | refine Wk.r_tupRg1 ?_ | refine ⟨_, _, _, rfl, ?_⟩ | refine Wk.r_un ?_ | refine Wk.r_I0 ?_ | refine Wk.r_U ?_
    | refine Wk.r_test ?_ | refine Wk.r_B ?_ | refine Wk.r_k ?_ | refine Wk.r_not ?_ | refine Wk.r_and ?_ | refine Wk.r_or ?_ | refine Wk.r_andV ?_ | refine Wk.r_orV ?_ | refine Wk.r_notV ?_
    | refine Wk.r_CB ?_ | refine Wk.r_chain ?_ | refine Wk.r_fld ?_ | refine Wk.r_sfld ?_ | refine Wk.r_lst ?_ | refine Wk.r_tup ?_ | refine Wk.r_call ?_ | refine Wk.r_BM ?_ | refine Wk.r_BM0 ?_ | refine Wk.r_T ?_ | refine Wk.r_nT ?_ | refine Wk.r_nF ?_ | refine Wk.r_F ?_
    | refine Or.inl ⟨_, rfl, ?_⟩ | refine Or.inr ⟨_, rfl, ?_⟩ | refine ⟨_, rfl, ?_⟩ | refine ⟨_, _, rfl, ?_⟩)
  | ((with_reducible refine Wk.r_eq ?c0 ?_); (case c0 => rfl)) | ((with_reducible refine Wk.r_ne ?c0 ?_); (case c0 => rfl))
  | ((with_reducible refine Wk.r_pow ?c0 ?_); (case c0 => exact ⟨by decide, by decide, by decide⟩))
  | ((with_reducible refine Wk.r_mul ?c0 ?_); (case c0 => walk_at "cmul")) | ((with_reducible refine Wk.r_mod ?c0 ?_); (case c0 => first | decide | omega)) | ((with_reducible refine Wk.r_div ?c0 ?_); (case c0 => walk_at "cdiv"))
  | ((with_reducible refine Wk.r_new ?c0 ?_); (case c0 => (simp only [List.length_cons, List.length_nil]; omega)))
  | ((with_reducible show gTup _ _ _ _ _ _ _); refine Wk.r_gTup (by walk_at "sq") (by rfl) ?_)
  | (refine Wk.r_tyL (by walk_at "hp") ?_)
  | ((with_reducible show rSetL _ _ _ _ _); refine Wk.r_setL (by walk_at "hp") (by rfl) ?_)
  | ((with_reducible show rIxL _ _ _ _ _); refine Wk.r_ixL (by walk_at "sq") (by rfl) ?_) | ((with_reducible show rIxT _ _ _ _ _); refine Wk.r_ixT (by walk_at "sq") (by rfl) ?_)
  | ((with_reducible show rLenOf _ _ _ _); first | refine Wk.n_lenL (by walk_at "sq") ?_ | refine Wk.n_lenT (by walk_at "sq") ?_)
  | ((with_reducible show rListOf _ _ _ _); first | refine Wk.n_listL (by walk_at "sq") ?_ | refine Wk.n_listT (by walk_at "sq") ?_)
  | ((with_reducible show rTupZ _ _ _ _); first | refine Wk.z_tupL (by walk_at "sq") ?_ | refine Wk.z_tupT (by walk_at "sq") ?_)
  | ((with_reducible show rTupOf _ _ _ _); first | refine Wk.n_tupL (by walk_at "sq") ?_ | refine Wk.n_tupT (by walk_at "sq") ?_))
local macro_rules | `(tactic| walk_at "rd") => `(tactic| repeat (walk_at "rd1"))
local macro_rules | `(tactic| walk_at "rd1") => `(tactic| (with_reducible first | refine Wk.r_dget ?_ | refine Wk.r_din ?_ | refine Wk.r_dnotin ?_ | refine Wk.r_dput ?_ | refine Wk.r_pairs ?_ | refine Wk.r_pairs0 ?_ | refine Wk.r_sl ?_ | refine Wk.r_part ?_ | refine Wk.r_nopart ?_ | refine Wk.r_augS ?_ | refine Wk.r_ipI ?_ | refine Wk.r_aug rfl ?_ | refine Wk.r_revT ?_))

section
variable {P : Program} {w : World} {K : PySem.W.Frag} {mg : Str → Option Value} {base : Heap} {x : PySem.Str} {es : List Expr} {e o : Expr}
/-- the class of groups in the text -/
structure TxG (K : PySem.W.Frag) (mg : Str → Option Value) (C : Addr) : Prop extends Txt mg where
  cl : Cls K C
  nT : NoAttr K C "table"
  nS : NoAttr K C "size"
  nN : NoAttr K C "neutral"
  nI : NoAttr K C "_inverses"
  n_Group : mg "Group" = some (.ref C)
  n_MOST_MEMBERS : ∃ t, mg "MOST_MEMBERS" = some (.int 48 t)
  iA : PySem.W.findIn K (.ref C) "__class__" = some (some (.builtin "object.__class__"))
  iB : PySem.W.specialIn K (.builtin "object.__class__") "__get__" = some (some (.builtin "getset_descriptor.__get__"))
  iC : PySem.W.takesIn K (.builtin "object.__class__") = some true
  iD : PySem.W.mroIn K C (.type "object") = some true
def gf (t iv : Addr) (n e : Nat) : List (Str × V) := putF "_inverses" (.ref iv) (putF "neutral" (.int e) (putF "size" (.int n) (putF "table" (.ref t) [])))
theorem ne_ts : ¬ (("table" : Str) = "size") := by decide +kernel
theorem ne_tn : ¬ (("table" : Str) = "neutral") := by decide +kernel
theorem ne_ti : ¬ (("table" : Str) = "_inverses") := by decide +kernel
theorem ne_sn : ¬ (("size" : Str) = "neutral") := by decide +kernel
theorem ne_si : ¬ (("size" : Str) = "_inverses") := by decide +kernel
theorem ne_ni : ¬ (("neutral" : Str) = "_inverses") := by decide +kernel
section
variable {t iv : Addr} {n e' : Nat}
theorem gf_table : (gf t iv n e').lookup ("table" : Str) = some (.ref t) := by unfold gf; rw [lookup_putF, if_neg ne_ti, lookup_putF, if_neg ne_tn, lookup_putF, if_neg ne_ts, lookup_putF, if_pos rfl]
theorem gf_size : (gf t iv n e').lookup ("size" : Str) = some (.int n) := by unfold gf; rw [lookup_putF, if_neg ne_si, lookup_putF, if_neg ne_sn, lookup_putF, if_pos rfl]
theorem gf_neutral : (gf t iv n e').lookup ("neutral" : Str) = some (.int e') := by unfold gf; rw [lookup_putF, if_neg ne_ni, lookup_putF, if_pos rfl]
theorem gf_inverses : (gf t iv n e').lookup ("_inverses" : Str) = some (.ref iv) := by unfold gf; rw [lookup_putF, if_pos rfl]
theorem gf_no {m : Str} (h1 : ¬ m = "table") (h2 : ¬ m = "size") (h3 : ¬ m = "neutral") (h4 : ¬ m = "_inverses") : (gf t iv n e').lookup m = none := by
  unfold gf
  rw [lookup_putF, if_neg h4, lookup_putF, if_neg h3, lookup_putF, if_neg h2, lookup_putF, if_neg h1]
  rfl
end
/-- a tuple of tuples: the table of m -/
def TabT (K : PySem.W.Frag) (H : Hp) (a : Addr) (n : Nat) (m : Nat → Nat → Nat) : Prop := ∃ L, SqT K H a L ∧ Rows K H n m L
theorem TabT.mono {H H' : Hp} {a : Addr} {n : Nat} {m : Nat → Nat → Nat} (s : Same H H') (t : TabT K H a n m) : TabT K H' a n m := by
  obtain ⟨L, h, r⟩ := t
  exact ⟨L, s.sqT h, r.mono s⟩
/-- the object of a group: its attributes -/
structure GrpAt (K : PySem.W.Frag) (C : Addr) (H : Hp) (g : Addr) (n : Nat) (m : Nat → Nat → Nat) (dx t iv : Addr) (e : Nat) (inv : Nat → Nat) : Prop where
  ins : H g = some (.ins C dx (gf t iv n e))
  tab : TabT K H t n m
  invs : SqT K H iv (natsV n inv)
  ne : G.IsNe n m e
  iv_ok : ∀ x, x < n → inv x < n ∧ m x (inv x) = e ∧ m (inv x) x = e
  grp : G.Grp n m
  le : n ≤ 48
theorem GrpAt.mono {C : Addr} {H H' : Hp} {g : Addr} {n : Nat} {m : Nat → Nat → Nat} {dx t iv : Addr} {e : Nat} {inv : Nat → Nat} (s : Same H H') (h : GrpAt K C H g n m dx t iv e inv) : GrpAt K C H' g n m dx t iv e inv :=
  { h with ins := s _ _ h.ins, tab := h.tab.mono s, invs := s.sqT h.invs }

def spSeq (K : PySem.W.Frag) : Sp := fun vs H Q _ => ∃ (a : Addr) (xs : List V), vs = [.ref a] ∧ (SqL K H a xs ∨ SqT K H a xs) ∧ ∀ H', Same H H' → Q (.bl true) H'
theorem k_is_sequence (T : Txt mg) (a : At K mg "is_sequence" s_is_sequence ["value"]) : Keep P w K mg base 1 "is_sequence" ["value"] (spSeq K) := by
  refine Keep.of a sc_is_sequence (fun vs H Q E h => ?_) (fun f cdv A outer s H vs Q E hr h => ?_)
  · obtain ⟨a, xs, rfl, _⟩ := h
    rfl
  · obtain ⟨a, xs, rfl, hs, kk⟩ := h
    refine ⟨_, (pss_one (ps_ret (pe_callB call_isiT (by rfl) T.n_isinstance (by decide +kernel) (pa_cons (pv 0) (pa_cons (pe_tup (pa_cons (pe_bltn (v := .ty "tuple") (u := .type "tuple") (by rfl) T.n_tuple (by decide +kernel) rfl) (pa_cons (pe_bltn (v := .ty "list") (u := .type "list") (by rfl) T.n_list (by decide +kernel) rfl) pa_nil))) pa_nil))))), ?_⟩
    walk_at "rd"
    intro t ht
    have s1 := same_new (o := .tup [.ty "tuple", .ty "list"]) ht
    rcases hs with hs | hs
    · refine n_isiT (b := true) upd_same (.cons (.ty _) (.cons (.ty _) .nil)) (sl_ty (s1.seq hs)) ?_ (kk _ s1)
      exact kitAny_cons (b := false) (kit_ty (by decide +kernel)) (fun _ => kitAny_cons (b := true) (kit_ty (by decide +kernel)) (fun z => by cases z) (fun _ => rfl)) (fun z => by cases z)
    · refine n_isiT (b := true) upd_same (.cons (.ty _) (.cons (.ty _) .nil)) (sq_ty (s1.sqT hs)) ?_ (kk _ s1)
      exact kitAny_cons (b := true) (kit_ty (by decide +kernel)) (fun z => by cases z) (fun _ => rfl)
def spMember (K : PySem.W.Frag) (C : Addr) (v : V) : Sp := fun vs H Q _ => ∃ (g dx t iv : Addr) (n e : Nat) (x : Nat), vs = [.ref g, .int x] ∧ H g = some (.ins C dx (gf t iv n e)) ∧ x < n ∧ Q v H
theorem k_is_member {C : Addr} (T : TxG K mg C) (k_is_within : Keep P w K mg base 2 "is_within" ["value", "least", "most"] spWithin) (a : At K mg "is_member" s_is_member ["group", "value"]) : Keep P w K mg base 3 "is_member" ["group", "value"] (spMember K C (.bl true)) := by
  refine Keep.of a sc_is_member (fun vs H Q E h => ?_) (fun f cdv A outer s H vs Q E hr h => ?_)
  · obtain ⟨_, _, _, _, _, _, _, rfl, _⟩ := h
    rfl
  · obtain ⟨g, dx, t, iv, n, e, x, rfl, hg, hx, kk⟩ := h
    refine ⟨_, (pss_one (ps_ret (pe_k k_is_within (hr.mono (by decide)) (by rfl) (pa_cons (pv 1) (pa_cons pe_int (pa_cons (pe_op op_sub (e_fld K (pv 0) rfl) pe_int) pa_nil)))))), ?_⟩
    walk_at "rd"
    refine ⟨_, _, _, _, _, rfl, hg, T.cl, T.nS, gf_size, ?_⟩
    walk_at "rd"
    refine ⟨_, _, _, rfl, ?_⟩
    have h1 : ((0 : Int) ≤ (x : Int)) := by omega
    have h2 : ((x : Int) ≤ (n : Int) - 1) := by omega
    rw [decide_eq_true h1, decide_eq_true h2]
    exact kk
theorem k_require_member {C : Addr} (T : TxG K mg C) (k_is_member : Keep P w K mg base 3 "is_member" ["group", "value"] (spMember K C (.bl true))) (a : At K mg "require_member" s_require_member ["group", "value"]) : Keep P w K mg base 4 "require_member" ["group", "value"] (spMember K C .non) := by
  refine Keep.of a sc_require_member (fun vs H Q E h => ?_) (fun f cdv A outer s H vs Q E hr h => ?_)
  · obtain ⟨_, _, _, _, _, _, _, rfl, _⟩ := h
    rfl
  · obtain ⟨g, dx, t, iv, n, e, x, rfl, hg, hx, kk⟩ := h
    refine ⟨_, (pss_one (ps_if (pt_not (pt_val (pe_k k_is_member (hr.mono (by decide)) (by rfl) (pa_cons (pv 0) (pa_cons (pv 1) pa_nil))))) (pss_one ps_never) pss_nil)), ?_⟩
    walk_at "rd"
    refine ⟨g, dx, t, iv, n, e, x, rfl, hg, hx, ?_⟩
    walk_at "rd"
    exact kk
end
end Wk
end
section
set_option Elab.async false
set_option linter.all false
set_option maxRecDepth 100000
namespace Wk
open PySem PySem.Spec PyProof.Rows L2
local macro_rules | `(tactic| walk_at "hp") => `(tactic| first | assumption | exact upd_same | exact (upd_ne (ne_of_none (by assumption) (by assumption))).trans (by assumption) | (rw [upd_ne (by first | assumption | exact Ne.symm (by assumption))]; walk_at "hp"))
local macro_rules | `(tactic| walk_at "sq") => `(tactic| first | assumption | exact SqL.of (by assumption) | exact SqT.of (by assumption) | exact SqL.of (by walk_at "hp") | exact SqT.of (by walk_at "hp") | (refine Same.seq ?_ ?_ <;> assumption))
local macro_rules | `(tactic| walk_at "cmul") => `(tactic| first | exact .inr ⟨by decide, by decide⟩ | exact .inl ⟨by decide, by decide⟩ | exact .inr ⟨by omega, by omega⟩ | exact .inl ⟨by omega, by omega⟩)
local macro_rules | `(tactic| walk_at "cdiv") => `(tactic| first | exact ⟨by decide, by decide⟩ | exact wide_div (b := 64) (by omega) (by omega) (by decide) (by decide) | exact wide_div (b := 128) (by omega) (by omega) (by decide) (by decide))
local macro_rules | `(tactic| walk_at "rd1") => `(tactic| first
  | ((with_reducible show tVar _ _ _ _); refine Wk.r_var rfl ?_)
  | (with_reducible first
    | refine Wk.r_c ?_ | refine Wk.r_op ?_ | refine Wk.r_cons ?_ | refine Wk.r_nil ?_
    | refine Wk.r_seq ?_ | refine Wk.r_next ?_ | refine Wk.r_set ?_ | refine Wk.r_asgS ?_ | refine Wk.r_ret ?_ | refine Wk.r_drop ?_ | refine Wk.r_if ?_
    | refine Wk.r_asgG ?_ | refine Wk.r_gName ?_ | refine Wk.r_gCons ?_ | refine Wk.r_gNil ?_ | refine Wk.r_par ?_ | refine Wk.r_par3 ?_ | refine Wk.r_lstRg1 ?_ | refine Wk.r_tupRg1 ?_ | refine ⟨_, _, _, rfl, ?_⟩ | refine Wk.r_un ?_ | refine Wk.r_I0 ?_ | refine Wk.r_U ?_
    | refine Wk.r_test ?_ | refine Wk.r_B ?_ | refine Wk.r_k ?_ | refine Wk.r_not ?_ | refine Wk.r_and ?_ | refine Wk.r_or ?_ | refine Wk.r_andV ?_ | refine Wk.r_orV ?_ | refine Wk.r_notV ?_
    | refine Wk.r_CB ?_ | refine Wk.r_chain ?_ | refine Wk.r_fld ?_ | refine Wk.r_sfld ?_ | refine Wk.r_lst ?_ | refine Wk.r_tup ?_ | refine Wk.r_call ?_ | refine Wk.r_BM ?_ | refine Wk.r_BM0 ?_ | refine Wk.r_T ?_ | refine Wk.r_nT ?_ | refine Wk.r_nF ?_ | refine Wk.r_F ?_
    | refine Or.inl ⟨_, rfl, ?_⟩ | refine Or.inr ⟨_, rfl, ?_⟩ | refine ⟨_, rfl, ?_⟩ | refine ⟨_, _, rfl, ?_⟩)
  | ((with_reducible refine Wk.r_eq ?c0 ?_); (case c0 => rfl)) | ((with_reducible refine Wk.r_ne ?c0 ?_); (case c0 => rfl))
  | ((with_reducible refine Wk.r_pow ?c0 ?_); (case c0 => exact ⟨by decide, by decide, by decide⟩))
  | ((with_reducible refine Wk.r_mul ?c0 ?_); (case c0 => walk_at "cmul")) | ((with_reducible refine Wk.r_mod ?c0 ?_); (case c0 => first | decide | omega)) | ((with_reducible refine Wk.r_div ?c0 ?_); (case c0 => walk_at "cdiv"))
  | ((with_reducible refine Wk.r_new ?c0 ?_); (case c0 => (simp only [List.length_cons, List.length_nil]; omega)))
  | ((with_reducible show gTup _ _ _ _ _ _ _); refine Wk.r_gTup (by walk_at "sq") (by rfl) ?_)
  | (refine Wk.r_tyL (by walk_at "hp") ?_)
  | ((with_reducible show rSetL _ _ _ _ _); refine Wk.r_setL (by walk_at "hp") (by rfl) ?_)
  | ((with_reducible show rIxL _ _ _ _ _); refine Wk.r_ixL (by walk_at "sq") (by rfl) ?_) | ((with_reducible show rIxT _ _ _ _ _); refine Wk.r_ixT (by walk_at "sq") (by rfl) ?_)
  | ((with_reducible show rLenOf _ _ _ _); first | refine Wk.n_lenL (by walk_at "sq") ?_ | refine Wk.n_lenT (by walk_at "sq") ?_)
  | ((with_reducible show rListOf _ _ _ _); first | refine Wk.n_listL (by walk_at "sq") ?_ | refine Wk.n_listT (by walk_at "sq") ?_)
  | ((with_reducible show rTupZ _ _ _ _); first | refine Wk.z_tupL (by walk_at "sq") ?_ | refine Wk.z_tupT (by walk_at "sq") ?_)
  | ((with_reducible show rTupOf _ _ _ _); first | refine Wk.n_tupL (by walk_at "sq") ?_ | refine Wk.n_tupT (by walk_at "sq") ?_))
local macro_rules | `(tactic| walk_at "rd") => `(tactic| repeat (walk_at "rd1"))
local macro_rules | `(tactic| walk_at "rd1") => `(tactic| (with_reducible first | refine Wk.r_dget ?_ | refine Wk.r_din ?_ | refine Wk.r_dnotin ?_ | refine Wk.r_dput ?_ | refine Wk.r_pairs ?_ | refine Wk.r_pairs0 ?_ | refine Wk.r_sl ?_ | refine Wk.r_part ?_ | refine Wk.r_nopart ?_ | refine Wk.r_augS ?_ | refine Wk.r_ipI ?_ | refine Wk.r_aug rfl ?_ | refine Wk.r_revT ?_))

section
variable {P : Program} {w : World} {K : PySem.W.Frag} {mg : Str → Option Value} {base : Heap} {x : PySem.Str} {es : List Expr} {e o : Expr}
def SqS (K : PySem.W.Frag) (H : Hp) (a : Addr) (xs : List V) : Prop := SqL K H a xs ∨ SqT K H a xs
theorem SqS.mono {H H' : Hp} {a : Addr} {xs : List V} (s : Same H H') (h : SqS K H a xs) : SqS K H' a xs := h.imp (fun z => s.seq z) (fun z => s.sqT z)
/-- a list or tuple of lists or tuples: the table of m -/
def TabS (K : PySem.W.Frag) (H : Hp) (a : Addr) (n : Nat) (m : Nat → Nat → Nat) : Prop := ∃ L, SqS K H a L ∧ L.length = n ∧ ∀ x v, L[x]? = some v → ∃ b, v = V.ref b ∧ SqS K H b (rowV n m x)
def spRow (K : PySem.W.Frag) : Sp := fun vs H Q _ => ∃ (a : Addr) (n x : Nat) (m : Nat → Nat → Nat), vs = [.ref a, .int n] ∧ n ≤ 48 ∧ SqS K H a (rowV n m x) ∧ (∀ y, y < n → m x y < n) ∧ ∀ H', Same H H' → Q (.bl true) H'
theorem k__is_row (T : Txt mg) (k_is_sequence : Keep P w K mg base 1 "is_sequence" ["value"] (spSeq K)) (k_is_within : Keep P w K mg base 2 "is_within" ["value", "least", "most"] spWithin) (a : At K mg "_is_row" s__is_row ["row", "size"]) : Keep P w K mg base 3 "_is_row" ["row", "size"] (spRow K) := by
  refine Keep.of a sc__is_row (fun vs H Q E h => ?_) (fun f cdv A outer s H vs Q E hr h => ?_)
  · obtain ⟨_, _, _, _, rfl, _⟩ := h
    rfl
  · obtain ⟨a, n, x, m, rfl, hn, hs, hm, kk⟩ := h
    refine ⟨_, (pss_cons (ps_if (PW.pt (pw_or (pt_not (pt_val (pe_k k_is_sequence (hr.mono (by decide)) (by rfl) (pa_cons (pv 0) pa_nil)))) (pw_or1 (pt_cmpR op_ne (pe_callB (c_len K) (by rfl) T.n_len (by decide +kernel) (pa_cons (pv 0) pa_nil)) (pv 1) (nomark _))))) (pss_one (ps_ret pe_bl)) pss_nil)
    (pss_one (ps_ret (pe_callB (c_all K rfl) (by rfl) T.n_all (by decide +kernel) (pa_cons (pe_lc (own := [("value", 2)]) rfl sc__is_row.nd (i_seq K (pv 0)) (blkOk_by (N := ["row", "size", "value"]) (sc := defScope s__is_row) (by decide +kernel)) (fun _ _ _ _ _ => (pg_name (i := 2) sc__is_row.nd rfl (by first | exact Or.inl rfl | exact Or.inr rfl))) (fun _ _ _ _ _ => pts_nil) (fun _ _ _ _ _ => (pe_k k_is_within (hr.mono (by decide)) (by rfl) (pa_cons (pv 2) (pa_cons pe_int (pa_cons (pe_op op_sub (pv 1) pe_int) pa_nil)))))) pa_nil))))), ?_⟩
    walk_at "rd"
    refine ⟨a, _, rfl, hs, fun H1 s1 => ?_⟩
    have hs1 := hs.mono s1
    walk_at "rd"
    rcases hs1 with hq | hq
    · refine n_lenL hq ?_
      rw [rowV_len]
      walk_at "rd"
      refine r_ifNI (fun c => absurd rfl c) (fun _ => ?_)
      walk_at "rd"
      refine tLc_inl (lc_lst (fun _ v _ => v = V.bl true) hq (by rw [rowV_len]; omega) (fun R' h => ?_) (fun i => mut_val) ?_ ?_)
      · walk_at "rd"
        exact h
      · intro i y H2 Q' hy s2 k
        have hi : i < n := by have := (List.getElem?_eq_some_iff.mp hy).1; rw [rowV_len] at this; exact this
        rw [rowV_get hi] at hy
        cases hy
        walk_at "rd"
        refine ⟨_, _, _, rfl, ?_⟩
        have := hm i hi
        rw [decide_eq_true (show (0 : Int) ≤ ((m x i : Nat) : Int) by omega), decide_eq_true (show ((m x i : Nat) : Int) ≤ (n : Int) - 1 by omega)]
        exact k _ _ (Same.refl _) rfl
      · intro D L H2 hD s2 hL len r
        walk_at "rd"
        rw [trues len r] at hL
        refine n_all (SqL.of hL) ?_
        rw [all_trues]
        exact kk _ (s1.trans s2)
    · refine n_lenT hq ?_
      rw [rowV_len]
      walk_at "rd"
      refine r_ifNI (fun c => absurd rfl c) (fun _ => ?_)
      walk_at "rd"
      refine tLc_inr (lc_tpl (fun _ v _ => v = V.bl true) hq (by rw [rowV_len]; omega) (fun R' h => ?_) (fun i => mut_val) ?_ ?_)
      · walk_at "rd"
        exact h
      · intro i y H2 Q' hy s2 k
        have hi : i < n := by have := (List.getElem?_eq_some_iff.mp hy).1; rw [rowV_len] at this; exact this
        rw [rowV_get hi] at hy
        cases hy
        walk_at "rd"
        refine ⟨_, _, _, rfl, ?_⟩
        have := hm i hi
        rw [decide_eq_true (show (0 : Int) ≤ ((m x i : Nat) : Int) by omega), decide_eq_true (show ((m x i : Nat) : Int) ≤ (n : Int) - 1 by omega)]
        exact k _ _ (Same.refl _) rfl
      · intro D L H2 hD s2 hL len r
        walk_at "rd"
        rw [trues len r] at hL
        refine n_all (SqL.of hL) ?_
        rw [all_trues]
        exact kk _ (s1.trans s2)
end
end Wk
end
section
set_option Elab.async false
set_option linter.all false
set_option maxRecDepth 100000
namespace Wk
open PySem PySem.Spec PyProof.Rows L2
local macro_rules | `(tactic| walk_at "hp") => `(tactic| first | assumption | exact upd_same | exact (upd_ne (ne_of_none (by assumption) (by assumption))).trans (by assumption) | (rw [upd_ne (by first | assumption | exact Ne.symm (by assumption))]; walk_at "hp"))
local macro_rules | `(tactic| walk_at "sq") => `(tactic| first | assumption | exact SqL.of (by assumption) | exact SqT.of (by assumption) | exact SqL.of (by walk_at "hp") | exact SqT.of (by walk_at "hp") | (refine Same.seq ?_ ?_ <;> assumption))
local macro_rules | `(tactic| walk_at "cmul") => `(tactic| first | exact .inr ⟨by decide, by decide⟩ | exact .inl ⟨by decide, by decide⟩ | exact .inr ⟨by omega, by omega⟩ | exact .inl ⟨by omega, by omega⟩)
local macro_rules | `(tactic| walk_at "cdiv") => `(tactic| first | exact ⟨by decide, by decide⟩ | exact wide_div (b := 64) (by omega) (by omega) (by decide) (by decide) | exact wide_div (b := 128) (by omega) (by omega) (by decide) (by decide))
local macro_rules | `(tactic| walk_at "rd1") => `(tactic| first
  | ((with_reducible show tVar _ _ _ _); refine Wk.r_var rfl ?_)
  | (with_reducible first
    | refine Wk.r_c ?_ | refine Wk.r_op ?_ | refine Wk.r_cons ?_ | refine Wk.r_nil ?_
    | refine Wk.r_seq ?_ | refine Wk.r_next ?_ | refine Wk.r_set ?_ | refine Wk.r_asgS ?_ | refine Wk.r_ret ?_ | refine Wk.r_drop ?_ | refine Wk.r_if ?_
    | refine Wk.r_asgG ?_ | refine Wk.r_gName ?_ | refine Wk.r_gCons ?_ | refine Wk.r_gNil ?_ | refine Wk.r_par ?_ | refine Wk.r_par3 ?_ | refine Wk.r_lstRg1 ?_ | refine Wk.r_tupRg1 ?_ | refine ⟨_, _, _, rfl, ?_⟩ | refine Wk.r_un ?_ | refine Wk.r_I0 ?_ | refine Wk.r_U ?_
    | refine Wk.r_test ?_ | refine Wk.r_B ?_ | refine Wk.r_k ?_ | refine Wk.r_not ?_ | refine Wk.r_and ?_ | refine Wk.r_or ?_ | refine Wk.r_andV ?_ | refine Wk.r_orV ?_ | refine Wk.r_notV ?_
    | refine Wk.r_CB ?_ | refine Wk.r_chain ?_ | refine Wk.r_fld ?_ | refine Wk.r_sfld ?_ | refine Wk.r_lst ?_ | refine Wk.r_tup ?_ | refine Wk.r_call ?_ | refine Wk.r_BM ?_ | refine Wk.r_BM0 ?_ | refine Wk.r_T ?_ | refine Wk.r_nT ?_ | refine Wk.r_nF ?_ | refine Wk.r_F ?_
    | refine Or.inl ⟨_, rfl, ?_⟩ | refine Or.inr ⟨_, rfl, ?_⟩ | refine ⟨_, rfl, ?_⟩ | refine ⟨_, _, rfl, ?_⟩)
  | ((with_reducible refine Wk.r_eq ?c0 ?_); (case c0 => rfl)) | ((with_reducible refine Wk.r_ne ?c0 ?_); (case c0 => rfl))
  | ((with_reducible refine Wk.r_pow ?c0 ?_); (case c0 => exact ⟨by decide, by decide, by decide⟩))
  | ((with_reducible refine Wk.r_mul ?c0 ?_); (case c0 => walk_at "cmul")) | ((with_reducible refine Wk.r_mod ?c0 ?_); (case c0 => first | decide | omega)) | ((with_reducible refine Wk.r_div ?c0 ?_); (case c0 => walk_at "cdiv"))
  | ((with_reducible refine Wk.r_new ?c0 ?_); (case c0 => (simp only [List.length_cons, List.length_nil]; omega)))
  | ((with_reducible show gTup _ _ _ _ _ _ _); refine Wk.r_gTup (by walk_at "sq") (by rfl) ?_)
  | (refine Wk.r_tyL (by walk_at "hp") ?_)
  | ((with_reducible show rSetL _ _ _ _ _); refine Wk.r_setL (by walk_at "hp") (by rfl) ?_)
  | ((with_reducible show rIxL _ _ _ _ _); refine Wk.r_ixL (by walk_at "sq") (by rfl) ?_) | ((with_reducible show rIxT _ _ _ _ _); refine Wk.r_ixT (by walk_at "sq") (by rfl) ?_)
  | ((with_reducible show rLenOf _ _ _ _); first | refine Wk.n_lenL (by walk_at "sq") ?_ | refine Wk.n_lenT (by walk_at "sq") ?_)
  | ((with_reducible show rListOf _ _ _ _); first | refine Wk.n_listL (by walk_at "sq") ?_ | refine Wk.n_listT (by walk_at "sq") ?_)
  | ((with_reducible show rTupZ _ _ _ _); first | refine Wk.z_tupL (by walk_at "sq") ?_ | refine Wk.z_tupT (by walk_at "sq") ?_)
  | ((with_reducible show rTupOf _ _ _ _); first | refine Wk.n_tupL (by walk_at "sq") ?_ | refine Wk.n_tupT (by walk_at "sq") ?_))
local macro_rules | `(tactic| walk_at "rd") => `(tactic| repeat (walk_at "rd1"))
local macro_rules | `(tactic| walk_at "rd1") => `(tactic| (with_reducible first | refine Wk.r_dget ?_ | refine Wk.r_din ?_ | refine Wk.r_dnotin ?_ | refine Wk.r_dput ?_ | refine Wk.r_pairs ?_ | refine Wk.r_pairs0 ?_ | refine Wk.r_sl ?_ | refine Wk.r_part ?_ | refine Wk.r_nopart ?_ | refine Wk.r_augS ?_ | refine Wk.r_ipI ?_ | refine Wk.r_aug rfl ?_ | refine Wk.r_revT ?_))

section
variable {P : Program} {w : World} {K : PySem.W.Frag} {mg : Str → Option Value} {base : Heap} {x : PySem.Str} {es : List Expr} {e o : Expr}
section
variable {ta : TA} {t : TS} {g : TG} {D : Ends} {σ : L2.St} {H : Hp} {a : Addr} {xs : List V}
theorem f_enumS (Pv : Nat → L2.St → Hp → Prop) (hs : SqS K H a xs) (hta : ∀ R' : List V → Hp → Prop, R' [.ref a] H → ta σ H R') (h0 : Pv 0 σ H) (hl : ∀ i σ' H', Pv i σ' H' → Same H H')
    (step : ∀ (i : Nat) x σ' H' T, xs[i]? = some x → Pv i σ' H' → H' T = none → g (.ref T) σ' (upd H' T (.tup [.int (i : Int), x])) fun σ2 H2 => TurnOf (Pv (i + 1)) D t σ2 H2) (done : ∀ σ' H', Pv xs.length σ' H' → D.nx σ' H') (gm : ∀ v σ H R R', (∀ σ H, R σ H → R' σ H) → g v σ H R → g v σ H R') : tFor (fun σ H R => iEnum K ta σ H R ∨ iEnumT K ta σ H R) g t D σ H := by
  rcases hs with hs | hs
  · exact tFor_inl (f_enumL Pv hs hta h0 (fun i σ' H' p => (hl i σ' H' p).seq hs) step done gm)
  · exact tFor_inr (f_enumT Pv hs hta h0 (fun i σ' H' p => (hl i σ' H' p).sqT hs) step done gm)
end
section
variable {j : Nat} {tl te : TE} {vs : List Nat} {σ : L2.St} {H : Hp} {Q : VK} {a : Addr} {xs : List V}
theorem lc_seq (R : Nat → V → Hp → Prop) (hs : SqS K H a xs) (hz : xs.length ≤ 50000) (htl : ∀ R' : V → Hp → Prop, R' (.ref a) H → tl σ H R') (mono : ∀ i, Mut (R i))
    (step : ∀ (i : Nat) x H1 (Q' : VK), xs[i]? = some x → Same H H1 → (∀ v H2, Same H1 H2 → R i v H2 → Q' v H2) → te ((wipe σ vs).set j (some x)) H1 Q')
    (done : ∀ D L H1, H D = none → Same H H1 → H1 D = some (.lst L) → L.length = xs.length → (∀ (i : Nat) v, L[i]? = some v → R i v H1) → Q (.ref D) H1) (hw : ∀ x, wipe ((wipe σ vs).set j (some x)) vs = wipe σ vs := by intro _; rfl) : tLc (fun σ H R => iList K tl σ H R ∨ iTup K tl σ H R) (gName j) tYes te vs σ H Q := by
  rcases hs with hs | hs
  · exact tLc_inl (lc_lst R hs hz htl mono step done hw)
  · exact tLc_inr (lc_tpl R hs hz htl mono step done hw)
theorem n_lenS {p : Addr} (hs : SqS K H p xs) (h : Q (.int xs.length) H) : rLenOf K [.ref p] H Q := ⟨p, xs, rfl, hs, h⟩
/-- tuple(..) of either -/
theorem n_tupS {p : Addr} (hs : SqS K H p xs) (h : ∀ b H', Same H H' → SqT K H' b xs → Q (.ref b) H') : rTupOf K [.ref p] H Q := by
  rcases hs with hs | hs
  · exact n_tupL hs fun l hl => h l _ (same_new hl) (SqT.of upd_same)
  · exact n_tupT hs (h p H (Same.refl _) hs)
end
def spNeu (K : PySem.W.Frag) : Sp := fun vs H Q _ => ∃ (a : Addr) (n e : Nat) (m : Nat → Nat → Nat), vs = [.ref a] ∧ n ≤ 48 ∧ TabT K H a n m ∧ G.IsNe n m e ∧ ∀ H', Same H H' → Q (.int e) H'
theorem r_ifnL {A B : Prop} {b : Bool} (h1 : b = false → A) (h2 : b = true → B) : if (!b) = true then A else B := r_ifnB h1 h2
theorem Rows.row {H : Hp} {n : Nat} {m : Nat → Nat → Nat} {L : List V} (r : Rows K H n m L) {i : Nat} {y : V} (h : L[i]? = some y) : i < n ∧ ∃ b, y = V.ref b ∧ SqT K H b (rowV n m i) := by
  have hi : i < n := by have := (List.getElem?_eq_some_iff.mp h).1; rw [r.1] at this; exact this
  exact ⟨hi, r.2 i y h⟩
theorem bls_of {n : Nat} {f : Nat → Bool} : ((List.range n).map fun i => V.bl (f i)) = ((List.range n).map f).map V.bl := by rw [List.map_map]; rfl
theorem all_range_iff {n : Nat} {f : Nat → Bool} : (((List.range n).map f).all id = true) ↔ ∀ i, i < n → f i = true := by
  rw [List.all_map, List.all_eq_true]
  exact ⟨fun h i hi => h i (List.mem_range.mpr hi), fun h i hi => h i (List.mem_range.mp hi)⟩
theorem k__judged_neutral {C : Addr} (T : TxG K mg C) (a : At K mg "_judged_neutral" s__judged_neutral ["table"]) : Keep P w K mg base 1 "_judged_neutral" ["table"] (spNeu K) := by
  refine Keep.of a sc__judged_neutral (fun vs H Q E h => ?_) (fun f cdv A outer s H vs Q E hr h => ?_)
  · obtain ⟨_, _, _, _, rfl, _⟩ := h
    rfl
  · obtain ⟨a, n, e, m, rfl, hn, ⟨L, hs, hR⟩, he, kk⟩ := h
    refine ⟨_, (pss_cons (ps_for PassesOwn.never rfl (i_enumT K (by rfl) T.n_enumerate (pa_cons (pv 0) pa_nil)) (pg_tup rfl (pgs_cons (pg_name (i := 1) sc__judged_neutral.nd rfl (by first | exact Or.inl rfl | exact Or.inr rfl)) (pgs_cons (pg_name (i := 2) sc__judged_neutral.nd rfl (by first | exact Or.inl rfl | exact Or.inr rfl)) pgs_nil))) (pss_one (ps_if (pt_val (pe_callB (c_all K rfl) (by rfl) T.n_all (by decide +kernel) (pa_cons (pe_lc (own := [("x", 3)]) rfl sc__judged_neutral.nd (pi_range1 (by rfl) T.n_range (pa_cons (pe_callB (c_len K) (by rfl) T.n_len (by decide +kernel) (pa_cons (pv 0) pa_nil)) pa_nil)) (blkOk_by (N := ["table", "e", "row", "x"]) (sc := defScope s__judged_neutral) (by decide +kernel)) (fun _ _ _ _ _ => (pg_name (i := 3) sc__judged_neutral.nd rfl (by first | exact Or.inl rfl | exact Or.inr rfl))) (fun _ _ _ _ _ => pts_nil) (fun _ _ _ _ _ => (pe_and (pe_cmpR op_eq (pe_ix (x_tup K) (pv 2) (pv 3) (fun _ _ => rfl)) (pv 3) (nomark _)) (pe_one (pe_cmpR op_eq (pe_ix (x_tup K) (pe_ix (x_tup K) (pv 0) (pv 3) (fun _ _ => rfl)) (pv 1) (fun _ _ => rfl)) (pv 3) (nomark _)))))) pa_nil))) (pss_one (ps_ret (pv 1))) pss_nil)))
    (pss_one ps_never)), ?_⟩
    walk_at "rd"
    refine f_enumT (fun i σ' H' => ∃ v1 v2 v3 : Option V, σ' = [some (.ref a), v1, v2, v3] ∧ Same H H' ∧ i ≤ e) hs (fun R' h => ?_) ⟨_, _, _, rfl, Same.refl _, Nat.zero_le _⟩ (fun i σ' H' ⟨_, _, _, _, s, _⟩ => s.sqT hs) ?_ ?_ (fun v σ H R R' h q => g2_mono v σ H R R' h q)
    · walk_at "rd"
      exact h
    · rintro i y σ' H' Tp hy ⟨v1, v2, v3, rfl, s1, hie⟩ hTp
      obtain ⟨hi, b, rfl, hb⟩ := Rows.row hR hy
      have s2 := s1.trans (same_new (o := .tup [.int (i : Int), .ref b]) hTp)
      walk_at "rd"
      intro N B R hN hB hRt
      walk_at "rd"
      refine lc_rngV (n := n) (fun x => V.bl (decide (m i x = x) && decide (m x i = x))) (by omega) (fun R' h => ?_) ?_ ?_
      · have hs2 := s2.sqT hs
        walk_at "rd"
        rw [hR.1]
        exact h
      · intro x H3 Q' hx s3 k
        obtain ⟨bx, e2, hbx⟩ := hR.get hx
        have hs3 := (s2.trans s3).sqT hs
        have hb3 := (s2.trans s3).sqT hb
        have hbx3 := (s2.trans s3).sqT hbx
        walk_at "rd"
        refine Wk.r_ixT hb3 (at_n (rowV_get hx)) ?_
        walk_at "rd"
        refine r_ifI (fun c => ?_) (fun c => ?_)
        · walk_at "rd"
          refine Wk.r_ixT hs3 (at_n e2) ?_
          walk_at "rd"
          refine Wk.r_ixT hbx3 (at_n (rowV_get hi)) ?_
          walk_at "rd"
          have e3 : (V.bl (decide (V.int ((m x i : Nat) : Int) = V.int (x : Int)))) = V.bl (decide (m i x = x) && decide (m x i = x)) := by
            rw [decide_eq_true (show m i x = x by omega), Bool.true_and]
            congr 1
            exact decide_eq_decide.mpr ⟨fun h => by injection h with q; omega, fun h => by rw [h]⟩
          rw [e3]
          exact k _ (Same.refl _)
        · have e3 : V.bl false = V.bl (decide (m i x = x) && decide (m x i = x)) := by
            rw [decide_eq_false (show ¬ m i x = x by omega), Bool.false_and]
          rw [e3]
          exact k _ (Same.refl _)
      · intro D H3 hD s3 hL
        rw [bls_of] at hL
        walk_at "rd"
        refine n_all (SqL.of hL) ?_
        walk_at "rd"
        refine r_ifB (fun c => ?_) (fun c => ?_)
        · walk_at "rd"
          have q := all_range_iff.mp c
          have ne : G.IsNe n m i := ⟨hi, fun x hx => by have := q x hx; simp only [Bool.and_eq_true, decide_eq_true_eq] at this; exact this.1, fun x hx => by have := q x hx; simp only [Bool.and_eq_true, decide_eq_true_eq] at this; exact this.2⟩
          have ei : i = e := ne.uniq he
          subst ei
          exact hRt _ _ (kk _ (s2.trans s3))
        · walk_at "rd"
          refine hN _ _ ⟨_, _, _, rfl, s2.trans s3, ?_⟩
          have ne : i ≠ e := fun q => by
            subst q
            have := all_range_iff.mpr (fun x hx => show (decide (m i x = x) && decide (m x i = x)) = true by rw [decide_eq_true (he.l x hx), decide_eq_true (he.r x hx)]; rfl)
            rw [this] at c
            cases c
          omega
    · rintro σ' H' ⟨v1, v2, v3, rfl, s1, hie⟩
      exfalso
      have := he.lt
      rw [hR.1] at hie
      omega
def spRows (K : PySem.W.Frag) : Sp := fun vs H Q _ => ∃ (a : Addr) (n : Nat) (m : Nat → Nat → Nat), vs = [.ref a] ∧ 0 < n ∧ n ≤ 48 ∧ TabS K H a n m ∧ (∀ x y, x < n → y < n → m x y < n) ∧ ∀ H' b, Same H H' → TabT K H' b n m → Q (.ref b) H'
theorem r_truth {ta : TE} {σ : L2.St} {H : Hp} {Q : Bool → Hp → Prop} {R : V → Hp → (Bool → Hp → Prop) → Prop} (h : ta σ H fun x H1 => R x H1 Q) : (fun (σ : L2.St) (H : Hp) (Q : Bool → Hp → Prop) => ta σ H fun x H1 => R x H1 Q) σ H Q := h
theorem k__judged_rows {C : Addr} (T : TxG K mg C) (k_is_sequence : Keep P w K mg base 1 "is_sequence" ["value"] (spSeq K)) (k__is_row : Keep P w K mg base 3 "_is_row" ["row", "size"] (spRow K)) (a : At K mg "_judged_rows" s__judged_rows ["table"]) : Keep P w K mg base 4 "_judged_rows" ["table"] (spRows K) := by
  refine Keep.of a sc__judged_rows (fun vs H Q E h => ?_) (fun f cdv A outer s H vs Q E hr h => ?_)
  · obtain ⟨_, _, _, rfl, _⟩ := h
    rfl
  · obtain ⟨a, n, m, rfl, h0, hn, ⟨L, hs, hL, hrow⟩, hm, kk⟩ := h
    refine ⟨_, (pss_cons (ps_if (PW.pt (pw_or (pt_not (pt_val (pe_k k_is_sequence (hr.mono (by decide)) (by rfl) (pa_cons (pv 0) pa_nil)))) (pw_or1 (pt_not (pt_chain op_le op_le pe_int (pe_callB (c_len K) (by rfl) T.n_len (by decide +kernel) (pa_cons (pv 0) pa_nil)) (e_num (by rfl) T.n_MOST_MEMBERS)))))) (pss_one ps_never) pss_nil)
    (pss_cons (ps_set (i := 1) sc__judged_rows.nd rfl (by first | exact Or.inl rfl | exact Or.inr rfl) (pe_callB (c_len K) (by rfl) T.n_len (by decide +kernel) (pa_cons (pv 0) pa_nil)))
    (pss_cons (ps_for PassesOwn.never rfl (i_enumS K (by rfl) T.n_enumerate (pa_cons (pv 0) pa_nil)) (pg_tup rfl (pgs_cons (pg_name (i := 2) sc__judged_rows.nd rfl (by first | exact Or.inl rfl | exact Or.inr rfl)) (pgs_cons (pg_name (i := 3) sc__judged_rows.nd rfl (by first | exact Or.inl rfl | exact Or.inr rfl)) pgs_nil))) (pss_one (ps_if (pt_not (pt_val (pe_k k__is_row (hr.mono (by decide)) (by rfl) (pa_cons (pv 3) (pa_cons (pv 1) pa_nil))))) (pss_one ps_never) pss_nil)))
    (pss_one (ps_ret (pe_callTy (c_tup K) (by rfl) T.n_tuple (by decide +kernel) (pa_cons (pe_lc (own := [("row", 3)]) rfl sc__judged_rows.nd (i_seq K (pv 0)) (blkOk_by (N := ["table", "size", "x", "row"]) (sc := defScope s__judged_rows) (by decide +kernel)) (fun _ _ _ _ _ => (pg_name (i := 3) sc__judged_rows.nd rfl (by first | exact Or.inl rfl | exact Or.inr rfl))) (fun _ _ _ _ _ => pts_nil) (fun _ _ _ _ _ => (pe_callTy (c_tup K) (by rfl) T.n_tuple (by decide +kernel) (pa_cons (pv 3) pa_nil)))) pa_nil))))))), ?_⟩
    walk_at "rd"
    refine ⟨a, _, rfl, hs, fun H1 s1 => ?_⟩
    have hs1 : SqS K H1 a L := SqS.mono s1 hs
    walk_at "rd"
    refine n_lenS hs1 ?_
    rw [hL]
    walk_at "rd"
    refine r_if1 (fun _ => ?_) (fun c => absurd (show (1 : Int) ≤ n by omega) c)
    walk_at "rd"
    rw [decide_eq_true (show (n : Int) ≤ 48 by omega)]
    walk_at "rd"
    refine n_lenS hs1 ?_
    rw [hL]
    walk_at "rd"
    refine f_enumS (fun i σ' H' => ∃ v2 v3 : Option V, σ' = [some (.ref a), some (.int n), v2, v3] ∧ Same H1 H') hs1 (fun R' h => ?_) ⟨_, _, rfl, Same.refl _⟩ (fun i σ' H' ⟨_, _, _, s⟩ => s) ?_ ?_ (fun v σ H R R' h q => g2_mono v σ H R R' h q)
    · walk_at "rd"
      exact h
    · rintro i y σ' H' Tp hy ⟨v2, v3, rfl, s2⟩ hTp
      obtain ⟨b, rfl, hb⟩ := hrow i y hy
      have hi : i < n := by have := (List.getElem?_eq_some_iff.mp hy).1; omega
      have s3 := s2.trans (same_new (o := .tup [.int (i : Int), .ref b]) hTp)
      walk_at "rd"
      intro N B R hN hB hR
      walk_at "rd"
      refine ⟨b, n, i, m, rfl, hn, hb.mono (s1.trans s3), fun y hy => hm i y hi hy, fun H4 s4 => ?_⟩
      walk_at "rd"
      exact hN _ _ ⟨_, _, rfl, s3.trans s4⟩
    · rintro σ' H' ⟨v2, v3, rfl, s2⟩
      have hs2 := hs1.mono s2
      walk_at "rd"
      refine lc_seq (fun i v H' => ∃ b, v = V.ref b ∧ SqT K H' b (rowV n m i)) hs2 (by omega) (fun R' h => ?_) (fun i => mut_row) ?_ ?_
      · walk_at "rd"
        exact h
      · intro i y H3 Q' hy s3 k
        obtain ⟨b, rfl, hb⟩ := hrow i y hy
        walk_at "rd"
        refine n_tupS (hb.mono ((s1.trans s2).trans s3)) fun b' H4 s4 hb' => ?_
        exact k _ _ s4 ⟨b', rfl, hb'⟩
      · intro D L' H3 hD s3 hL' len r
        walk_at "rd"
        intro t ht
        have s4 := same_new (o := .tup L') ht
        exact kk _ _ (((s1.trans s2).trans s3).trans s4) ⟨L', SqT.of upd_same, Rows.mono s4 ⟨by rw [len, hL], r⟩⟩
end
end Wk
end
section
set_option Elab.async false
set_option linter.all false
set_option maxRecDepth 100000
namespace Wk
open PySem PySem.Spec PyProof.Rows L2
local macro_rules | `(tactic| walk_at "hp") => `(tactic| first | assumption | exact upd_same | exact (upd_ne (ne_of_none (by assumption) (by assumption))).trans (by assumption) | (rw [upd_ne (by first | assumption | exact Ne.symm (by assumption))]; walk_at "hp"))
local macro_rules | `(tactic| walk_at "sq") => `(tactic| first | assumption | exact SqL.of (by assumption) | exact SqT.of (by assumption) | exact SqL.of (by walk_at "hp") | exact SqT.of (by walk_at "hp") | (refine Same.seq ?_ ?_ <;> assumption))
local macro_rules | `(tactic| walk_at "cmul") => `(tactic| first | exact .inr ⟨by decide, by decide⟩ | exact .inl ⟨by decide, by decide⟩ | exact .inr ⟨by omega, by omega⟩ | exact .inl ⟨by omega, by omega⟩)
local macro_rules | `(tactic| walk_at "cdiv") => `(tactic| first | exact ⟨by decide, by decide⟩ | exact wide_div (b := 64) (by omega) (by omega) (by decide) (by decide) | exact wide_div (b := 128) (by omega) (by omega) (by decide) (by decide))
local macro_rules | `(tactic| walk_at "rd1") => `(tactic| first
  | ((with_reducible show tVar _ _ _ _); refine Wk.r_var rfl ?_)
  | (with_reducible first
    | refine Wk.r_c ?_ | refine Wk.r_op ?_ | refine Wk.r_cons ?_ | refine Wk.r_nil ?_
    | refine Wk.r_seq ?_ | refine Wk.r_next ?_ | refine Wk.r_set ?_ | refine Wk.r_asgS ?_ | refine Wk.r_ret ?_ | refine Wk.r_drop ?_ | refine Wk.r_if ?_
    | refine Wk.r_asgG ?_ | refine Wk.r_gName ?_ | refine Wk.r_gCons ?_ | refine Wk.r_gNil ?_ | refine Wk.r_par ?_ | refine Wk.r_par3 ?_ | refine Wk.r_lstRg1 ?_ | refine Wk.r_tupRg1 ?_ | refine ⟨_, _, _, rfl, ?_⟩ | refine Wk.r_un ?_ | refine Wk.r_I0 ?_ | refine Wk.r_U ?_
    | refine Wk.r_test ?_ | refine Wk.r_B ?_ | refine Wk.r_k ?_ | refine Wk.r_not ?_ | refine Wk.r_and ?_ | refine Wk.r_or ?_ | refine Wk.r_andV ?_ | refine Wk.r_orV ?_ | refine Wk.r_notV ?_
    | refine Wk.r_CB ?_ | refine Wk.r_chain ?_ | refine Wk.r_fld ?_ | refine Wk.r_sfld ?_ | refine Wk.r_lst ?_ | refine Wk.r_tup ?_ | refine Wk.r_call ?_ | refine Wk.r_BM ?_ | refine Wk.r_BM0 ?_ | refine Wk.r_T ?_ | refine Wk.r_nT ?_ | refine Wk.r_nF ?_ | refine Wk.r_F ?_
    | refine Or.inl ⟨_, rfl, ?_⟩ | refine Or.inr ⟨_, rfl, ?_⟩ | refine ⟨_, rfl, ?_⟩ | refine ⟨_, _, rfl, ?_⟩)
  | ((with_reducible refine Wk.r_eq ?c0 ?_); (case c0 => rfl)) | ((with_reducible refine Wk.r_ne ?c0 ?_); (case c0 => rfl))
  | ((with_reducible refine Wk.r_pow ?c0 ?_); (case c0 => exact ⟨by decide, by decide, by decide⟩))
  | ((with_reducible refine Wk.r_mul ?c0 ?_); (case c0 => walk_at "cmul")) | ((with_reducible refine Wk.r_mod ?c0 ?_); (case c0 => first | decide | omega)) | ((with_reducible refine Wk.r_div ?c0 ?_); (case c0 => walk_at "cdiv"))
  | ((with_reducible refine Wk.r_new ?c0 ?_); (case c0 => (simp only [List.length_cons, List.length_nil]; omega)))
  | ((with_reducible show gTup _ _ _ _ _ _ _); refine Wk.r_gTup (by walk_at "sq") (by rfl) ?_)
  | (refine Wk.r_tyL (by walk_at "hp") ?_)
  | ((with_reducible show rSetL _ _ _ _ _); refine Wk.r_setL (by walk_at "hp") (by rfl) ?_)
  | ((with_reducible show rIxL _ _ _ _ _); refine Wk.r_ixL (by walk_at "sq") (by rfl) ?_) | ((with_reducible show rIxT _ _ _ _ _); refine Wk.r_ixT (by walk_at "sq") (by rfl) ?_)
  | ((with_reducible show rLenOf _ _ _ _); first | refine Wk.n_lenL (by walk_at "sq") ?_ | refine Wk.n_lenT (by walk_at "sq") ?_)
  | ((with_reducible show rListOf _ _ _ _); first | refine Wk.n_listL (by walk_at "sq") ?_ | refine Wk.n_listT (by walk_at "sq") ?_)
  | ((with_reducible show rTupZ _ _ _ _); first | refine Wk.z_tupL (by walk_at "sq") ?_ | refine Wk.z_tupT (by walk_at "sq") ?_)
  | ((with_reducible show rTupOf _ _ _ _); first | refine Wk.n_tupL (by walk_at "sq") ?_ | refine Wk.n_tupT (by walk_at "sq") ?_))
local macro_rules | `(tactic| walk_at "rd") => `(tactic| repeat (walk_at "rd1"))
local macro_rules | `(tactic| walk_at "rd1") => `(tactic| (with_reducible first | refine Wk.r_dget ?_ | refine Wk.r_din ?_ | refine Wk.r_dnotin ?_ | refine Wk.r_dput ?_ | refine Wk.r_pairs ?_ | refine Wk.r_pairs0 ?_ | refine Wk.r_sl ?_ | refine Wk.r_part ?_ | refine Wk.r_nopart ?_ | refine Wk.r_augS ?_ | refine Wk.r_ipI ?_ | refine Wk.r_aug rfl ?_ | refine Wk.r_revT ?_))

section
variable {P : Program} {w : World} {K : PySem.W.Frag} {mg : Str → Option Value} {base : Heap} {x : PySem.Str} {es : List Expr} {e o : Expr}
/-- the partner that is found first -/
def invF (n : Nat) (m : Nat → Nat → Nat) (e x : Nat) : Nat := (((List.range n).filter fun y => decide (m x y = e) && decide (m y x = e)).head?).getD 0
theorem inv_ok {n e : Nat} {m : Nat → Nat → Nat} (g : G.Grp n m) (he : G.IsNe n m e) {x : Nat} (hx : x < n) :
    ((List.range n).filter fun y => decide (m x y = e) && decide (m y x = e))[0]? = some (invF n m e x) ∧ invF n m e x < n ∧ m x (invF n m e x) = e ∧ m (invF n m e x) x = e := by
  obtain ⟨e', he', hi⟩ := g.ne
  have ee : e' = e := he'.uniq he
  subst ee
  obtain ⟨y, hy, h1, h2⟩ := hi x hx
  have mem : y ∈ (List.range n).filter fun y => decide (m x y = e') && decide (m y x = e') := by
    rw [List.mem_filter]
    exact ⟨List.mem_range.mpr hy, by rw [decide_eq_true h1, decide_eq_true h2]; rfl⟩
  unfold invF
  cases hq : (List.range n).filter fun y => decide (m x y = e') && decide (m y x = e') with
  | nil => rw [hq] at mem; cases mem
  | cons z r =>
    have hz : z ∈ (List.range n).filter fun y => decide (m x y = e') && decide (m y x = e') := by rw [hq]; exact List.mem_cons_self
    rw [List.mem_filter] at hz
    obtain ⟨z1, z2⟩ := hz
    simp only [Bool.and_eq_true, decide_eq_true_eq] at z2
    exact ⟨rfl, List.mem_range.mp z1, z2.1, z2.2⟩
def spInvs (K : PySem.W.Frag) : Sp := fun vs H Q _ => ∃ (a : Addr) (n e : Nat) (m : Nat → Nat → Nat), vs = [.ref a, .int e] ∧ n ≤ 48 ∧ TabT K H a n m ∧ G.Grp n m ∧ G.IsNe n m e ∧ ∀ H' b, Same H H' → SqT K H' b (natsV n (invF n m e)) → Q (.ref b) H'
theorem int_dec {a b : Nat} : decide (V.int (a : Int) = V.int (b : Int)) = decide (a = b) := decide_eq_decide.mpr ⟨fun h => by injection h with q; omega, fun h => by rw [h]⟩
theorem k__judged_inverses {C : Addr} (T : TxG K mg C) (a : At K mg "_judged_inverses" s__judged_inverses ["table", "neutral"]) : Keep P w K mg base 1 "_judged_inverses" ["table", "neutral"] (spInvs K) := by
  refine Keep.of a sc__judged_inverses (fun vs H Q E h => ?_) (fun f cdv A outer s H vs Q E hr h => ?_)
  · obtain ⟨_, _, _, _, rfl, _⟩ := h
    rfl
  · obtain ⟨a, n, e, m, rfl, hn, ⟨L, hs, hR⟩, g, he, kk⟩ := h
    refine ⟨_, (pss_cons (ps_set (i := 2) sc__judged_inverses.nd rfl (by first | exact Or.inl rfl | exact Or.inr rfl) (pe_lst pa_nil))
    (pss_cons (ps_for PassesOwn.never rfl (i_enumT K (by rfl) T.n_enumerate (pa_cons (pv 0) pa_nil)) (pg_tup rfl (pgs_cons (pg_name (i := 3) sc__judged_inverses.nd rfl (by first | exact Or.inl rfl | exact Or.inr rfl)) (pgs_cons (pg_name (i := 4) sc__judged_inverses.nd rfl (by first | exact Or.inl rfl | exact Or.inr rfl)) pgs_nil))) (pss_cons (ps_setLc (i := 7) (own := [("y", 5), ("xy", 6)]) rfl sc__judged_inverses.nd rfl rfl (sw_true rfl rfl rfl (by decide +kernel)) (i_enumT K (by rfl) T.n_enumerate (pa_cons (pv 4) pa_nil)) (blkOk_by (N := ["table", "neutral", "inverses", "x", "row", "y", "xy", "partners"]) (sc := defScope s__judged_inverses) (by decide +kernel)) (fun _ _ _ _ _ => (g_tupK K 2 rfl (pgs_cons (pg_name (i := 5) sc__judged_inverses.nd rfl (by first | exact Or.inl rfl | exact Or.inr rfl)) (pgs_cons (pg_name (i := 6) sc__judged_inverses.nd rfl (by first | exact Or.inl rfl | exact Or.inr rfl)) pgs_nil)))) (fun _ _ _ _ _ => (pts_one (PW.pt (pw_and (pt_cmpR op_eq (pv 6) (pv 1) (nomark _)) (pw_and1 (pt_cmpR op_eq (pe_ix (x_tup K) (pe_ix (x_tup K) (pv 0) (pv 5) (fun _ _ => rfl)) (pv 3) (fun _ _ => rfl)) (pv 1) (nomark _))))))) (fun _ _ _ _ _ => (pv 5)))
    (pss_cons (ps_if (pt_not (pt_truK K (pv 7) (by intro _; rfl))) (pss_one ps_never) pss_nil)
    (pss_one (ps_expr (e_bm K PySem.F.plainAttrs_list PySem.F.slot_list_append PySem.F.type_list_append mt_append (pv 2) (pa_cons (pe_ix (x_list K) (pv 7) pe_int (fun _ _ => rfl)) pa_nil)))))))
    (pss_one (ps_ret (pe_callTy (c_tup K) (by rfl) T.n_tuple (by decide +kernel) (pa_cons (pv 2) pa_nil)))))), ?_⟩
    walk_at "rd"
    intro D hD
    walk_at "rd"
    have s0 := same_new (o := .lst []) hD
    refine f_enumT (fun i σ' H' => ∃ v3 v4 v5 v6 v7 : Option V, σ' = [some (.ref a), some (.int e), some (.ref D), v3, v4, v5, v6, v7] ∧ Grow (fun i v _ => v = V.int ((invF n m e i : Nat) : Int)) H D i H') (s0.sqT hs) (fun R' h => ?_) ⟨_, _, _, _, _, rfl, Grow.start hD⟩ (fun i σ' H' ⟨_, _, _, _, _, _, g⟩ => g.same.sqT hs) ?_ ?_ (fun v σ H R R' h q => g2_mono v σ H R R' h q)
    · walk_at "rd"
      exact h
    · rintro i y σ' H' Tp hy ⟨v3, v4, v5, v6, v7, rfl, gw⟩ hTp
      obtain ⟨hi, b, rfl, hb⟩ := Rows.row hR hy
      have s1 := same_new (o := .tup [.int (i : Int), .ref b]) hTp
      have s2 := gw.same.trans s1
      walk_at "rd"
      intro N B R hN hB hRt
      walk_at "rd"
      have mono : ∀ i, Mut ((fun i v _ => v = V.int ((invF n m e i : Nat) : Int)) i) := fun i => mut_val
      refine lc_enumF (fun y => decide (m i y = e) && decide (m y i = e)) (fun y => V.int (y : Int)) (s2.sqT hb) (by rw [rowV_len]; omega) (fun R' h => ?_) ?_ ?_ ?_
      · walk_at "rd"
        exact h
      · intro y z H3 QT hz s3 k
        have hy : y < n := by have := (List.getElem?_eq_some_iff.mp hz).1; rw [rowV_len] at this; exact this
        rw [rowV_get hy] at hz
        cases hz
        obtain ⟨by_, e2, hby⟩ := hR.get hy
        have hs3 := (s2.trans s3).sqT hs
        have hby3 := (s2.trans s3).sqT hby
        walk_at "rd"
        rw [int_dec]
        refine r_if1 (fun c => ?_) (fun c => ?_)
        · rw [decide_eq_true c, Bool.true_and] at k
          walk_at "rd"
          refine Wk.r_ixT hs3 (at_n e2) ?_
          walk_at "rd"
          refine Wk.r_ixT hby3 (at_n (rowV_get hi)) ?_
          walk_at "rd"
          rw [int_dec]
          exact k _ (Same.refl _)
        · rw [decide_eq_false c, Bool.false_and] at k
          exact k _ (Same.refl _)
      · intro y z H3 QT hz _ s3 k
        walk_at "rd"
        exact k _ (Same.refl _)
      · intro D2 H3 hD2 s3 hL2
        rw [rowV_len] at hL2
        obtain ⟨q0, q1, q2, q3⟩ := inv_ok g he hi
        have hl2 : (Evl.given n (fun y => decide (m i y = e) && decide (m y i = e)) (fun y => V.int (y : Int)))[0]? = some (V.int ((invF n m e i : Nat) : Int)) := by
          unfold Evl.given
          rw [List.getElem?_map, q0]
          rfl
        walk_at "rd"
        refine r_tru ?_
        walk_at "rd"
        refine ⟨true, ?_, ?_⟩
        · refine .inl ⟨_, SqL.of hL2, ?_⟩
          cases hg : Evl.given n (fun y => decide (m i y = e) && decide (m y i = e)) (fun y => V.int (y : Int)) with
          | nil => rw [hg] at hl2; cases hl2
          | cons _ _ => rfl
        walk_at "rd"
        obtain ⟨Li, hLi, lenI, _⟩ := (gw.mono mono (s1.trans s3)).lst
        have hLi3 := hLi
        walk_at "rd"
        refine Wk.r_ixL (SqL.of hL2) (at_n (i := 0) hl2) ?_
        walk_at "rd"
        refine Wk.r_append hLi (szlt (by omega)) ?_
        exact hN _ _ ⟨_, _, _, _, _, rfl, (gw.mono mono (s1.trans s3)).snoc mono hLi rfl⟩
    · rintro σ' H' ⟨v3, v4, v5, v6, v7, rfl, gw⟩
      obtain ⟨Li, hLi, lenI, rI⟩ := gw.lst
      have eL : Li = natsV n (invF n m e) := list_eq (by rw [lenI, hR.1]) rI
      walk_at "rd"
      intro t ht
      exact kk _ _ (gw.same.trans (same_new ht)) (SqT.of (by rw [upd_same, eL]))
def spProds (K : PySem.W.Frag) : Sp := fun vs H Q _ => ∃ (a : Addr) (n : Nat) (m : Nat → Nat → Nat), vs = [.ref a] ∧ n ≤ 48 ∧ TabT K H a n m ∧ G.Grp n m ∧ ∀ H', Same H H' → Q .non H'
theorem k__judge_products {C : Addr} (T : TxG K mg C) (a : At K mg "_judge_products" s__judge_products ["table"]) : Keep P w K mg base 1 "_judge_products" ["table"] (spProds K) := by
  refine Keep.of a sc__judge_products (fun vs H Q E h => ?_) (fun f cdv A outer s H vs Q E hr h => ?_)
  · obtain ⟨_, _, _, rfl, _⟩ := h
    rfl
  · obtain ⟨a, n, m, rfl, hn, ⟨L, hs, hR⟩, g, kk⟩ := h
    refine ⟨_, (pss_one (ps_for PassesOwn.never rfl (i_enumT K (by rfl) T.n_enumerate (pa_cons (pv 0) pa_nil)) (pg_tup rfl (pgs_cons (pg_name (i := 1) sc__judge_products.nd rfl (by first | exact Or.inl rfl | exact Or.inr rfl)) (pgs_cons (pg_name (i := 2) sc__judge_products.nd rfl (by first | exact Or.inl rfl | exact Or.inr rfl)) pgs_nil))) (pss_one (ps_for PassesOwn.never rfl (i_enumT K (by rfl) T.n_enumerate (pa_cons (pv 2) pa_nil)) (pg_tup rfl (pgs_cons (pg_name (i := 3) sc__judge_products.nd rfl (by first | exact Or.inl rfl | exact Or.inr rfl)) (pgs_cons (pg_name (i := 4) sc__judge_products.nd rfl (by first | exact Or.inl rfl | exact Or.inr rfl)) pgs_nil))) (pss_one (ps_for PassesOwn.never rfl (i_enumT K (by rfl) T.n_enumerate (pa_cons (pe_ix (x_tup K) (pv 0) (pv 3) (fun _ _ => rfl)) pa_nil)) (pg_tup rfl (pgs_cons (pg_name (i := 5) sc__judge_products.nd rfl (by first | exact Or.inl rfl | exact Or.inr rfl)) (pgs_cons (pg_name (i := 6) sc__judge_products.nd rfl (by first | exact Or.inl rfl | exact Or.inr rfl)) pgs_nil))) (pss_one (ps_if (pt_cmpR op_ne (pe_ix (x_tup K) (pe_ix (x_tup K) (pv 0) (pv 4) (fun _ _ => rfl)) (pv 5) (fun _ _ => rfl)) (pe_ix (x_tup K) (pv 2) (pv 6) (fun _ _ => rfl)) (nomark _)) (pss_one ps_never) pss_nil)))))))), ?_⟩
    walk_at "rd"
    refine f_enumT (fun i σ' H' => ∃ v1 v2 v3 v4 v5 v6 : Option V, σ' = [some (.ref a), v1, v2, v3, v4, v5, v6] ∧ Same H H') hs (fun R' h => ?_) ⟨_, _, _, _, _, _, rfl, Same.refl _⟩ (fun i σ' H' ⟨_, _, _, _, _, _, _, s⟩ => s.sqT hs) ?_ ?_ (fun v σ H R R' h q => g2_mono v σ H R R' h q)
    · walk_at "rd"
      exact h
    · rintro i y σ' H' Tp hy ⟨v1, v2, v3, v4, v5, v6, rfl, s1⟩ hTp
      obtain ⟨hi, b, rfl, hb⟩ := Rows.row hR hy
      have s2 := s1.trans (same_new (o := .tup [.int (i : Int), .ref b]) hTp)
      walk_at "rd"
      intro N B R hN hB hRt
      walk_at "rd"
      refine f_enumT (fun j σ' H' => ∃ v3 v4 v5 v6 : Option V, σ' = [some (.ref a), some (.int i), some (.ref b), v3, v4, v5, v6] ∧ Same H H') (s2.sqT hb) (fun R' h => ?_) ⟨_, _, _, _, rfl, s2⟩ (fun i σ' H' ⟨_, _, _, _, _, s⟩ => s.sqT hb) ?_ ?_ (fun v σ H R R' h q => g2_mono v σ H R R' h q)
      · walk_at "rd"
        exact h
      · rintro j z σ3 H3 Tp3 hz ⟨v3, v4, v5, v6, rfl, s3⟩ hTp3
        have hj : j < n := by have := (List.getElem?_eq_some_iff.mp hz).1; rw [rowV_len] at this; exact this
        rw [rowV_get hj] at hz
        cases hz
        obtain ⟨bj, ej, hbj⟩ := hR.get hj
        have s4 := s3.trans (same_new (o := .tup [.int (j : Int), .int ((m i j : Nat) : Int)]) hTp3)
        walk_at "rd"
        intro N2 B2 R2 hN2 hB2 hRt2
        walk_at "rd"
        refine f_enumT (fun l σ' H' => ∃ v5 v6 : Option V, σ' = [some (.ref a), some (.int i), some (.ref b), some (.int j), some (.int ((m i j : Nat) : Int)), v5, v6] ∧ Same H H') (s4.sqT hbj) (fun R' h => ?_) ⟨_, _, rfl, s4⟩ (fun i σ' H' ⟨_, _, _, s⟩ => s.sqT hbj) ?_ ?_ (fun v σ H R R' h q => g2_mono v σ H R R' h q)
        · have hs4 := s4.sqT hs
          walk_at "rd"
          refine Wk.r_ixT hs4 (at_n ej) ?_
          walk_at "rd"
          exact h
        · rintro l z σ5 H5 Tp5 hz ⟨v5, v6, rfl, s5⟩ hTp5
          have hl : l < n := by have := (List.getElem?_eq_some_iff.mp hz).1; rw [rowV_len] at this; exact this
          rw [rowV_get hl] at hz
          cases hz
          have s6 := s5.trans (same_new (o := .tup [.int (l : Int), .int ((m j l : Nat) : Int)]) hTp5)
          obtain ⟨bp, ep, hbp⟩ := hR.get (g.cl i j hi hj)
          have hs6 := s6.sqT hs
          have hb6 := s6.sqT hb
          have hbp6 := s6.sqT hbp
          walk_at "rd"
          intro N3 B3 R3 hN3 hB3 hRt3
          walk_at "rd"
          refine Wk.r_ixT hs6 (at_n ep) ?_
          walk_at "rd"
          refine Wk.r_ixT hbp6 (at_n (rowV_get hl)) ?_
          walk_at "rd"
          refine Wk.r_ixT hb6 (at_n (rowV_get (g.cl j l hj hl))) ?_
          walk_at "rd"
          rw [g.as i j l hi hj hl]
          refine r_ifNI (fun c => absurd rfl c) (fun _ => ?_)
          walk_at "rd"
          exact hN3 _ _ ⟨_, _, rfl, s6⟩
        · rintro σ5 H5 ⟨v5, v6, rfl, s5⟩
          exact hN2 _ _ ⟨_, _, _, _, rfl, s5⟩
      · rintro σ3 H3 ⟨v3, v4, v5, v6, rfl, s3⟩
        exact hN _ _ ⟨_, _, _, _, _, _, rfl, s3⟩
    · rintro σ' H' ⟨v1, v2, v3, v4, v5, v6, rfl, s1⟩
      exact kk _ s1
end
end Wk
end
section
set_option Elab.async false
set_option linter.all false
set_option maxRecDepth 100000
namespace Wk
open PySem PySem.Spec PyProof.Rows L2
local macro_rules | `(tactic| walk_at "hp") => `(tactic| first | assumption | exact upd_same | exact (upd_ne (ne_of_none (by assumption) (by assumption))).trans (by assumption) | (rw [upd_ne (by first | assumption | exact Ne.symm (by assumption))]; walk_at "hp"))
local macro_rules | `(tactic| walk_at "sq") => `(tactic| first | assumption | exact SqL.of (by assumption) | exact SqT.of (by assumption) | exact SqL.of (by walk_at "hp") | exact SqT.of (by walk_at "hp") | (refine Same.seq ?_ ?_ <;> assumption))
local macro_rules | `(tactic| walk_at "cmul") => `(tactic| first | exact .inr ⟨by decide, by decide⟩ | exact .inl ⟨by decide, by decide⟩ | exact .inr ⟨by omega, by omega⟩ | exact .inl ⟨by omega, by omega⟩)
local macro_rules | `(tactic| walk_at "cdiv") => `(tactic| first | exact ⟨by decide, by decide⟩ | exact wide_div (b := 64) (by omega) (by omega) (by decide) (by decide) | exact wide_div (b := 128) (by omega) (by omega) (by decide) (by decide))
local macro_rules | `(tactic| walk_at "rd1") => `(tactic| first
  | ((with_reducible show tVar _ _ _ _); refine Wk.r_var rfl ?_)
  | (with_reducible first
    | refine Wk.r_c ?_ | refine Wk.r_op ?_ | refine Wk.r_cons ?_ | refine Wk.r_nil ?_
    | refine Wk.r_seq ?_ | refine Wk.r_next ?_ | refine Wk.r_set ?_ | refine Wk.r_asgS ?_ | refine Wk.r_ret ?_ | refine Wk.r_drop ?_ | refine Wk.r_if ?_
    | refine Wk.r_asgG ?_ | refine Wk.r_gName ?_ | refine Wk.r_gCons ?_ | refine Wk.r_gNil ?_ | refine Wk.r_par ?_ | refine Wk.r_par3 ?_ | refine Wk.r_lstRg1 ?_ | refine Wk.r_tupRg1 ?_ | refine ⟨_, _, _, rfl, ?_⟩ | refine Wk.r_un ?_ | refine Wk.r_I0 ?_ | refine Wk.r_U ?_
    | refine Wk.r_test ?_ | refine Wk.r_B ?_ | refine Wk.r_k ?_ | refine Wk.r_not ?_ | refine Wk.r_and ?_ | refine Wk.r_or ?_ | refine Wk.r_andV ?_ | refine Wk.r_orV ?_ | refine Wk.r_notV ?_
    | refine Wk.r_CB ?_ | refine Wk.r_chain ?_ | refine Wk.r_fld ?_ | refine Wk.r_sfld ?_ | refine Wk.r_lst ?_ | refine Wk.r_tup ?_ | refine Wk.r_call ?_ | refine Wk.r_BM ?_ | refine Wk.r_BM0 ?_ | refine Wk.r_T ?_ | refine Wk.r_nT ?_ | refine Wk.r_nF ?_ | refine Wk.r_F ?_
    | refine Or.inl ⟨_, rfl, ?_⟩ | refine Or.inr ⟨_, rfl, ?_⟩ | refine ⟨_, rfl, ?_⟩ | refine ⟨_, _, rfl, ?_⟩)
  | ((with_reducible refine Wk.r_eq ?c0 ?_); (case c0 => rfl)) | ((with_reducible refine Wk.r_ne ?c0 ?_); (case c0 => rfl))
  | ((with_reducible refine Wk.r_pow ?c0 ?_); (case c0 => exact ⟨by decide, by decide, by decide⟩))
  | ((with_reducible refine Wk.r_mul ?c0 ?_); (case c0 => walk_at "cmul")) | ((with_reducible refine Wk.r_mod ?c0 ?_); (case c0 => first | decide | omega)) | ((with_reducible refine Wk.r_div ?c0 ?_); (case c0 => walk_at "cdiv"))
  | ((with_reducible refine Wk.r_new ?c0 ?_); (case c0 => (simp only [List.length_cons, List.length_nil]; omega)))
  | ((with_reducible show gTup _ _ _ _ _ _ _); refine Wk.r_gTup (by walk_at "sq") (by rfl) ?_)
  | (refine Wk.r_tyL (by walk_at "hp") ?_)
  | ((with_reducible show rSetL _ _ _ _ _); refine Wk.r_setL (by walk_at "hp") (by rfl) ?_)
  | ((with_reducible show rIxL _ _ _ _ _); refine Wk.r_ixL (by walk_at "sq") (by rfl) ?_) | ((with_reducible show rIxT _ _ _ _ _); refine Wk.r_ixT (by walk_at "sq") (by rfl) ?_)
  | ((with_reducible show rLenOf _ _ _ _); first | refine Wk.n_lenL (by walk_at "sq") ?_ | refine Wk.n_lenT (by walk_at "sq") ?_)
  | ((with_reducible show rListOf _ _ _ _); first | refine Wk.n_listL (by walk_at "sq") ?_ | refine Wk.n_listT (by walk_at "sq") ?_)
  | ((with_reducible show rTupZ _ _ _ _); first | refine Wk.z_tupL (by walk_at "sq") ?_ | refine Wk.z_tupT (by walk_at "sq") ?_)
  | ((with_reducible show rTupOf _ _ _ _); first | refine Wk.n_tupL (by walk_at "sq") ?_ | refine Wk.n_tupT (by walk_at "sq") ?_))
local macro_rules | `(tactic| walk_at "rd") => `(tactic| repeat (walk_at "rd1"))
local macro_rules | `(tactic| walk_at "rd1") => `(tactic| (with_reducible first | refine Wk.r_dget ?_ | refine Wk.r_din ?_ | refine Wk.r_dnotin ?_ | refine Wk.r_dput ?_ | refine Wk.r_pairs ?_ | refine Wk.r_pairs0 ?_ | refine Wk.r_sl ?_ | refine Wk.r_part ?_ | refine Wk.r_nopart ?_ | refine Wk.r_augS ?_ | refine Wk.r_ipI ?_ | refine Wk.r_aug rfl ?_ | refine Wk.r_revT ?_))

section
variable {K : PySem.W.Frag} {H H' : Hp} {a p C dx : Addr} {fs : List (Str × V)} {xs : List V} {n : Nat} {m : Nat → Nat → Nat}
theorem sqT_ins (hD : H p = some (.ins C dx fs)) (e : ExP p H H') (h : SqT K H a xs) : SqT K H' a xs := by
  have ne : ∀ o, H a = some o → (∀ C dx fs, o ≠ HO.ins C dx fs) → a ≠ p := fun o ho hn q => by
    subst q
    rw [hD] at ho
    exact hn _ _ _ (Option.some.inj ho).symm
  rcases h with (h | ⟨o, h⟩) | h
  · exact .inl (.inl (e _ _ (ne _ h fun _ _ _ z => by cases z) h))
  · exact .inl (.inr ⟨o, e _ _ (ne _ h fun _ _ _ z => by cases z) h⟩)
  · exact .inr h
theorem Rows.ins {L : List V} (hD : H p = some (.ins C dx fs)) (e : ExP p H H') (r : Rows K H n m L) : Rows K H' n m L := ⟨r.1, fun x v h => by
  obtain ⟨b, e1, e2⟩ := r.2 x v h
  exact ⟨b, e1, sqT_ins hD e e2⟩⟩
theorem TabT.ins (hD : H p = some (.ins C dx fs)) (e : ExP p H H') (t : TabT K H a n m) : TabT K H' a n m := by
  obtain ⟨L, h, r⟩ := t
  exact ⟨L, sqT_ins hD e h, Rows.ins hD e r⟩
theorem TabT.mut {D : Addr} {L' : List V} (hD : H D = some (.lst L')) (e : ExP D H H') (t : TabT K H a n m) : TabT K H' a n m := by
  obtain ⟨L, h, r⟩ := t
  exact ⟨L, sqT_mut hD e h, r.mut hD e⟩
theorem GrpAt.mut {D : Addr} {L' : List V} {g t iv : Addr} {e : Nat} {inv : Nat → Nat} (hD : H D = some (.lst L')) (s : ExP D H H') (h : GrpAt K C H g n m dx t iv e inv) : GrpAt K C H' g n m dx t iv e inv :=
  { h with ins := s _ _ (fun q => by have := h.ins; rw [q, hD] at this; cases this) h.ins, tab := h.tab.mut hD s, invs := sqT_mut hD s h.invs }
theorem putF_len {f : Str} {v : V} {k : Nat} (h : fs.length ≤ k) : (putF f v fs).length ≤ k + 1 := by have := length_putF f v fs; omega
end
section
variable {P : Program} {w : World} {K : PySem.W.Frag} {mg : Str → Option Value} {base : Heap}
/-- what more of the class is asked -/
structure TxE (K : PySem.W.Frag) (mg : Str → Option Value) (C : Addr) : Prop extends TxG K mg C where
  kC : ((PySem.W.clsIn K C).isSome && PySem.W.typeIn K (.ref C) == some (.type "type")) = true
  n_ne : PySem.W.findIn K (.ref C) "__ne__" = some (some (.builtin "object.__ne__"))
theorem TxE.insTy {C : Addr} (T : TxE K mg C) {H : Hp} {g dx : Addr} {fs : List (Str × V)} (e : H g = some (.ins C dx fs)) : TyX K H (.ref g) (.ref C) := .base (.ins e T.cl T.iA T.iB T.iC T.iD)
theorem kit_own {C : Addr} : PySem.W.kitOne K (.ref C) (.ref C) = some true := by
  unfold PySem.W.kitOne
  rw [if_pos (by simp)]
theorem nf_own {C : Addr} : PySem.W.notFirst K C (.ref C) = true := by simp [PySem.W.notFirst]
theorem sub_ty {C : Addr} {T : String} (h : (PySem.fastBuiltinMro T).any (fun l => l.all fun v => match v with | .type _ => true | _ => false) = true) : PySem.W.subIn K (.type T) (.ref C) = some false := by
  show (PySem.fastBuiltinMro T).map (·.contains (.ref C)) = some false
  cases e : PySem.fastBuiltinMro T with
  | none => rw [e] at h; cases h
  | some l =>
    rw [e] at h
    have h' : (l.all fun v => match v with | .type _ => true | _ => false) = true := h
    show some (l.contains (Value.ref C)) = some false
    congr 1
    rw [← Bool.not_eq_true, List.contains_iff_exists_mem_beq]
    rintro ⟨v, hv, q⟩
    have h1 := List.all_eq_true.mp h' v hv
    have e2 : Value.ref C = v := by simpa using q
    subst e2
    cases h1
theorem nf_ty {C : Addr} {T : String} (h : (PySem.fastBuiltinMro T).any (fun l => l.all fun v => match v with | .type _ => true | _ => false) = true) : PySem.W.notFirst K C (.type T) = true := by
  unfold PySem.W.notFirst
  rw [sub_ty h]
  simp
theorem TxE.kit_ty {C : Addr} (X : TxE K mg C) {T : String} (h : (PySem.fastBuiltinMro T).any (fun l => l.all fun v => match v with | .type _ => true | _ => false) = true) : PySem.W.kitOne K (.type T) (.ref C) = some false := by
  unfold PySem.W.kitOne
  rw [if_neg (by simp)]
  unfold PySem.W.kitCls
  show (if ((PySem.W.clsIn K C).isSome && PySem.W.typeIn K (.ref C) == some (.type "type")) = true then PySem.W.subIn K (.type T) (.ref C) else none) = some false
  rw [if_pos X.kC, sub_ty h]
/-- a group -/
def GrpO (K : PySem.W.Frag) (C : Addr) (H : Hp) (g n : Nat) (m : Nat → Nat → Nat) : Prop := ∃ dx t iv e inv, GrpAt K C H g n m dx t iv e inv
def spInit (K : PySem.W.Frag) (C : Addr) : Sp := fun vs H Q _ => ∃ (p a dx : Addr) (n : Nat) (m : Nat → Nat → Nat), vs = [.ref p, .ref a] ∧ H p = some (.ins C dx []) ∧ 0 < n ∧ n ≤ 48 ∧ TabS K H a n m ∧ G.Grp n m ∧ ∀ H', ExP p H H' → GrpO K C H' p n m → Q .non H'
structure Judges (P : Program) (w : World) (K : PySem.W.Frag) (mg : Str → Option Value) (base : Heap) : Prop where
  rows : Keep P w K mg base 4 "_judged_rows" ["table"] (spRows K)
  neu : Keep P w K mg base 1 "_judged_neutral" ["table"] (spNeu K)
  inv : Keep P w K mg base 1 "_judged_inverses" ["table", "neutral"] (spInvs K)
  prod : Keep P w K mg base 1 "_judge_products" ["table"] (spProds K)
theorem ok_init {C f : Addr} {fd : FuncData} (T : TxE K mg C) (J : Judges P w K mg base) (F : Fun K "__init__" "Group.__init__" s_Group___init__ f fd) : FnOk P w K mg base CX0 5 f fd ["self", "table"] (spInit K C) := by
  obtain ⟨k__judged_rows, k__judged_neutral, k__judged_inverses, k__judge_products⟩ := J
  refine F.okG sc_Group___init__ (fun vs H Q E h => ?_) (fun cdv A outer s H vs Q E hr h => ?_)
  · obtain ⟨_, _, _, _, _, rfl, _⟩ := h
    rfl
  · obtain ⟨p, a, dx, n, m, rfl, hp, h0, hn, ht, g, kk⟩ := h
    refine ⟨_, (pss_cons (ps_fld (pv 0) (pe_k k__judged_rows (hr.mono (by decide)) (by rfl) (pa_cons (pv 1) pa_nil)) rfl)
    (pss_cons (ps_fld (pv 0) (pe_callB (c_len K) (by rfl) T.n_len (by decide +kernel) (pa_cons (e_fld K (pv 0) rfl) pa_nil)) rfl)
    (pss_cons (ps_fld (pv 0) (pe_k k__judged_neutral (hr.mono (by decide)) (by rfl) (pa_cons (e_fld K (pv 0) rfl) pa_nil)) rfl)
    (pss_cons (ps_fld (pv 0) (pe_k k__judged_inverses (hr.mono (by decide)) (by rfl) (pa_cons (e_fld K (pv 0) rfl) (pa_cons (e_fld K (pv 0) rfl) pa_nil))) rfl)
    (pss_one (ps_expr (pe_k k__judge_products (hr.mono (by decide)) (by rfl) (pa_cons (e_fld K (pv 0) rfl) pa_nil)))))))), ?_⟩
    walk_at "rd"
    refine ⟨a, n, m, rfl, h0, hn, ht, g.cl, fun H1 b s1 hb => ?_⟩
    have hp1 := s1 _ _ hp
    walk_at "rd"
    refine ⟨_, _, _, _, rfl, hp1, T.cl, T.nT, by show 0 < 1000; decide, ?_⟩
    generalize hf1 : putF "table" (V.ref b) [] = f1
    have l1 : f1.length ≤ 1 := by rw [← hf1]; exact putF_len (Nat.le_refl 0)
    have x1 : ExP p H1 (upd H1 p (.ins C dx f1)) := ExP.upd
    have hb2 := hb.ins hp1 x1
    have t1 : f1.lookup ("table" : Str) = some (.ref b) := by rw [← hf1, lookup_putF, if_pos rfl]
    walk_at "rd"
    refine ⟨_, _, _, _, _, rfl, upd_same, T.cl, T.nT, t1, ?_⟩
    obtain ⟨L, hL, hR⟩ := id hb2
    walk_at "rd"
    rw [hR.1]
    refine ⟨_, _, _, _, rfl, upd_same, T.cl, T.nS, by omega, ?_⟩
    rw [upd_upd]
    generalize hf2 : putF "size" (V.int n) f1 = f2
    have l2 : f2.length ≤ 2 := by rw [← hf2]; exact putF_len l1
    have t2 : f2.lookup ("table" : Str) = some (.ref b) := by rw [← hf2, lookup_putF, if_neg ne_ts, t1]
    have x2 : ExP p H1 (upd H1 p (.ins C dx f2)) := ExP.upd
    have hb3 := hb.ins hp1 x2
    walk_at "rd"
    refine ⟨_, _, _, _, _, rfl, upd_same, T.cl, T.nT, t2, ?_⟩
    obtain ⟨e, he, _⟩ := id g.ne
    walk_at "rd"
    refine ⟨b, n, e, m, rfl, hn, hb3, he, fun H2 s2 => ?_⟩
    have hp2 := s2 _ _ upd_same
    have hb4 := hb3.mono s2
    walk_at "rd"
    refine ⟨_, _, _, _, rfl, hp2, T.cl, T.nN, by omega, ?_⟩
    generalize hf3 : putF "neutral" (V.int e) f2 = f3
    have l3 : f3.length ≤ 3 := by rw [← hf3]; exact putF_len l2
    have t3 : f3.lookup ("table" : Str) = some (.ref b) := by rw [← hf3, lookup_putF, if_neg ne_tn, t2]
    have n3 : f3.lookup ("neutral" : Str) = some (.int e) := by rw [← hf3, lookup_putF, if_pos rfl]
    have x3 : ExP p H2 (upd H2 p (.ins C dx f3)) := ExP.upd
    have hb5 := hb4.ins hp2 x3
    walk_at "rd"
    refine ⟨_, _, _, _, _, rfl, upd_same, T.cl, T.nT, t3, ?_⟩
    walk_at "rd"
    refine ⟨_, _, _, _, _, rfl, upd_same, T.cl, T.nN, n3, ?_⟩
    walk_at "rd"
    refine ⟨b, n, e, m, rfl, hn, hb5, g, he, fun H3 iv s3 hiv => ?_⟩
    have hp3 := s3 _ _ upd_same
    have hb6 := hb5.mono s3
    walk_at "rd"
    refine ⟨_, _, _, _, rfl, hp3, T.cl, T.nI, by omega, ?_⟩
    generalize hf4 : putF "_inverses" (V.ref iv) f3 = f4
    have t4 : f4.lookup ("table" : Str) = some (.ref b) := by rw [← hf4, lookup_putF, if_neg ne_ti, t3]
    have x4 : ExP p H3 (upd H3 p (.ins C dx f4)) := ExP.upd
    have hb7 := hb6.ins hp3 x4
    have hiv2 := sqT_ins hp3 x4 hiv
    walk_at "rd"
    refine ⟨_, _, _, _, _, rfl, upd_same, T.cl, T.nT, t4, ?_⟩
    walk_at "rd"
    refine ⟨b, n, m, rfl, hn, hb7, g, fun H4 s4 => ?_⟩
    walk_at "rd"
    have e4 : f4 = gf b iv n e := by unfold gf; rw [← hf4, ← hf3, ← hf2, ← hf1]
    refine kk _ ?_ ⟨dx, b, iv, e, invF n m e, ?_⟩
    · exact ((((s1.exP.trans x2).trans s2.exP).trans x3).trans s3.exP).trans (x4.trans s4.exP)
    · refine ⟨?_, hb7.mono s4, s4.sqT hiv2, he, fun x hx => (inv_ok g he hx).2, g, hn⟩
      rw [← e4]
      exact s4 _ _ upd_same
end
end Wk
end
section
set_option Elab.async false
set_option linter.all false
set_option maxRecDepth 100000
/-! tables of groups as lists of lists, made by a law that draws from a hand -/
namespace Wk
open PySem PySem.Spec PyProof.Rows L2
local macro_rules | `(tactic| walk_at "hp") => `(tactic| first | assumption | exact upd_same | exact (upd_ne (ne_of_none (by assumption) (by assumption))).trans (by assumption) | (rw [upd_ne (by first | assumption | exact Ne.symm (by assumption))]; walk_at "hp"))
local macro_rules | `(tactic| walk_at "sq") => `(tactic| first | assumption | exact SqL.of (by assumption) | exact SqT.of (by assumption) | exact SqL.of (by walk_at "hp") | exact SqT.of (by walk_at "hp") | (refine Same.seq ?_ ?_ <;> assumption))
local macro_rules | `(tactic| walk_at "cmul") => `(tactic| first | exact .inr ⟨by decide, by decide⟩ | exact .inl ⟨by decide, by decide⟩ | exact .inr ⟨by omega, by omega⟩ | exact .inl ⟨by omega, by omega⟩)
local macro_rules | `(tactic| walk_at "cdiv") => `(tactic| first | exact ⟨by decide, by decide⟩ | exact wide_div (b := 64) (by omega) (by omega) (by decide) (by decide) | exact wide_div (b := 128) (by omega) (by omega) (by decide) (by decide))
local macro_rules | `(tactic| walk_at "rd1") => `(tactic| first
  | ((with_reducible show tVar _ _ _ _); refine Wk.r_var rfl ?_)
  | (with_reducible first
    | refine Wk.r_c ?_ | refine Wk.r_op ?_ | refine Wk.r_cons ?_ | refine Wk.r_nil ?_
    | refine Wk.r_seq ?_ | refine Wk.r_next ?_ | refine Wk.r_set ?_ | refine Wk.r_asgS ?_ | refine Wk.r_ret ?_ | refine Wk.r_drop ?_ | refine Wk.r_if ?_
    | refine Wk.r_asgG ?_ | refine Wk.r_gName ?_ | refine Wk.r_gCons ?_ | refine Wk.r_gNil ?_ | refine Wk.r_par ?_ | refine Wk.r_par3 ?_ | refine Wk.r_lstRg1 ?_ | refine Wk.r_tupRg1 ?_ | refine ⟨_, _, _, rfl, ?_⟩ | refine Wk.r_un ?_ | refine Wk.r_I0 ?_ | refine Wk.r_U ?_
    | refine Wk.r_test ?_ | refine Wk.r_B ?_ | refine Wk.r_k ?_ | refine Wk.r_not ?_ | refine Wk.r_and ?_ | refine Wk.r_or ?_ | refine Wk.r_andV ?_ | refine Wk.r_orV ?_ | refine Wk.r_notV ?_
    | refine Wk.r_CB ?_ | refine Wk.r_chain ?_ | refine Wk.r_fld ?_ | refine Wk.r_sfld ?_ | refine Wk.r_lst ?_ | refine Wk.r_tup ?_ | refine Wk.r_call ?_ | refine Wk.r_BM ?_ | refine Wk.r_BM0 ?_ | refine Wk.r_T ?_ | refine Wk.r_nT ?_ | refine Wk.r_nF ?_ | refine Wk.r_F ?_
    | refine Or.inl ⟨_, rfl, ?_⟩ | refine Or.inr ⟨_, rfl, ?_⟩ | refine ⟨_, rfl, ?_⟩ | refine ⟨_, _, rfl, ?_⟩)
  | ((with_reducible refine Wk.r_eq ?c0 ?_); (case c0 => rfl)) | ((with_reducible refine Wk.r_ne ?c0 ?_); (case c0 => rfl))
  | ((with_reducible refine Wk.r_pow ?c0 ?_); (case c0 => exact ⟨by decide, by decide, by decide⟩))
  | ((with_reducible refine Wk.r_mul ?c0 ?_); (case c0 => walk_at "cmul")) | ((with_reducible refine Wk.r_mod ?c0 ?_); (case c0 => first | decide | omega)) | ((with_reducible refine Wk.r_div ?c0 ?_); (case c0 => walk_at "cdiv"))
  | ((with_reducible refine Wk.r_new ?c0 ?_); (case c0 => (simp only [List.length_cons, List.length_nil]; omega)))
  | ((with_reducible show gTup _ _ _ _ _ _ _); refine Wk.r_gTup (by walk_at "sq") (by rfl) ?_)
  | (refine Wk.r_tyL (by walk_at "hp") ?_)
  | ((with_reducible show rSetL _ _ _ _ _); refine Wk.r_setL (by walk_at "hp") (by rfl) ?_)
  | ((with_reducible show rIxL _ _ _ _ _); refine Wk.r_ixL (by walk_at "sq") (by rfl) ?_) | ((with_reducible show rIxT _ _ _ _ _); refine Wk.r_ixT (by walk_at "sq") (by rfl) ?_)
  | ((with_reducible show rLenOf _ _ _ _); first | refine Wk.n_lenL (by walk_at "sq") ?_ | refine Wk.n_lenT (by walk_at "sq") ?_)
  | ((with_reducible show rListOf _ _ _ _); first | refine Wk.n_listL (by walk_at "sq") ?_ | refine Wk.n_listT (by walk_at "sq") ?_)
  | ((with_reducible show rTupZ _ _ _ _); first | refine Wk.z_tupL (by walk_at "sq") ?_ | refine Wk.z_tupT (by walk_at "sq") ?_)
  | ((with_reducible show rTupOf _ _ _ _); first | refine Wk.n_tupL (by walk_at "sq") ?_ | refine Wk.n_tupT (by walk_at "sq") ?_))
local macro_rules | `(tactic| walk_at "rd") => `(tactic| repeat (walk_at "rd1"))
local macro_rules | `(tactic| walk_at "rd1") => `(tactic| (with_reducible first | refine Wk.r_dget ?_ | refine Wk.r_din ?_ | refine Wk.r_dnotin ?_ | refine Wk.r_dput ?_ | refine Wk.r_pairs ?_ | refine Wk.r_pairs0 ?_ | refine Wk.r_sl ?_ | refine Wk.r_part ?_ | refine Wk.r_nopart ?_ | refine Wk.r_augS ?_ | refine Wk.r_ipI ?_ | refine Wk.r_aug rfl ?_ | refine Wk.r_revT ?_))

/-- a list of lists: the table of m -/
def GL (H : Hp) (a : Addr) (n : Nat) (m : Nat → Nat → Nat) : Prop := ∃ L, H a = some (.lst L) ∧ L.length = n ∧ ∀ x v, L[x]? = some v → ∃ b, v = V.ref b ∧ H b = some (.lst (rowV n m x))
theorem GL.mono {H H' : Hp} {a n : Nat} {m : Nat → Nat → Nat} (s : Same H H') (g : GL H a n m) : GL H' a n m := let ⟨L, h1, h2, h3⟩ := g; ⟨L, s _ _ h1, h2, fun x v e => let ⟨b, e1, e2⟩ := h3 x v e; ⟨b, e1, s _ _ e2⟩⟩
theorem HS.ne_ints {H : Hp} {h q p : Addr} {L : List V} (d : HS H h q) (hp : H p = some (.lst L)) (hL : ∀ v ∈ L, ∃ z : Int, v = .int z) : p ≠ h := by
  obtain ⟨i, ds, h1, _⟩ := d
  intro e
  rw [e, h1] at hp
  injection hp with hp
  injection hp with hp
  obtain ⟨z, hz⟩ := hL (.ref q) (by rw [← hp]; exact List.mem_cons_self)
  cases hz
theorem rowV_int {n x : Nat} {m : Nat → Nat → Nat} : ∀ v ∈ rowV n m x, ∃ z : Int, v = .int z := fun v hv => by
  unfold rowV at hv
  obtain ⟨y, _, rfl⟩ := List.mem_map.mp hv
  exact ⟨_, rfl⟩
theorem natsV_int {n : Nat} {o : Nat → Nat} : ∀ v ∈ natsV n o, ∃ z : Int, v = .int z := fun v hv => by
  unfold natsV at hv
  obtain ⟨y, _, rfl⟩ := List.mem_map.mp hv
  exact ⟨_, rfl⟩
theorem GL.ne {H : Hp} {h q a n : Nat} {m : Nat → Nat → Nat} (d : HS H h q) (g : GL H a n m) : a ≠ h := by
  obtain ⟨L, h1, h2, h3⟩ := g
  obtain ⟨i, ds, e1, _⟩ := d
  intro e
  rw [e, e1] at h1
  injection h1 with h1
  injection h1 with h1
  obtain ⟨b, q1, _⟩ := h3 1 (.int i) (by rw [← h1]; rfl)
  cases q1
theorem GL.exP {H H' : Hp} {h q a n : Nat} {m : Nat → Nat → Nat} (d : HS H h q) (x : ExP h H H') (g : GL H a n m) : GL H' a n m := by
  have ne := g.ne d
  obtain ⟨L, h1, h2, h3⟩ := g
  exact ⟨L, x _ _ ne h1, h2, fun k v e => let ⟨b, e1, e2⟩ := h3 k v e; ⟨b, e1, x _ _ (d.ne_ints e2 rowV_int) e2⟩⟩
theorem GL.get {H : Hp} {a n : Nat} {m : Nat → Nat → Nat} (g : GL H a n m) : ∃ L, H a = some (.lst L) ∧ L.length = n ∧ ∀ x, x < n → ∃ b, L[x]? = some (V.ref b) ∧ H b = some (.lst (rowV n m x)) := by
  obtain ⟨L, h1, h2, h3⟩ := g
  refine ⟨L, h1, h2, fun x hx => ?_⟩
  have e := List.getElem?_eq_getElem (l := L) (i := x) (by omega)
  obtain ⟨b, e1, e2⟩ := h3 x _ e
  exact ⟨b, by rw [e, e1], e2⟩
theorem GL.congr {H : Hp} {a n : Nat} {m m' : Nat → Nat → Nat} (e : ∀ x y, x < n → y < n → m x y = m' x y) (g : GL H a n m) : GL H a n m' := by
  obtain ⟨L, h1, h2, h3⟩ := g
  refine ⟨L, h1, h2, fun x v hx => ?_⟩
  have hl : x < n := by have := (List.getElem?_eq_some_iff.mp hx).1; omega
  obtain ⟨b, e1, e2⟩ := h3 x v hx
  have er : rowV n m x = rowV n m' x := by
    unfold rowV
    exact List.map_congr_left fun y hy => by rw [e x y hl (List.mem_range.mp hy)]
  exact ⟨b, e1, er ▸ e2⟩
theorem NR.gl {H : Hp} {D n : Nat} {m : Nat → Nat → Nat} {bs : List Addr} (r : NR H D n (rowV n m) bs) : GL H D n m := by
  refine ⟨_, r.at_, by rw [List.length_map, r.len], fun x v e => ?_⟩
  rw [List.getElem?_map] at e
  cases c : bs[x]? with
  | none => rw [c] at e; cases e
  | some b =>
    rw [c] at e
    cases e
    exact ⟨b, rfl, r.rows x b c⟩
/-- a row that is ready is put to the others -/
theorem NR.snoc {H : Hp} {D i b : Nat} {F : Nat → List V} {bs : List Addr} (r : NR H D i F bs) (hb : H b = some (.lst (F i))) (n1 : b ∉ bs) (n2 : b ≠ D) : NR (upd H D (.lst (bs.map V.ref ++ [V.ref b]))) D (i + 1) F (bs ++ [b]) := by
  refine ⟨by rw [upd_same, List.map_append]; rfl, by rw [List.length_append, r.len]; rfl, ?_, ?_, fun k c e => ?_⟩
  · rw [List.nodup_append]
    exact ⟨r.nd, List.nodup_cons.mpr ⟨List.not_mem_nil, List.nodup_nil⟩, fun c hc d hd q => by rw [List.mem_singleton.mp hd] at q; exact n1 (q ▸ hc)⟩
  · intro m
    rcases List.mem_append.mp m with m | m
    · exact r.out m
    · exact n2 (List.mem_singleton.mp m).symm
  · rcases get_snoc e with ⟨_, q⟩ | ⟨q, rfl⟩
    · rw [upd_ne (fun z : c = D => r.out (by rw [← z]; exact List.mem_of_getElem? q))]
      exact r.rows k c q
    · rw [q, r.len, upd_ne n2]
      exact hb
theorem NR.zero {H : Hp} {D : Nat} {F : Nat → List V} (h : H D = some (.lst [])) : NR H D 0 F [] := ⟨h, rfl, List.nodup_nil, List.not_mem_nil, fun k b e => by simp at e⟩
/-- such a table is handed back, new -/
def RetGL (H : Hp) (n : Nat) (m : Nat → Nat → Nat) (Q : VK) : Prop := ∀ H' a, H a = none → Same H H' → GL H' a n m → Q (.ref a) H'
/-- what is known between two rows -/
structure Rws (H0 : Hp) (D i n : Nat) (m : Nat → Nat → Nat) (H : Hp) : Prop where
  new : H0 D = none
  same : Same H0 H
  nr : ∃ bs, NR H D i (rowV n m) bs
/-- within a row: b is the row as far as it is -/
structure Rwx (H0 : Hp) (D i n b j : Nat) (m : Nat → Nat → Nat) (H : Hp) : Prop where
  new : H0 D = none
  same : Same H0 H
  b0 : H0 b = none
  nr : ∃ bs, NR H D i (rowV n m) bs ∧ b ∉ bs
  nb : b ≠ D
  at_ : H b = some (.lst ((List.range j).map fun y => V.int ((m i y : Nat) : Int)))
theorem Rws.row {H0 H : Hp} {D i n b : Nat} {m : Nat → Nat → Nat} (r : Rws H0 D i n m H) (hb : H b = none) : Rwx H0 D i n b 0 m (upd H b (.lst [])) := by
  obtain ⟨bs, nr⟩ := r.nr
  have s := same_new (o := .lst []) hb
  refine ⟨r.new, r.same.trans s, r.same.free hb, ⟨bs, nr.mono s, fun q => ?_⟩, fun q => ?_, upd_same⟩
  · obtain ⟨k, hk⟩ := List.mem_iff_getElem?.mp q
    rw [nr.rows k b hk] at hb
    cases hb
  · rw [q, nr.at_] at hb
    cases hb
theorem Rwx.snoc {H0 H : Hp} {D i n b j : Nat} {m : Nat → Nat → Nat} (r : Rwx H0 D i n b j m H) : Rwx H0 D i n b (j + 1) m (upd H b (.lst ((List.range j).map (fun y => V.int ((m i y : Nat) : Int)) ++ [V.int ((m i j : Nat) : Int)]))) := by
  obtain ⟨bs, nr, nb⟩ := r.nr
  refine ⟨r.new, same_upd r.same r.b0, r.b0, ⟨bs, nr.exP r.nb.symm nb ExP.upd, nb⟩, r.nb, ?_⟩
  rw [upd_same, List.range_succ, List.map_append]
  rfl
theorem Rwx.mono {H0 H H' : Hp} {D i n b j : Nat} {m : Nat → Nat → Nat} (s : Same H H') (r : Rwx H0 D i n b j m H) : Rwx H0 D i n b j m H' := let ⟨bs, nr, nb⟩ := r.nr; ⟨r.new, r.same.trans s, r.b0, ⟨bs, nr.mono s, nb⟩, r.nb, s _ _ r.at_⟩
theorem Rwx.done {H0 H : Hp} {D i n b : Nat} {m : Nat → Nat → Nat} (r : Rwx H0 D i n b n m H) : ∃ xs, H D = some (.lst xs) ∧ xs.length = i ∧ Rws H0 D (i + 1) n m (upd H D (.lst (xs ++ [V.ref b]))) := by
  obtain ⟨bs, nr, nb⟩ := r.nr
  exact ⟨_, nr.at_, by rw [List.length_map, nr.len], r.new, same_upd r.same r.new, bs ++ [b], nr.snoc r.at_ nb r.nb⟩
theorem Rws.start {H0 : Hp} {D n : Nat} {m : Nat → Nat → Nat} (h : H0 D = none) : Rws H0 D 0 n m (upd H0 D (.lst [])) := ⟨h, same_new h, [], NR.zero upd_same⟩
theorem Rws.gl {H0 H : Hp} {D n : Nat} {m : Nat → Nat → Nat} (r : Rws H0 D n n m H) : GL H D n m := let ⟨_, nr⟩ := r.nr; nr.gl
section
variable {P : Program} {w : World} {K : PySem.W.Frag} {mg : Str → Option Value} {base : Heap}
def spGCyc : Sp := fun vs H Q _ => ∃ n : Nat, vs = [.int (n : Int)] ∧ 1 ≤ n ∧ n ≤ 48 ∧ RetGL H n (G.cyc n) Q
theorem k__law_cyclic (T : Txt mg) (a : At K mg "_law_cyclic" s__law_cyclic ["n"]) : Keep P w K mg base 1 "_law_cyclic" ["n"] spGCyc := by
  refine Keep.of a sc__law_cyclic (fun vs H Q E h => ?_) (fun f cdv A outer s H vs Q E hr h => ?_)
  · obtain ⟨_, rfl, _⟩ := h
    rfl
  · obtain ⟨n, rfl, n1, n2, kk⟩ := h
    refine ⟨_, (pss_one (ps_ret (pe_lc (own := [("x", 1)]) rfl sc__law_cyclic.nd (pi_range1 (by rfl) T.n_range (pa_cons (pv 0) pa_nil)) (blkOk_by (N := ["n", "x", "y"]) (sc := defScope s__law_cyclic) (by decide +kernel)) (fun _ _ _ _ _ => (pg_name (i := 1) sc__law_cyclic.nd rfl (by first | exact Or.inl rfl | exact Or.inr rfl))) (fun _ _ _ _ _ => pts_nil) (fun _ _ _ _ _ => (pe_lc (own := [("y", 2)]) rfl sc__law_cyclic.nd (pi_range1 (by rfl) T.n_range (pa_cons (pv 0) pa_nil)) (blkOk_by (by kernel_rfl)) (fun _ _ _ _ _ => (pg_name (i := 2) sc__law_cyclic.nd rfl (by first | exact Or.inl rfl | exact Or.inr rfl))) (fun _ _ _ _ _ => pts_nil) (fun _ _ _ _ _ => (pe_op op_mod (pe_callTy call_int1 (by rfl) T.n_int (by decide +kernel) (pa_cons (pe_op op_add (pv 1) (pv 2)) pa_nil)) (pv 0)))))))), ?_⟩
    walk_at "rd"
    refine lc_rngN (n := n) (rowV n (G.cyc n)) (by omega) (fun R' h => ?_) (fun x H2 Q' hx s2 k2 => ?_) (fun D bs H2 hD s2 r fr => ?_)
    · walk_at "rd"
      exact h
    · walk_at "rd"
      refine lc_rngV (n := n) (fun y => .int ((G.cyc n x y : Nat) : Int)) (by omega) (fun R' h => ?_) (fun y H3 Q2 hy s3 k3 => ?_) (fun D3 H3 hD3 s3 hL3 => ?_)
      · walk_at "rd"
        exact h
      · walk_at "rd"
        rw [← Int.natCast_add, cmodN]
        exact k3 _ (Same.refl _)
      · exact k2 D3 H3 hD3 s3 hL3
    · exact kk _ D hD s2 r.gl
def spGBoth : Sp := fun vs H Q _ => ∃ (a b n k : Nat) (m1 m2 : Nat → Nat → Nat), vs = [.ref a, .ref b] ∧ GL H a n m1 ∧ GL H b k m2 ∧ 1 ≤ n ∧ 1 ≤ k ∧ n * k ≤ 48 ∧ (∀ x y, x < n → y < n → m1 x y < n) ∧ (∀ x y, x < k → y < k → m2 x y < k) ∧ RetGL H (n * k) (G.prd k m1 m2) Q
set_option maxHeartbeats 4000000 in
theorem k__law_both (T : Txt mg) (a : At K mg "_law_both" s__law_both ["one", "other"]) : Keep P w K mg base 1 "_law_both" ["one", "other"] spGBoth := by
  refine Keep.of a sc__law_both (fun vs H Q E h => ?_) (fun f cdv A outer s H vs Q E hr h => ?_)
  · obtain ⟨_, _, _, _, _, _, rfl, _⟩ := h
    rfl
  · obtain ⟨a, b, n, k, m1, m2, rfl, g1, g2, hn, hk, hnk, c1, c2, kk⟩ := h
    obtain ⟨L1, e1, l1, r1⟩ := g1.get
    obtain ⟨L2', e2, l2, r2⟩ := g2.get
    refine ⟨_, (pss_cons (ps_set (i := 2) sc__law_both.nd rfl (by first | exact Or.inl rfl | exact Or.inr rfl) (pe_callB (c_len K) (by rfl) T.n_len (by decide +kernel) (pa_cons (pv 1) pa_nil)))
    (pss_cons (ps_set (i := 3) sc__law_both.nd rfl (by first | exact Or.inl rfl | exact Or.inr rfl) (pe_lst pa_nil))
    (pss_cons (ps_for PassesOwn.never rfl (pi_range1 (by rfl) T.n_range (pa_cons (pe_op op_mul (pe_callB (c_len K) (by rfl) T.n_len (by decide +kernel) (pa_cons (pv 0) pa_nil)) (pv 2)) pa_nil)) (pg_name (i := 4) sc__law_both.nd rfl (by first | exact Or.inl rfl | exact Or.inr rfl)) (pss_cons (ps_set (i := 5) sc__law_both.nd rfl (by first | exact Or.inl rfl | exact Or.inr rfl) (pe_lst pa_nil))
    (pss_cons (ps_for PassesOwn.never rfl (pi_range1 (by rfl) T.n_range (pa_cons (pe_op op_mul (pe_callB (c_len K) (by rfl) T.n_len (by decide +kernel) (pa_cons (pv 0) pa_nil)) (pv 2)) pa_nil)) (pg_name (i := 6) sc__law_both.nd rfl (by first | exact Or.inl rfl | exact Or.inr rfl)) (pss_one (ps_expr (e_bm K PySem.F.plainAttrs_list PySem.F.slot_list_append PySem.F.type_list_append mt_append (pv 5) (pa_cons (pe_op op_add (pe_op op_mul (pe_ix (x_list K) (pe_ix (x_list K) (pv 0) (pe_op op_fdivW (pv 4) (pv 2)) (fun _ _ => rfl)) (pe_op op_fdivW (pv 6) (pv 2)) (fun _ _ => rfl)) (pv 2)) (pe_ix (x_list K) (pe_ix (x_list K) (pv 1) (pe_op op_mod (pe_callTy call_int1 (by rfl) T.n_int (by decide +kernel) (pa_cons (pv 4) pa_nil)) (pv 2)) (fun _ _ => rfl)) (pe_op op_mod (pe_callTy call_int1 (by rfl) T.n_int (by decide +kernel) (pa_cons (pv 6) pa_nil)) (pv 2)) (fun _ _ => rfl))) pa_nil)))))
    (pss_one (ps_expr (e_bm K PySem.F.plainAttrs_list PySem.F.slot_list_append PySem.F.type_list_append mt_append (pv 3) (pa_cons (pv 5) pa_nil)))))))
    (pss_one (ps_ret (pv 3)))))), ?_⟩
    walk_at "rd"
    rw [l2]
    intro D hD
    walk_at "rd"
    have kn : k ≤ n * k := Nat.le_mul_of_pos_left k (by omega)
    have nn : n ≤ n * k := Nat.le_mul_of_pos_right n (by omega)
    refine f_rng (n := n * k) (fun i σ' H' => ∃ v4 v5 v6 : Option V, σ' = [some (.ref a), some (.ref b), some (.int (k : Int)), some (.ref D), v4, v5, v6] ∧ Rws H D i (n * k) (G.prd k m1 m2) H') (by omega) (fun R' h => ?_) ⟨_, _, _, rfl, Rws.start hD⟩ ?_ ?_
    · have e1' := (same_new (o := .lst []) hD) _ _ e1
      walk_at "rd"
      rw [l1]
      walk_at "rd"
      rw [← Int.natCast_mul]
      exact h
    · rintro x σ' H2 hx ⟨v4, v5, v6, rfl, rw_⟩ N B R hN hB hRt
      walk_at "rd"
      intro rb hrb
      have rx := rw_.row hrb
      have e1' := rx.same _ _ e1
      walk_at "rd"
      refine f_rng (n := n * k) (fun j σ' H' => ∃ v6 : Option V, σ' = [some (.ref a), some (.ref b), some (.int (k : Int)), some (.ref D), some (.int (x : Int)), some (.ref rb), v6] ∧ Rwx H D x (n * k) rb j (G.prd k m1 m2) H') (by omega) (fun R' h => ?_) ⟨_, rfl, rx⟩ ?_ ?_
      · walk_at "rd"
        rw [l1]
        walk_at "rd"
        rw [← Int.natCast_mul]
        exact h
      · rintro y σ' H3 hy ⟨v6, rfl, rx⟩ N' B' R' hN' hB' hRt'
        have xd : x / k < n := Nat.div_lt_of_lt_mul (by rw [Nat.mul_comm]; exact hx)
        have yd : y / k < n := Nat.div_lt_of_lt_mul (by rw [Nat.mul_comm]; exact hy)
        have xm : x % k < k := Nat.mod_lt _ (by omega)
        have ym : y % k < k := Nat.mod_lt _ (by omega)
        obtain ⟨b1, q1, q2⟩ := r1 _ xd
        obtain ⟨b2, q3, q4⟩ := r2 _ xm
        have f1 := rx.same _ _ e1
        have f2 := rx.same _ _ e2
        have f3 := rx.same _ _ q2
        have f4 := rx.same _ _ q4
        have c1' := c1 _ _ xd yd
        have c2' := c2 _ _ xm ym
        have hrb := rx.at_
        walk_at "rd"
        rw [cdivN]
        refine Wk.r_ixL (SqL.of f1) (at_n q1) ?_
        walk_at "rd"
        rw [cdivN]
        refine Wk.r_ixL (SqL.of f3) (at_n (rowV_get yd)) ?_
        walk_at "rd"
        rw [cmodN]
        refine Wk.r_ixL (SqL.of f2) (at_n q3) ?_
        walk_at "rd"
        rw [cmodN]
        refine Wk.r_ixL (SqL.of f4) (at_n (rowV_get ym)) ?_
        walk_at "rd"
        refine Wk.r_append hrb (szlt (by rw [List.length_map, List.length_range]; omega)) ?_
        rw [← Int.natCast_mul, ← Int.natCast_add]
        exact hN' _ _ ⟨_, rfl, rx.snoc⟩
      · rintro σ' H3 ⟨v6, rfl, rx⟩
        obtain ⟨xs, hxs, lx, rw2⟩ := rx.done
        walk_at "rd"
        refine Wk.r_append hxs (szlt (by omega)) ?_
        exact hN _ _ ⟨_, _, _, rfl, rw2⟩
    · rintro σ' H2 ⟨v4, v5, v6, rfl, rw_⟩
      walk_at "rd"
      exact kk _ D hD rw_.same rw_.gl
end
end Wk
end
section
set_option Elab.async false
set_option linter.all false
set_option maxRecDepth 100000
namespace Wk
open PySem PySem.Spec PyProof.Rows L2
local macro_rules | `(tactic| walk_at "hp") => `(tactic| first | assumption | exact upd_same | exact (upd_ne (ne_of_none (by assumption) (by assumption))).trans (by assumption) | (rw [upd_ne (by first | assumption | exact Ne.symm (by assumption))]; walk_at "hp"))
local macro_rules | `(tactic| walk_at "sq") => `(tactic| first | assumption | exact SqL.of (by assumption) | exact SqT.of (by assumption) | exact SqL.of (by walk_at "hp") | exact SqT.of (by walk_at "hp") | (refine Same.seq ?_ ?_ <;> assumption))
local macro_rules | `(tactic| walk_at "cmul") => `(tactic| first | exact .inr ⟨by decide, by decide⟩ | exact .inl ⟨by decide, by decide⟩ | exact .inr ⟨by omega, by omega⟩ | exact .inl ⟨by omega, by omega⟩)
local macro_rules | `(tactic| walk_at "cdiv") => `(tactic| first | exact ⟨by decide, by decide⟩ | exact wide_div (b := 64) (by omega) (by omega) (by decide) (by decide) | exact wide_div (b := 128) (by omega) (by omega) (by decide) (by decide))
local macro_rules | `(tactic| walk_at "rd1") => `(tactic| first
  | ((with_reducible show tVar _ _ _ _); refine Wk.r_var rfl ?_)
  | (with_reducible first
    | refine Wk.r_c ?_ | refine Wk.r_op ?_ | refine Wk.r_cons ?_ | refine Wk.r_nil ?_
    | refine Wk.r_seq ?_ | refine Wk.r_next ?_ | refine Wk.r_set ?_ | refine Wk.r_asgS ?_ | refine Wk.r_ret ?_ | refine Wk.r_drop ?_ | refine Wk.r_if ?_
    | refine Wk.r_asgG ?_ | refine Wk.r_gName ?_ | refine Wk.r_gCons ?_ | refine Wk.r_gNil ?_ | refine Wk.r_par ?_ | refine Wk.r_par3 ?_ | refine Wk.r_lstRg1 ?_ | refine Wk.r_tupRg1 ?_ | refine ⟨_, _, _, rfl, ?_⟩ | refine Wk.r_un ?_ | refine Wk.r_I0 ?_ | refine Wk.r_U ?_
    | refine Wk.r_test ?_ | refine Wk.r_B ?_ | refine Wk.r_k ?_ | refine Wk.r_not ?_ | refine Wk.r_and ?_ | refine Wk.r_or ?_ | refine Wk.r_andV ?_ | refine Wk.r_orV ?_ | refine Wk.r_notV ?_
    | refine Wk.r_CB ?_ | refine Wk.r_chain ?_ | refine Wk.r_fld ?_ | refine Wk.r_sfld ?_ | refine Wk.r_lst ?_ | refine Wk.r_tup ?_ | refine Wk.r_call ?_ | refine Wk.r_BM ?_ | refine Wk.r_BM0 ?_ | refine Wk.r_T ?_ | refine Wk.r_nT ?_ | refine Wk.r_nF ?_ | refine Wk.r_F ?_
    | refine Or.inl ⟨_, rfl, ?_⟩ | refine Or.inr ⟨_, rfl, ?_⟩ | refine ⟨_, rfl, ?_⟩ | refine ⟨_, _, rfl, ?_⟩)
  | ((with_reducible refine Wk.r_eq ?c0 ?_); (case c0 => rfl)) | ((with_reducible refine Wk.r_ne ?c0 ?_); (case c0 => rfl))
  | ((with_reducible refine Wk.r_pow ?c0 ?_); (case c0 => exact ⟨by decide, by decide, by decide⟩))
  | ((with_reducible refine Wk.r_mul ?c0 ?_); (case c0 => walk_at "cmul")) | ((with_reducible refine Wk.r_mod ?c0 ?_); (case c0 => first | decide | omega)) | ((with_reducible refine Wk.r_div ?c0 ?_); (case c0 => walk_at "cdiv"))
  | ((with_reducible refine Wk.r_new ?c0 ?_); (case c0 => (simp only [List.length_cons, List.length_nil]; omega)))
  | ((with_reducible show gTup _ _ _ _ _ _ _); refine Wk.r_gTup (by walk_at "sq") (by rfl) ?_)
  | (refine Wk.r_tyL (by walk_at "hp") ?_)
  | ((with_reducible show rSetL _ _ _ _ _); refine Wk.r_setL (by walk_at "hp") (by rfl) ?_)
  | ((with_reducible show rIxL _ _ _ _ _); refine Wk.r_ixL (by walk_at "sq") (by rfl) ?_) | ((with_reducible show rIxT _ _ _ _ _); refine Wk.r_ixT (by walk_at "sq") (by rfl) ?_)
  | ((with_reducible show rLenOf _ _ _ _); first | refine Wk.n_lenL (by walk_at "sq") ?_ | refine Wk.n_lenT (by walk_at "sq") ?_)
  | ((with_reducible show rListOf _ _ _ _); first | refine Wk.n_listL (by walk_at "sq") ?_ | refine Wk.n_listT (by walk_at "sq") ?_)
  | ((with_reducible show rTupZ _ _ _ _); first | refine Wk.z_tupL (by walk_at "sq") ?_ | refine Wk.z_tupT (by walk_at "sq") ?_)
  | ((with_reducible show rTupOf _ _ _ _); first | refine Wk.n_tupL (by walk_at "sq") ?_ | refine Wk.n_tupT (by walk_at "sq") ?_))
local macro_rules | `(tactic| walk_at "rd") => `(tactic| repeat (walk_at "rd1"))
local macro_rules | `(tactic| walk_at "rd1") => `(tactic| (with_reducible first | refine Wk.r_dget ?_ | refine Wk.r_din ?_ | refine Wk.r_dnotin ?_ | refine Wk.r_dput ?_ | refine Wk.r_pairs ?_ | refine Wk.r_pairs0 ?_ | refine Wk.r_sl ?_ | refine Wk.r_part ?_ | refine Wk.r_nopart ?_ | refine Wk.r_augS ?_ | refine Wk.r_ipI ?_ | refine Wk.r_aug rfl ?_ | refine Wk.r_revT ?_))

theorem two_of {a : Nat} (h : a < 2) : a = 0 ∨ a = 1 := by omega
theorem dih_eq {n x y : Nat} (h : 0 < n) (hx : x < 2 * n) (hy : y < 2 * n) : (((x % n : Nat) : Int) + (if x / n = 0 then ((y % n : Nat) : Int) else -((y % n : Nat) : Int))) % (n : Int) + (n : Int) * (((x / n + y / n) % 2 : Nat) : Int) = ((G.dih n x y : Nat) : Int) := by
  have dx : x / n < 2 := Nat.div_lt_of_lt_mul (by rw [Nat.mul_comm]; exact hx)
  have dy : y / n < 2 := Nat.div_lt_of_lt_mul (by rw [Nat.mul_comm]; exact hy)
  have my : y % n < n := Nat.mod_lt _ h
  unfold G.dih
  generalize x / n = qx at dx ⊢
  generalize y / n = qy at dy ⊢
  generalize x % n = rx
  generalize y % n = ry at my ⊢
  by_cases c : qx = 0
  · rw [if_pos c, if_pos c, c, Nat.zero_add, Nat.mod_eq_of_lt dy, ← Int.natCast_add, cmodN, ← Int.natCast_mul, ← Int.natCast_add]
  · rw [if_neg c, if_neg c]
    have c1 : qx = 1 := by omega
    have e1 : ((rx : Int) + -(ry : Int)) % (n : Int) = (((rx + (n - ry)) % n : Nat) : Int) := by
      have : ((rx + (n - ry) : Nat) : Int) = ((rx : Int) + -(ry : Int)) + (n : Int) := by omega
      rw [← cmodN (rx + (n - ry)) n, this, Int.add_emod_right]
    have e2 : (qx + qy) % 2 = 1 - qy := by rw [c1]; omega
    rw [e1, e2, ← Int.natCast_mul, ← Int.natCast_add]
/-- the law's own table of the quaternions -/
def units4 (u v : Nat) : Nat := (([[0, 2, 4, 6], [2, 1, 6, 5], [4, 7, 1, 2], [6, 4, 3, 1]] : List (List Nat)).getD u []).getD v 0
theorem qua_eq : ∀ x : Fin 8, ∀ y : Fin 8, units4 (x / 2) (y / 2) / 2 * 2 + (units4 (x / 2) (y / 2) + x + y) % 2 = G.qua x y := by decide +kernel
theorem units_row : ∀ u : Fin 4, ∀ v : Fin 4, ([[0, 2, 4, 6], [2, 1, 6, 5], [4, 7, 1, 2], [6, 4, 3, 1]] : List (List Nat))[(u : Nat)]?.bind (fun r => r[(v : Nat)]?) = some (units4 u v) ∧ units4 u v < 8 := by decide +kernel
section
variable {P : Program} {w : World} {K : PySem.W.Frag} {mg : Str → Option Value} {base : Heap}
def spGDih : Sp := fun vs H Q _ => ∃ n : Nat, vs = [.int (n : Int)] ∧ 1 ≤ n ∧ n ≤ 24 ∧ RetGL H (2 * n) (G.dih n) Q
set_option maxHeartbeats 4000000 in
theorem k__law_dihedral (T : Txt mg) (a : At K mg "_law_dihedral" s__law_dihedral ["n"]) : Keep P w K mg base 1 "_law_dihedral" ["n"] spGDih := by
  refine Keep.of a sc__law_dihedral (fun vs H Q E h => ?_) (fun f cdv A outer s H vs Q E hr h => ?_)
  · obtain ⟨_, rfl, _⟩ := h
    rfl
  · obtain ⟨n, rfl, n1, n2, kk⟩ := h
    refine ⟨_, (pss_cons (ps_set (i := 1) sc__law_dihedral.nd rfl (by first | exact Or.inl rfl | exact Or.inr rfl) (pe_lst pa_nil))
    (pss_cons (ps_for PassesOwn.never rfl (pi_range1 (by rfl) T.n_range (pa_cons (pe_op op_mul pe_int (pv 0)) pa_nil)) (pg_name (i := 2) sc__law_dihedral.nd rfl (by first | exact Or.inl rfl | exact Or.inr rfl)) (pss_cons (ps_par (i := 3) (j := 4) (by rfl) sc__law_dihedral.nd rfl rfl (by decide) rfl rfl (pa_cons (pe_op op_mod (pe_callTy call_int1 (by rfl) T.n_int (by decide +kernel) (pa_cons (pv 2) pa_nil)) (pv 0)) (pa_cons (pe_op op_fdivW (pv 2) (pv 0)) pa_nil)) (by rfl))
    (pss_cons (ps_set (i := 5) sc__law_dihedral.nd rfl (by first | exact Or.inl rfl | exact Or.inr rfl) (pe_lst pa_nil))
    (pss_cons (ps_for PassesOwn.never rfl (pi_range1 (by rfl) T.n_range (pa_cons (pe_op op_mul pe_int (pv 0)) pa_nil)) (pg_name (i := 6) sc__law_dihedral.nd rfl (by first | exact Or.inl rfl | exact Or.inr rfl)) (pss_cons (ps_par (i := 7) (j := 8) (by rfl) sc__law_dihedral.nd rfl rfl (by decide) rfl rfl (pa_cons (pe_op op_mod (pe_callTy call_int1 (by rfl) T.n_int (by decide +kernel) (pa_cons (pv 6) pa_nil)) (pv 0)) (pa_cons (pe_op op_fdivW (pv 6) (pv 0)) pa_nil)) (by rfl))
    (pss_one (ps_expr (e_bm K PySem.F.plainAttrs_list PySem.F.slot_list_append PySem.F.type_list_append mt_append (pv 5) (pa_cons (pe_op op_add (pe_op op_mod (pe_callTy call_int1 (by rfl) T.n_int (by decide +kernel) (pa_cons (pe_op op_add (pv 3) (pe_ix (x_list K) (pe_lst (pa_cons (pv 7) (pa_cons (pe_un un_neg (pv 7)) pa_nil))) (pv 4) (fun _ _ => rfl))) pa_nil)) (pv 0)) (pe_op op_mul (pv 0) (pe_op op_mod (pe_callTy call_int1 (by rfl) T.n_int (by decide +kernel) (pa_cons (pe_op op_add (pv 4) (pv 8)) pa_nil)) pe_int))) pa_nil))))))
    (pss_one (ps_expr (e_bm K PySem.F.plainAttrs_list PySem.F.slot_list_append PySem.F.type_list_append mt_append (pv 1) (pa_cons (pv 5) pa_nil))))))))
    (pss_one (ps_ret (pv 1))))), ?_⟩
    walk_at "rd"
    intro D hD
    walk_at "rd"
    refine f_rng (n := 2 * n) (fun i σ' H' => ∃ v2 v3 v4 v5 v6 v7 v8 : Option V, σ' = [some (.int (n : Int)), some (.ref D), v2, v3, v4, v5, v6, v7, v8] ∧ Rws H D i (2 * n) (G.dih n) H') (by omega) (fun R' h => ?_) ⟨_, _, _, _, _, _, _, rfl, Rws.start hD⟩ ?_ ?_
    · walk_at "rd"
      rw [show (2 : Int) * (n : Int) = ((2 * n : Nat) : Int) by omega]
      exact h
    · rintro x σ' H2 hx ⟨v2, v3, v4, v5, v6, v7, v8, rfl, rw_⟩ N B R hN hB hRt
      have xd : x / n < 2 := Nat.div_lt_of_lt_mul (by rw [Nat.mul_comm]; exact hx)
      walk_at "rd"
      rw [cmodN, cdivN]
      intro rb hrb
      have rx := rw_.row hrb
      walk_at "rd"
      refine f_rng (n := 2 * n) (fun j σ' H' => ∃ v6 v7 v8 : Option V, σ' = [some (.int (n : Int)), some (.ref D), some (.int (x : Int)), some (.int ((x % n : Nat) : Int)), some (.int ((x / n : Nat) : Int)), some (.ref rb), v6, v7, v8] ∧ Rwx H D x (2 * n) rb j (G.dih n) H') (by omega) (fun R' h => ?_) ⟨_, _, _, rfl, rx⟩ ?_ ?_
      · walk_at "rd"
        rw [show (2 : Int) * (n : Int) = ((2 * n : Nat) : Int) by omega]
        exact h
      · rintro y σ' H3 hy ⟨v6, v7, v8, rfl, rx⟩ N' B' R' hN' hB' hRt'
        have yd : y / n < 2 := Nat.div_lt_of_lt_mul (by rw [Nat.mul_comm]; exact hy)
        have key := dih_eq (n := n) (by omega) hx hy
        have hrb := rx.at_
        walk_at "rd"
        rw [cmodN, cdivN]
        intro l nl
        have sl := same_new (o := .lst [V.int ((y % n : Nat) : Int), V.int (-((y % n : Nat) : Int))]) nl
        have rx := rx.mono sl
        have hrb := sl _ _ hrb
        have e : atI [V.int ((y % n : Nat) : Int), V.int (-((y % n : Nat) : Int))] ((x / n : Nat) : Int) = some (V.int (if x / n = 0 then ((y % n : Nat) : Int) else -((y % n : Nat) : Int))) := by
          rcases two_of xd with c | c
          · rw [c]; rfl
          · rw [c]; rfl
        walk_at "rd"
        refine Wk.r_ixL (SqL.of upd_same) e ?_
        walk_at "rd"
        rw [← Int.natCast_add, show (((x / n + y / n : Nat) : Int) % 2) = (((x / n + y / n) % 2 : Nat) : Int) from cmodN _ 2]
        walk_at "rd"
        refine Wk.r_append hrb (szlt (by rw [List.length_map, List.length_range]; omega)) ?_
        rw [key]
        exact hN' _ _ ⟨_, _, _, rfl, rx.snoc⟩
      · rintro σ' H3 ⟨v6, v7, v8, rfl, rx⟩
        obtain ⟨xs, hxs, lx, rw2⟩ := rx.done
        walk_at "rd"
        refine Wk.r_append hxs (szlt (by omega)) ?_
        exact hN _ _ ⟨_, _, _, _, _, _, _, rfl, rw2⟩
    · rintro σ' H2 ⟨v2, v3, v4, v5, v6, v7, v8, rfl, rw_⟩
      walk_at "rd"
      exact kk _ D hD rw_.same rw_.gl
def spGQua : Sp := fun vs H Q _ => vs = [] ∧ RetGL H 8 G.qua Q
set_option maxHeartbeats 4000000 in
theorem k__law_quaternion (T : Txt mg) (a : At K mg "_law_quaternion" s__law_quaternion []) : Keep P w K mg base 1 "_law_quaternion" [] spGQua := by
  refine Keep.of a sc__law_quaternion (fun vs H Q E h => ?_) (fun f cdv A outer s H vs Q E hr h => ?_)
  · obtain ⟨rfl, _⟩ := h
    rfl
  · obtain ⟨rfl, kk⟩ := h
    refine ⟨_, (pss_cons (ps_set (i := 0) sc__law_quaternion.nd rfl (by first | exact Or.inl rfl | exact Or.inr rfl) (pe_lst (pa_cons (pe_lst (pa_cons pe_int (pa_cons pe_int (pa_cons pe_int (pa_cons pe_int pa_nil))))) (pa_cons (pe_lst (pa_cons pe_int (pa_cons pe_int (pa_cons pe_int (pa_cons pe_int pa_nil))))) (pa_cons (pe_lst (pa_cons pe_int (pa_cons pe_int (pa_cons pe_int (pa_cons pe_int pa_nil))))) (pa_cons (pe_lst (pa_cons pe_int (pa_cons pe_int (pa_cons pe_int (pa_cons pe_int pa_nil))))) pa_nil))))))
    (pss_cons (ps_set (i := 1) sc__law_quaternion.nd rfl (by first | exact Or.inl rfl | exact Or.inr rfl) (pe_lst pa_nil))
    (pss_cons (ps_for PassesOwn.never rfl (pi_range1 (by rfl) T.n_range (pa_cons pe_int pa_nil)) (pg_name (i := 2) sc__law_quaternion.nd rfl (by first | exact Or.inl rfl | exact Or.inr rfl)) (pss_cons (ps_set (i := 3) sc__law_quaternion.nd rfl (by first | exact Or.inl rfl | exact Or.inr rfl) (pe_lst pa_nil))
    (pss_cons (ps_for PassesOwn.never rfl (pi_range1 (by rfl) T.n_range (pa_cons pe_int pa_nil)) (pg_name (i := 4) sc__law_quaternion.nd rfl (by first | exact Or.inl rfl | exact Or.inr rfl)) (pss_cons (ps_set (i := 5) sc__law_quaternion.nd rfl (by first | exact Or.inl rfl | exact Or.inr rfl) (pe_ix (x_list K) (pe_ix (x_list K) (pv 0) (pe_op op_fdivW (pv 2) pe_int) (fun _ _ => rfl)) (pe_op op_fdivW (pv 4) pe_int) (fun _ _ => rfl)))
    (pss_one (ps_expr (e_bm K PySem.F.plainAttrs_list PySem.F.slot_list_append PySem.F.type_list_append mt_append (pv 3) (pa_cons (pe_op op_add (pe_op op_mul (pe_op op_fdivW (pv 5) pe_int) pe_int) (pe_op op_mod (pe_callTy call_int1 (by rfl) T.n_int (by decide +kernel) (pa_cons (pe_op op_add (pe_op op_add (pv 5) (pv 2)) (pv 4)) pa_nil)) pe_int)) pa_nil))))))
    (pss_one (ps_expr (e_bm K PySem.F.plainAttrs_list PySem.F.slot_list_append PySem.F.type_list_append mt_append (pv 1) (pa_cons (pv 3) pa_nil)))))))
    (pss_one (ps_ret (pv 1)))))), ?_⟩
    walk_at "rd"
    intro r0 h0
    have s0 := same_new (o := .lst [V.int 0, V.int 2, V.int 4, V.int 6]) h0
    have e0 : (upd H r0 (.lst [V.int 0, V.int 2, V.int 4, V.int 6])) r0 = some (.lst [V.int 0, V.int 2, V.int 4, V.int 6]) := upd_same
    generalize upd H r0 (.lst [V.int 0, V.int 2, V.int 4, V.int 6]) = H0 at s0 e0 ⊢
    walk_at "rd"
    intro r1 h1
    have s1 := same_new (o := .lst [V.int 2, V.int 1, V.int 6, V.int 5]) h1
    have e1 : (upd H0 r1 (.lst [V.int 2, V.int 1, V.int 6, V.int 5])) r1 = some (.lst [V.int 2, V.int 1, V.int 6, V.int 5]) := upd_same
    generalize upd H0 r1 (.lst [V.int 2, V.int 1, V.int 6, V.int 5]) = H1 at s1 e1 ⊢
    walk_at "rd"
    intro r2 h2
    have s2 := same_new (o := .lst [V.int 4, V.int 7, V.int 1, V.int 2]) h2
    have e2 : (upd H1 r2 (.lst [V.int 4, V.int 7, V.int 1, V.int 2])) r2 = some (.lst [V.int 4, V.int 7, V.int 1, V.int 2]) := upd_same
    generalize upd H1 r2 (.lst [V.int 4, V.int 7, V.int 1, V.int 2]) = H2 at s2 e2 ⊢
    walk_at "rd"
    intro r3 h3
    have s3 := same_new (o := .lst [V.int 6, V.int 4, V.int 3, V.int 1]) h3
    have e3 : (upd H2 r3 (.lst [V.int 6, V.int 4, V.int 3, V.int 1])) r3 = some (.lst [V.int 6, V.int 4, V.int 3, V.int 1]) := upd_same
    generalize upd H2 r3 (.lst [V.int 6, V.int 4, V.int 3, V.int 1]) = H3 at s3 e3 ⊢
    walk_at "rd"
    intro un hun
    have s4 := same_new (o := .lst [V.ref r0, V.ref r1, V.ref r2, V.ref r3]) hun
    have eu : (upd H3 un (.lst [V.ref r0, V.ref r1, V.ref r2, V.ref r3])) un = some (.lst [V.ref r0, V.ref r1, V.ref r2, V.ref r3]) := upd_same
    have e0 := (((s1.trans s2).trans s3).trans s4) _ _ e0
    have e1 := ((s2.trans s3).trans s4) _ _ e1
    have e2 := (s3.trans s4) _ _ e2
    have e3 := s4 _ _ e3
    have s04 := (((s0.trans s1).trans s2).trans s3).trans s4
    generalize upd H3 un (.lst [V.ref r0, V.ref r1, V.ref r2, V.ref r3]) = H4 at s4 e0 e1 e2 e3 eu s04 ⊢
    clear s0 s1 s2 s3 s4 h0 h1 h2 h3 hun
    have un4 : ∀ u v : Nat, u < 4 → v < 4 → ∃ b L, [V.ref r0, V.ref r1, V.ref r2, V.ref r3][u]? = some (.ref b) ∧ H4 b = some (.lst L) ∧ L[v]? = some (V.int ((units4 u v : Nat) : Int)) := fun u v hu hv => by
      rcases (show u = 0 ∨ u = 1 ∨ u = 2 ∨ u = 3 by omega) with rfl | rfl | rfl | rfl
      · refine ⟨r0, _, rfl, e0, ?_⟩
        rcases (show v = 0 ∨ v = 1 ∨ v = 2 ∨ v = 3 by omega) with rfl | rfl | rfl | rfl <;> rfl
      · refine ⟨r1, _, rfl, e1, ?_⟩
        rcases (show v = 0 ∨ v = 1 ∨ v = 2 ∨ v = 3 by omega) with rfl | rfl | rfl | rfl <;> rfl
      · refine ⟨r2, _, rfl, e2, ?_⟩
        rcases (show v = 0 ∨ v = 1 ∨ v = 2 ∨ v = 3 by omega) with rfl | rfl | rfl | rfl <;> rfl
      · refine ⟨r3, _, rfl, e3, ?_⟩
        rcases (show v = 0 ∨ v = 1 ∨ v = 2 ∨ v = 3 by omega) with rfl | rfl | rfl | rfl <;> rfl
    clear e0 e1 e2 e3
    walk_at "rd"
    intro D hD
    walk_at "rd"
    refine f_rng (n := 8) (fun i σ' H' => ∃ v2 v3 v4 v5 : Option V, σ' = [some (.ref un), some (.ref D), v2, v3, v4, v5] ∧ Rws H4 D i 8 G.qua H') (by decide) (fun R' h => ?_) ⟨_, _, _, _, rfl, Rws.start hD⟩ ?_ ?_
    · walk_at "rd"
      exact h
    · rintro x σ' H5 hx ⟨v2, v3, v4, v5, rfl, rw_⟩ N B R hN hB hRt
      walk_at "rd"
      intro rb hrb
      have rx := rw_.row hrb
      walk_at "rd"
      refine f_rng (n := 8) (fun j σ' H' => ∃ v4 v5 : Option V, σ' = [some (.ref un), some (.ref D), some (.int (x : Int)), some (.ref rb), v4, v5] ∧ Rwx H4 D x 8 rb j G.qua H') (by decide) (fun R' h => ?_) ⟨_, _, rfl, rx⟩ ?_ ?_
      · walk_at "rd"
        exact h
      · rintro y σ' H6 hy ⟨v4, v5, rfl, rx⟩ N' B' R' hN' hB' hRt'
        obtain ⟨b, L, q1, q2, q3⟩ := un4 (x / 2) (y / 2) (by omega) (by omega)
        have key := qua_eq ⟨x, hx⟩ ⟨y, hy⟩
        have ulo := (units_row ⟨x / 2, by omega⟩ ⟨y / 2, by omega⟩).2
        have hrb := rx.at_
        have eu := rx.same _ _ eu
        have q2 := rx.same _ _ q2
        walk_at "rd"
        rw [show ((x : Int) / 2) = ((x / 2 : Nat) : Int) from cdivN x 2]
        refine Wk.r_ixL (SqL.of eu) (at_n q1) ?_
        walk_at "rd"
        rw [show ((y : Int) / 2) = ((y / 2 : Nat) : Int) from cdivN y 2]
        refine Wk.r_ixL (SqL.of q2) (at_n q3) ?_
        have ulo : units4 (x / 2) (y / 2) < 8 := ulo
        have key : units4 (x / 2) (y / 2) / 2 * 2 + (units4 (x / 2) (y / 2) + x + y) % 2 = G.qua x y := key
        generalize units4 (x / 2) (y / 2) = un_ at ulo key
        walk_at "rd"
        rw [show ((un_ : Int) / 2) = ((un_ / 2 : Nat) : Int) from cdivN un_ 2]
        walk_at "rd"
        refine Wk.r_append hrb (szlt (by rw [List.length_map, List.length_range]; omega)) ?_
        rw [show ((un_ / 2 : Nat) : Int) * 2 + ((un_ : Int) + (x : Int) + (y : Int)) % 2 = ((G.qua x y : Nat) : Int) by rw [← key]; omega]
        exact hN' _ _ ⟨_, _, rfl, rx.snoc⟩
      · rintro σ' H6 ⟨v4, v5, rfl, rx⟩
        obtain ⟨xs, hxs, lx, rw2⟩ := rx.done
        walk_at "rd"
        refine Wk.r_append hxs (szlt (by omega)) ?_
        exact hN _ _ ⟨_, _, _, _, rfl, rw2⟩
    · rintro σ' H5 ⟨v2, v3, v4, v5, rfl, rw_⟩
      walk_at "rd"
      exact kk _ D (s04.free hD) (s04.trans rw_.same) rw_.gl
end
end Wk
end
section
set_option Elab.async false
set_option linter.all false
set_option maxRecDepth 100000
namespace Wk
open PySem PySem.Spec PyProof.Rows L2
local macro_rules | `(tactic| walk_at "hp") => `(tactic| first | assumption | exact upd_same | exact (upd_ne (ne_of_none (by assumption) (by assumption))).trans (by assumption) | (rw [upd_ne (by first | assumption | exact Ne.symm (by assumption))]; walk_at "hp"))
local macro_rules | `(tactic| walk_at "sq") => `(tactic| first | assumption | exact SqL.of (by assumption) | exact SqT.of (by assumption) | exact SqL.of (by walk_at "hp") | exact SqT.of (by walk_at "hp") | (refine Same.seq ?_ ?_ <;> assumption))
local macro_rules | `(tactic| walk_at "cmul") => `(tactic| first | exact .inr ⟨by decide, by decide⟩ | exact .inl ⟨by decide, by decide⟩ | exact .inr ⟨by omega, by omega⟩ | exact .inl ⟨by omega, by omega⟩)
local macro_rules | `(tactic| walk_at "cdiv") => `(tactic| first | exact ⟨by decide, by decide⟩ | exact wide_div (b := 64) (by omega) (by omega) (by decide) (by decide) | exact wide_div (b := 128) (by omega) (by omega) (by decide) (by decide))
local macro_rules | `(tactic| walk_at "rd1") => `(tactic| first
  | ((with_reducible show tVar _ _ _ _); refine Wk.r_var rfl ?_)
  | (with_reducible first
    | refine Wk.r_c ?_ | refine Wk.r_op ?_ | refine Wk.r_cons ?_ | refine Wk.r_nil ?_
    | refine Wk.r_seq ?_ | refine Wk.r_next ?_ | refine Wk.r_set ?_ | refine Wk.r_asgS ?_ | refine Wk.r_ret ?_ | refine Wk.r_drop ?_ | refine Wk.r_if ?_
    | refine Wk.r_asgG ?_ | refine Wk.r_gName ?_ | refine Wk.r_gCons ?_ | refine Wk.r_gNil ?_ | refine Wk.r_par ?_ | refine Wk.r_par3 ?_ | refine Wk.r_lstRg1 ?_ | refine Wk.r_tupRg1 ?_ | refine ⟨_, _, _, rfl, ?_⟩ | refine Wk.r_un ?_ | refine Wk.r_I0 ?_ | refine Wk.r_U ?_
    | refine Wk.r_test ?_ | refine Wk.r_B ?_ | refine Wk.r_k ?_ | refine Wk.r_not ?_ | refine Wk.r_and ?_ | refine Wk.r_or ?_ | refine Wk.r_andV ?_ | refine Wk.r_orV ?_ | refine Wk.r_notV ?_
    | refine Wk.r_CB ?_ | refine Wk.r_chain ?_ | refine Wk.r_fld ?_ | refine Wk.r_sfld ?_ | refine Wk.r_lst ?_ | refine Wk.r_tup ?_ | refine Wk.r_call ?_ | refine Wk.r_BM ?_ | refine Wk.r_BM0 ?_ | refine Wk.r_T ?_ | refine Wk.r_nT ?_ | refine Wk.r_nF ?_ | refine Wk.r_F ?_
    | refine Or.inl ⟨_, rfl, ?_⟩ | refine Or.inr ⟨_, rfl, ?_⟩ | refine ⟨_, rfl, ?_⟩ | refine ⟨_, _, rfl, ?_⟩)
  | ((with_reducible refine Wk.r_eq ?c0 ?_); (case c0 => rfl)) | ((with_reducible refine Wk.r_ne ?c0 ?_); (case c0 => rfl))
  | ((with_reducible refine Wk.r_pow ?c0 ?_); (case c0 => exact ⟨by decide, by decide, by decide⟩))
  | ((with_reducible refine Wk.r_mul ?c0 ?_); (case c0 => walk_at "cmul")) | ((with_reducible refine Wk.r_mod ?c0 ?_); (case c0 => first | decide | omega)) | ((with_reducible refine Wk.r_div ?c0 ?_); (case c0 => walk_at "cdiv"))
  | ((with_reducible refine Wk.r_new ?c0 ?_); (case c0 => (simp only [List.length_cons, List.length_nil]; omega)))
  | ((with_reducible show gTup _ _ _ _ _ _ _); refine Wk.r_gTup (by walk_at "sq") (by rfl) ?_)
  | (refine Wk.r_tyL (by walk_at "hp") ?_)
  | ((with_reducible show rSetL _ _ _ _ _); refine Wk.r_setL (by walk_at "hp") (by rfl) ?_)
  | ((with_reducible show rIxL _ _ _ _ _); refine Wk.r_ixL (by walk_at "sq") (by rfl) ?_) | ((with_reducible show rIxT _ _ _ _ _); refine Wk.r_ixT (by walk_at "sq") (by rfl) ?_)
  | ((with_reducible show rLenOf _ _ _ _); first | refine Wk.n_lenL (by walk_at "sq") ?_ | refine Wk.n_lenT (by walk_at "sq") ?_)
  | ((with_reducible show rListOf _ _ _ _); first | refine Wk.n_listL (by walk_at "sq") ?_ | refine Wk.n_listT (by walk_at "sq") ?_)
  | ((with_reducible show rTupZ _ _ _ _); first | refine Wk.z_tupL (by walk_at "sq") ?_ | refine Wk.z_tupT (by walk_at "sq") ?_)
  | ((with_reducible show rTupOf _ _ _ _); first | refine Wk.n_tupL (by walk_at "sq") ?_ | refine Wk.n_tupT (by walk_at "sq") ?_))
local macro_rules | `(tactic| walk_at "rd") => `(tactic| repeat (walk_at "rd1"))
local macro_rules | `(tactic| walk_at "rd1") => `(tactic| (with_reducible first | refine Wk.r_dget ?_ | refine Wk.r_din ?_ | refine Wk.r_dnotin ?_ | refine Wk.r_dput ?_ | refine Wk.r_pairs ?_ | refine Wk.r_pairs0 ?_ | refine Wk.r_sl ?_ | refine Wk.r_part ?_ | refine Wk.r_nopart ?_ | refine Wk.r_augS ?_ | refine Wk.r_ipI ?_ | refine Wk.r_aug rfl ?_ | refine Wk.r_revT ?_))

section
variable {P : Program} {w : World} {K : PySem.W.Frag} {mg : Str → Option Value} {base : Heap}
def spGRen : Sp := fun vs H Q _ => ∃ (a o n : Nat) (m : Nat → Nat → Nat) (f g : Nat → Nat), vs = [.ref a, .ref o] ∧ GL H a n m ∧ H o = some (.lst (natsV n f)) ∧ G.Perm n f g ∧ (∀ x y, x < n → y < n → m x y < n) ∧ n ≤ 48 ∧ RetGL H n (G.ren m f g) Q
set_option maxHeartbeats 4000000 in
theorem k__law_renamed (T : Txt mg) (a : At K mg "_law_renamed" s__law_renamed ["table", "order"]) : Keep P w K mg base 1 "_law_renamed" ["table", "order"] spGRen := by
  refine Keep.of a sc__law_renamed (fun vs H Q E h => ?_) (fun fa cdv A outer s H vs Q E hr h => ?_)
  · obtain ⟨_, _, _, _, _, _, rfl, _⟩ := h
    rfl
  · obtain ⟨a, o, n, m, f, g, rfl, gl, ho, pm, cl, hn, kk⟩ := h
    obtain ⟨L, eL, lL, rL⟩ := gl.get
    refine ⟨_, (pss_cons (ps_set (i := 3) sc__law_renamed.nd rfl (by first | exact Or.inl rfl | exact Or.inr rfl) (pe_lc (own := [("x", 2)]) rfl sc__law_renamed.nd (i_list K (pv 1)) (blkOk_by (N := ["table", "order", "x", "back", "i", "y"]) (sc := defScope s__law_renamed) (by decide +kernel)) (fun _ _ _ _ _ => (pg_name (i := 2) sc__law_renamed.nd rfl (by first | exact Or.inl rfl | exact Or.inr rfl))) (fun _ _ _ _ _ => pts_nil) (fun _ _ _ _ _ => pe_int)))
    (pss_cons (ps_for PassesOwn.never rfl (pi_range1 (by rfl) T.n_range (pa_cons (pe_callB (c_len K) (by rfl) T.n_len (by decide +kernel) (pa_cons (pv 1) pa_nil)) pa_nil)) (pg_name (i := 4) sc__law_renamed.nd rfl (by first | exact Or.inl rfl | exact Or.inr rfl)) (pss_one (ps_asg (pv 4) (pg_sub (pv 3) (pe_ix (x_list K) (pv 1) (pv 4) (fun _ _ => rfl)) set_list))))
    (pss_one (ps_ret (pe_lc (own := [("x", 2)]) rfl sc__law_renamed.nd (i_list K (pv 1)) (blkOk_by (N := ["table", "order", "x", "back", "i", "y"]) (sc := defScope s__law_renamed) (by decide +kernel)) (fun _ _ _ _ _ => (pg_name (i := 2) sc__law_renamed.nd rfl (by first | exact Or.inl rfl | exact Or.inr rfl))) (fun _ _ _ _ _ => pts_nil) (fun _ _ _ _ _ => (pe_lc (own := [("y", 5)]) rfl sc__law_renamed.nd (i_list K (pv 1)) (blkOk_by (by kernel_rfl)) (fun _ _ _ _ _ => (pg_name (i := 5) sc__law_renamed.nd rfl (by first | exact Or.inl rfl | exact Or.inr rfl))) (fun _ _ _ _ _ => pts_nil) (fun _ _ _ _ _ => (pe_ix (x_list K) (pv 3) (pe_ix (x_list K) (pe_ix (x_list K) (pv 0) (pv 2) (fun _ _ => rfl)) (pv 5) (fun _ _ => rfl)) (fun _ _ => rfl)))))))))), ?_⟩
    walk_at "rd"
    refine lc_lst (fun i v _ => v = V.int ((0 : Nat) : Int)) (SqL.of ho) (by rw [natsV_len]; omega) (fun R' h => ?_) (fun i => mut_val) (fun i y H8 Q' hy s8 k8 => ?_) (fun D L0 H1 hD s1 hL len r => ?_)
    · walk_at "rd"
      exact h
    · walk_at "rd"
      exact k8 _ _ (Same.refl _) rfl
    rw [natsV_len] at len
    have ho1 := s1 _ _ ho
    walk_at "rd"
    refine f_rng (n := n) (fun i σ' H' => ∃ (v4 : Option V) (bk : List V), σ' = [some (.ref a), some (.ref o), none, some (.ref D), v4, none] ∧ Same H H' ∧ H' D = some (.lst bk) ∧ bk.length = n ∧ (∀ j, j < i → bk[f j]? = some (.int (j : Int))) ∧ (∀ v ∈ bk, ∃ z : Nat, v = V.int (z : Int))) (by omega) (fun R' h => ?_) ⟨_, L0, rfl, s1, hL, len, fun j h => absurd h (by omega), fun v hv => ?_⟩ ?_ ?_
    · walk_at "rd"
      rw [natsV_len]
      exact h
    · obtain ⟨i, hi⟩ := List.mem_iff_getElem?.mp hv
      exact ⟨0, r i v hi⟩
    · rintro i σ' H2 hi ⟨v4, bk, rfl, s2, hb, lb, inv, nz⟩ N B R hN hB hRt
      have ho2 := s2 _ _ ho
      walk_at "rd"
      refine Wk.r_ixL (SqL.of ho2) (at_n (natsV_get hi)) ?_
      have fi := pm.ol i hi
      walk_at "rd"
      refine Wk.r_setL hb (ix_ok (by omega) (by rw [lb]; omega)) ?_
      rw [Int.toNat_natCast]
      refine hN _ _ ⟨_, _, rfl, same_upd s2 hD, upd_same, by rw [List.length_set]; exact lb, fun j hj => ?_, fun v hv => ?_⟩
      · rw [List.getElem?_set]
        by_cases e : j = i
        · subst e
          rw [if_pos rfl, if_pos (by rw [lb]; exact fi)]
        · rw [if_neg (fun q => e (by rw [← pm.po j (by omega), ← q, pm.po i hi]))]
          exact inv j (by omega)
      · rcases List.mem_or_eq_of_mem_set hv with e | e
        · exact nz v e
        · exact ⟨i, e⟩
    · rintro σ' H2 ⟨v4, bk, rfl, s2, hb, lb, inv, nz⟩
      have ebk : bk = natsV n g := by
        apply List.ext_getElem?
        intro y
        by_cases c : y < n
        · rw [natsV_get c]
          have := inv (g y) (pm.pl y c)
          rw [pm.op y c] at this
          exact this
        · rw [List.getElem?_eq_none (by omega), List.getElem?_eq_none (by rw [natsV_len]; omega)]
      subst ebk
      have ho2 := s2 _ _ ho
      walk_at "rd"
      refine lc_lstN (rowV n (G.ren m f g)) (SqL.of ho2) (by rw [natsV_len]; omega) (fun R' h => ?_) (fun i y H3 Q' hy s3 k3 => ?_) (fun D2 bs H3 hD2 s3 r3 fr => ?_)
      · walk_at "rd"
        exact h
      · have hi : i < n := by have := (List.getElem?_eq_some_iff.mp hy).1; rw [natsV_len] at this; exact this
        rw [natsV_get hi] at hy
        cases hy
        have ho3 := s3 _ _ ho2
        walk_at "rd"
        refine lc_lst (fun j v _ => v = V.int ((G.ren m f g i j : Nat) : Int)) (SqL.of ho3) (by rw [natsV_len]; omega) (fun R' h => ?_) (fun j => mut_val) (fun j y H4 Q4 hy s4 k4 => ?_) (fun D4 L4 H4 hD4 s4 hL4 len4 r4 => ?_)
        · walk_at "rd"
          exact h
        · have hj : j < n := by have := (List.getElem?_eq_some_iff.mp hy).1; rw [natsV_len] at this; exact this
          rw [natsV_get hj] at hy
          cases hy
          obtain ⟨b, q1, q2⟩ := rL _ (pm.ol i hi)
          have f1 := (s2.trans (s3.trans s4)) _ _ eL
          have f2 := (s2.trans (s3.trans s4)) _ _ q2
          have hb4 := (s3.trans s4) _ _ hb
          walk_at "rd"
          refine Wk.r_ixL (SqL.of f1) (at_n q1) ?_
          walk_at "rd"
          refine Wk.r_ixL (SqL.of f2) (at_n (rowV_get (pm.ol j hj))) ?_
          refine Wk.r_ixL (SqL.of hb4) (at_n (natsV_get (cl _ _ (pm.ol i hi) (pm.ol j hj)))) ?_
          exact k4 _ _ (Same.refl _) rfl
        · rw [natsV_len] at len4
          exact k3 D4 H4 hD4 s4 (by rw [hL4, list_eq len4 r4]; rfl)
      · rw [natsV_len] at r3
        exact kk _ D2 (s2.free hD2) (s2.trans s3) r3.gl
end
section
variable {n : Nat} {ta : TA} {j : Nat} {te : TE} {vs : List Nat} {σ : L2.St} {H0 H : Hp} {Q : VK} {p q lf : Addr}
theorem natL_erase (xs : List Nat) (k : Nat) : (natL xs).eraseIdx k = natL (xs.eraseIdx k) := by
  induction xs generalizing k with
  | nil => rfl
  | cons x xs ih =>
    cases k with
    | zero => rfl
    | succ k => exact congrArg (V.int (x : Int) :: ·) (ih k)
theorem perm_at {xs : List Nat} {k x : Nat} (h : xs[k]? = some x) : (x :: xs.eraseIdx k).Perm xs := by
  induction xs generalizing k with
  | nil => simp at h
  | cons y xs ih =>
    cases k with
    | zero =>
      have e : y = x := Option.some.inj h
      subst e
      exact List.Perm.refl _
    | succ k => exact (List.Perm.swap y x _).trans ((ih h).cons y)
theorem perm_pop {xs L N : List Nat} {k x : Nat} (h : xs[k]? = some x) (p : (L ++ xs).Perm N) : ((L ++ [x]) ++ xs.eraseIdx k).Perm N := by
  refine List.Perm.trans ?_ p
  rw [List.append_assoc]
  exact List.Perm.append_left L (perm_at h)
/-- a comprehension over range(n) whose items leave a list of the numbers below n -/
theorem lc_popR (hd : HS H p q) (x0 : ExP p H0 H) (f0 : H0 lf = none) (nlp : lf ≠ p ∧ lf ≠ q) (hlf : H lf = some (.lst (natL (List.range n)))) (hn : n ≤ 50000) (hta : ∀ R' : List V → Hp → Prop, R' [.int n] H → ta σ H R')
    (step : ∀ (i : Nat) xs H1 (Q' : VK), i < n → i + xs.length = n → HS H1 p q → H1 lf = some (.lst (natL xs)) → (∀ (k x : Nat) H2, xs[k]? = some x → ExP p H1 H2 → HS H2 p q → H2 lf = some (.lst (natL xs)) → Q' (.int (x : Int)) (upd H2 lf (.lst (natL (xs.eraseIdx k))))) → te ((wipe σ vs).set j (some (.int (i : Int)))) H1 Q')
    (done : ∀ D o g H1, ExP p H0 H1 → HS H1 p q → H1 D = some (.lst (natsV n o)) → G.Perm n o g → Q (.ref D) H1) (hw : ∀ x, wipe ((wipe σ vs).set j (some x)) vs = wipe σ vs := by intro _; rfl) : tLc (iRng1 ta) (gName j) tYes te vs σ H Q := by
  refine hta _ ⟨n, rfl, by omega, by omega, fun D hD => ?_⟩
  have en : ((n : Int)).toNat = n := Int.toNat_natCast n
  rw [en]
  have hDp : D ≠ p ∧ D ≠ q := hd.ne hD
  have nDl : D ≠ lf := fun e => by rw [e, hlf] at hD; cases hD
  have xup : ∀ {H1 : Hp} {l : Addr} {o : HO}, H0 l = none → ExP p H0 H1 → ExP p H0 (upd H1 l o) := fun f x b o nb e => by
    rw [upd_ne (ne_of_none e f)]; exact x _ _ nb e
  have D0 : H0 D = none := by
    cases e : H0 D with
    | none => rfl
    | some o => rw [x0 _ _ hDp.1 e] at hD; cases hD
  refine lc_range (lo := 0) (n := n) (fun i H1 => ∃ L xs : List Nat, ExP p H0 H1 ∧ HS H1 p q ∧ H1 lf = some (.lst (natL xs)) ∧ H1 D = some (.lst (natL L)) ∧ L.length = i ∧ (L ++ xs).Perm (List.range n)) ⟨[], List.range n, xup D0 x0, hd.mono (same_new hD), (upd_ne nDl.symm).trans hlf, upd_same, rfl, List.Perm.refl _⟩ ?_ ?_
  · rintro i H1 hi ⟨L, xs, x1, d1, hl1, hD1, lL, pm⟩
    have lxs : L.length + xs.length = n := by have := pm.length_eq; rw [List.length_append, List.length_range] at this; exact this
    have e0 : (0 : Int) + (i : Int) = (i : Int) := Int.zero_add _
    rw [e0]
    refine ⟨hw _, ?_⟩
    show te _ H1 _
    refine step i xs H1 _ hi (by omega) d1 hl1 fun k x H2 hx x2 d2 hl2 => ?_
    have hD2 := x2 _ _ hDp.1 hD1
    refine ⟨natL L, (upd_ne nDl).trans hD2, szlt (by rw [natL_len]; omega), L ++ [x], xs.eraseIdx k, xup D0 (xup f0 (x1.trans x2)), ?_, (upd_ne nDl.symm).trans upd_same, ?_, by rw [List.length_append, lL]; rfl, perm_pop hx pm⟩
    · exact (d2.mut nlp.1 nlp.2 ExP.upd).mut hDp.1 hDp.2 ExP.upd
    · rw [upd_same]
      unfold natL
      rw [List.map_append]
      rfl
  · rintro H1 ⟨L, xs, x1, d1, hl1, hD1, lL, pm⟩
    have lxs : L.length + xs.length = n := by have := pm.length_eq; rw [List.length_append, List.length_range] at this; exact this
    have : xs = [] := List.eq_nil_of_length_eq_zero (by omega)
    subst this
    rw [List.append_nil] at pm
    obtain ⟨o, g, hp, e⟩ := perm_list pm
    refine done D o g H1 x1 d1 ?_ hp
    rw [hD1, e]
    unfold natL natsV
    rw [List.map_map]
    rfl
end
section
variable {P : Program} {w : World} {K : PySem.W.Frag} {mg : Str → Option Value} {base : Heap}
def spGOrd : Sp := fun vs H Q _ => ∃ (h q n : Nat), vs = [.ref h, .int (n : Int)] ∧ HS H h q ∧ n ≤ 48 ∧ ∀ H' a f g, ExP h H H' → HS H' h q → H' a = some (.lst (natsV n f)) → G.Perm n f g → Q (.ref a) H'
set_option maxHeartbeats 4000000 in
theorem k__law_order (T : Txt mg) (k__law_take : Keep P w K mg base 1 "_law_take" ["hand", "many"] spTake) (a : At K mg "_law_order" s__law_order ["hand", "n"]) : Keep P w K mg base 2 "_law_order" ["hand", "n"] spGOrd := by
  refine Keep.of a sc__law_order (fun vs H Q E h => ?_) (fun fa cdv A outer s H vs Q E hr h => ?_)
  · obtain ⟨_, _, _, rfl, _⟩ := h
    rfl
  · obtain ⟨h, q, n, rfl, d, hn, kk⟩ := h
    refine ⟨_, (pss_cons (ps_set (i := 3) sc__law_order.nd rfl (by first | exact Or.inl rfl | exact Or.inr rfl) (pe_lc (own := [("x", 2)]) rfl sc__law_order.nd (pi_range1 (by rfl) T.n_range (pa_cons (pv 1) pa_nil)) (blkOk_by (N := ["hand", "n", "x", "left", "k"]) (sc := defScope s__law_order) (by decide +kernel)) (fun _ _ _ _ _ => (pg_name (i := 2) sc__law_order.nd rfl (by first | exact Or.inl rfl | exact Or.inr rfl))) (fun _ _ _ _ _ => pts_nil) (fun _ _ _ _ _ => (pv 2))))
    (pss_one (ps_ret (pe_lc (own := [("k", 4)]) rfl sc__law_order.nd (pi_range1 (by rfl) T.n_range (pa_cons (pv 1) pa_nil)) (blkOk_by (N := ["hand", "n", "x", "left", "k"]) (sc := defScope s__law_order) (by decide +kernel)) (fun _ _ _ _ _ => (pg_name (i := 4) sc__law_order.nd rfl (by first | exact Or.inl rfl | exact Or.inr rfl))) (fun _ _ _ _ _ => pts_nil) (fun _ _ _ _ _ => (e_bm K PySem.F.plainAttrs_list PySem.F.slot_list_pop PySem.F.type_list_pop mt_popAt (pv 3) (pa_cons (pe_k k__law_take (hr.mono (by decide)) (by rfl) (pa_cons (pv 0) (pa_cons (pe_callB (c_len K) (by rfl) T.n_len (by decide +kernel) (pa_cons (pv 3) pa_nil)) pa_nil))) pa_nil))))))), ?_⟩
    walk_at "rd"
    refine lc_rngV (n := n) (fun x => .int (x : Int)) (by omega) (fun R' h => ?_) (fun x H2 Q' hx s2 k2 => ?_) (fun lf H1 hlf s1 hL => ?_)
    · walk_at "rd"
      exact h
    · walk_at "rd"
      exact k2 _ (Same.refl _)
    have d1 := d.mono s1
    have nlf := (d.ne hlf)
    walk_at "rd"
    refine lc_popR (n := n) (p := h) (q := q) (lf := lf) (H0 := H) d1 (L2.Same.exP s1) hlf nlf hL (by omega) (fun R' h => ?_) (fun i xs H2 Q' hi le d2 hl2 k2 => ?_) (fun D o g H2 x2 d2 hD hp => ?_)
    · walk_at "rd"
      exact h
    · walk_at "rd"
      rw [natL_len]
      refine ⟨h, q, _, rfl, d2, by omega, fun H3 z x3 d3 z0 z1 => ?_⟩
      obtain ⟨z, rfl⟩ := Int.eq_ofNat_of_zero_le z0
      have hz : z < xs.length := by omega
      have hl3 := x3 _ _ nlf.1 hl2
      walk_at "rd"
      refine ⟨lf, _, _, z, _, rfl, rfl, hl3, by omega, by omega, ?_, natL_get hz, ?_⟩
      · rw [natL_len]
        exact seq_ix (by omega) (by omega)
      rw [natL_erase]
      exact k2 z _ _ (List.getElem?_eq_getElem hz) x3 d3 hl3
    · exact kk H2 D o g x2 d2 hD hp
end
end Wk
end
section
set_option Elab.async false
set_option linter.all false
set_option maxRecDepth 100000
namespace Wk
open PySem PySem.Spec PyProof.Rows L2
local macro_rules | `(tactic| walk_at "hp") => `(tactic| first | assumption | exact upd_same | exact (upd_ne (ne_of_none (by assumption) (by assumption))).trans (by assumption) | (rw [upd_ne (by first | assumption | exact Ne.symm (by assumption))]; walk_at "hp"))
local macro_rules | `(tactic| walk_at "sq") => `(tactic| first | assumption | exact SqL.of (by assumption) | exact SqT.of (by assumption) | exact SqL.of (by walk_at "hp") | exact SqT.of (by walk_at "hp") | (refine Same.seq ?_ ?_ <;> assumption))
local macro_rules | `(tactic| walk_at "cmul") => `(tactic| first | exact .inr ⟨by decide, by decide⟩ | exact .inl ⟨by decide, by decide⟩ | exact .inr ⟨by omega, by omega⟩ | exact .inl ⟨by omega, by omega⟩)
local macro_rules | `(tactic| walk_at "cdiv") => `(tactic| first | exact ⟨by decide, by decide⟩ | exact wide_div (b := 64) (by omega) (by omega) (by decide) (by decide) | exact wide_div (b := 128) (by omega) (by omega) (by decide) (by decide))
local macro_rules | `(tactic| walk_at "rd1") => `(tactic| first
  | ((with_reducible show tVar _ _ _ _); refine Wk.r_var rfl ?_)
  | (with_reducible first
    | refine Wk.r_c ?_ | refine Wk.r_op ?_ | refine Wk.r_cons ?_ | refine Wk.r_nil ?_
    | refine Wk.r_seq ?_ | refine Wk.r_next ?_ | refine Wk.r_set ?_ | refine Wk.r_asgS ?_ | refine Wk.r_ret ?_ | refine Wk.r_drop ?_ | refine Wk.r_if ?_
    | refine Wk.r_asgG ?_ | refine Wk.r_gName ?_ | refine Wk.r_gCons ?_ | refine Wk.r_gNil ?_ | refine Wk.r_par ?_ | refine Wk.r_par3 ?_ | refine Wk.r_lstRg1 ?_ | refine Wk.r_tupRg1 ?_ | refine ⟨_, _, _, rfl, ?_⟩ | refine Wk.r_un ?_ | refine Wk.r_I0 ?_ | refine Wk.r_U ?_
    | refine Wk.r_test ?_ | refine Wk.r_B ?_ | refine Wk.r_k ?_ | refine Wk.r_not ?_ | refine Wk.r_and ?_ | refine Wk.r_or ?_ | refine Wk.r_andV ?_ | refine Wk.r_orV ?_ | refine Wk.r_notV ?_
    | refine Wk.r_CB ?_ | refine Wk.r_chain ?_ | refine Wk.r_fld ?_ | refine Wk.r_sfld ?_ | refine Wk.r_lst ?_ | refine Wk.r_tup ?_ | refine Wk.r_call ?_ | refine Wk.r_BM ?_ | refine Wk.r_BM0 ?_ | refine Wk.r_T ?_ | refine Wk.r_nT ?_ | refine Wk.r_nF ?_ | refine Wk.r_F ?_
    | refine Or.inl ⟨_, rfl, ?_⟩ | refine Or.inr ⟨_, rfl, ?_⟩ | refine ⟨_, rfl, ?_⟩ | refine ⟨_, _, rfl, ?_⟩)
  | ((with_reducible refine Wk.r_eq ?c0 ?_); (case c0 => rfl)) | ((with_reducible refine Wk.r_ne ?c0 ?_); (case c0 => rfl))
  | ((with_reducible refine Wk.r_pow ?c0 ?_); (case c0 => exact ⟨by decide, by decide, by decide⟩))
  | ((with_reducible refine Wk.r_mul ?c0 ?_); (case c0 => walk_at "cmul")) | ((with_reducible refine Wk.r_mod ?c0 ?_); (case c0 => first | decide | omega)) | ((with_reducible refine Wk.r_div ?c0 ?_); (case c0 => walk_at "cdiv"))
  | ((with_reducible refine Wk.r_new ?c0 ?_); (case c0 => (simp only [List.length_cons, List.length_nil]; omega)))
  | ((with_reducible show gTup _ _ _ _ _ _ _); refine Wk.r_gTup (by walk_at "sq") (by rfl) ?_)
  | (refine Wk.r_tyL (by walk_at "hp") ?_)
  | ((with_reducible show rSetL _ _ _ _ _); refine Wk.r_setL (by walk_at "hp") (by rfl) ?_)
  | ((with_reducible show rIxL _ _ _ _ _); refine Wk.r_ixL (by walk_at "sq") (by rfl) ?_) | ((with_reducible show rIxT _ _ _ _ _); refine Wk.r_ixT (by walk_at "sq") (by rfl) ?_)
  | ((with_reducible show rLenOf _ _ _ _); first | refine Wk.n_lenL (by walk_at "sq") ?_ | refine Wk.n_lenT (by walk_at "sq") ?_)
  | ((with_reducible show rListOf _ _ _ _); first | refine Wk.n_listL (by walk_at "sq") ?_ | refine Wk.n_listT (by walk_at "sq") ?_)
  | ((with_reducible show rTupZ _ _ _ _); first | refine Wk.z_tupL (by walk_at "sq") ?_ | refine Wk.z_tupT (by walk_at "sq") ?_)
  | ((with_reducible show rTupOf _ _ _ _); first | refine Wk.n_tupL (by walk_at "sq") ?_ | refine Wk.n_tupT (by walk_at "sq") ?_))
local macro_rules | `(tactic| walk_at "rd") => `(tactic| repeat (walk_at "rd1"))
local macro_rules | `(tactic| walk_at "rd1") => `(tactic| (with_reducible first | refine Wk.r_dget ?_ | refine Wk.r_din ?_ | refine Wk.r_dnotin ?_ | refine Wk.r_dput ?_ | refine Wk.r_pairs ?_ | refine Wk.r_pairs0 ?_ | refine Wk.r_sl ?_ | refine Wk.r_part ?_ | refine Wk.r_nopart ?_ | refine Wk.r_augS ?_ | refine Wk.r_ipI ?_ | refine Wk.r_aug rfl ?_ | refine Wk.r_revT ?_))

theorem natL_int {l : List Nat} : ∀ v ∈ natL l, ∃ z : Int, v = .int z := fun v hv => by
  obtain ⟨x, _, rfl⟩ := List.mem_map.mp hv
  exact ⟨_, rfl⟩
theorem natsV_set {n i v : Nat} {f : Nat → Nat} : (natsV n f).set i (.int (v : Int)) = natsV n (fun x => if x = i then v else f x) := by
  apply List.ext_getElem?
  intro y
  rw [List.getElem?_set]
  by_cases c : y < n
  · rw [natsV_get (o := fun x => if x = i then v else f x) c, natsV_len]
    by_cases e : i = y
    · subst e
      rw [if_pos rfl, if_pos c, if_pos rfl]
    · rw [if_neg e, natsV_get c, if_neg (fun q => e q.symm)]
  · rw [List.getElem?_eq_none (l := natsV n fun x => if x = i then v else f x) (by rw [natsV_len]; omega)]
    by_cases e : i = y
    · subst e
      rw [if_pos rfl, if_neg (by rw [natsV_len]; exact c)]
    · rw [if_neg e, List.getElem?_eq_none (by rw [natsV_len]; omega)]
theorem perm_swap {n i j : Nat} {f g : Nat → Nat} (pm : G.Perm n f g) (hi : i < n) (hj : j < n) : G.Perm n (fun x => if x = j then f i else if x = i then f j else f x) (fun y => if y = f i then j else if y = f j then i else g y) := by
  have inj : ∀ {x y}, x < n → y < n → f x = f y → x = y := fun {x y} hx hy e => by rw [← pm.po x hx, e, pm.po y hy]
  refine ⟨fun x hx => ?_, fun y hy => ?_, fun x hx => ?_, fun y hy => ?_⟩
  · show (if x = j then f i else if x = i then f j else f x) < n
    split
    · exact pm.ol i hi
    · split
      · exact pm.ol j hj
      · exact pm.ol x hx
  · show (if y = f i then j else if y = f j then i else g y) < n
    split
    · exact hj
    · split
      · exact hi
      · exact pm.pl y hy
  · show (if (if x = j then f i else if x = i then f j else f x) = f i then j else if (if x = j then f i else if x = i then f j else f x) = f j then i else g (if x = j then f i else if x = i then f j else f x)) = x
    by_cases c : x = j
    · rw [if_pos c, if_pos rfl, c]
    · rw [if_neg c]
      by_cases c2 : x = i
      · rw [if_pos c2, if_neg (fun q => c (c2.trans (inj hj hi q).symm)), if_pos rfl, c2]
      · rw [if_neg c2, if_neg (fun q => c2 (inj hx hi q)), if_neg (fun q => c (inj hx hj q)), pm.po x hx]
  · show (if (if y = f i then j else if y = f j then i else g y) = j then f i else if (if y = f i then j else if y = f j then i else g y) = i then f j else f (if y = f i then j else if y = f j then i else g y)) = y
    by_cases c : y = f i
    · rw [if_pos c, if_pos rfl, c]
    · rw [if_neg c]
      by_cases c2 : y = f j
      · rw [if_pos c2, if_neg (fun q => c (by rw [c2, ← q])), if_pos rfl, c2]
      · rw [if_neg c2, if_neg (fun q => c2 (by rw [← q, pm.op y hy])), if_neg (fun q => c (by rw [← q, pm.op y hy])), pm.op y hy]
theorem ExP.updN {p l : Addr} {H H1 : Hp} {o : HO} (x : ExP p H H1) (f : H l = none) : ExP p H (L2.upd H1 l o) := fun b u nb e => by
  rw [upd_ne (ne_of_none e f)]
  exact x _ _ nb e
theorem r_gSub {to ti : TE} {t : TSet} {v : V} {σ : L2.St} {H : Hp} {Q : L2.St → Hp → Prop} (h : to σ H fun o H1 => ti σ H1 fun i H2 => t o i v H2 fun H3 => Q σ H3) : gSub to ti t v σ H Q := h
theorem perm_id {n : Nat} : G.Perm n (fun x => x) (fun x => x) := ⟨fun _ h => h, fun _ h => h, fun _ _ => rfl, fun _ _ => rfl⟩
section
variable {P : Program} {w : World} {K : PySem.W.Frag} {mg : Str → Option Value} {base : Heap}
def spGMov : Sp := fun vs H Q _ => ∃ (h q n k : Nat), vs = [.ref h, .int (n : Int), .int (k : Int)] ∧ HS H h q ∧ 1 ≤ n ∧ n ≤ 48 ∧ k ≤ 100 ∧ ∀ H' a f g, ExP h H H' → HS H' h q → H' a = some (.lst (natsV n f)) → G.Perm n f g → Q (.ref a) H'
structure LawG (P : Program) (w : World) (K : PySem.W.Frag) (mg : Str → Option Value) (base : Heap) : Prop where
  take : Keep P w K mg base 1 "_law_take" ["hand", "many"] spTake
  cyc : Keep P w K mg base 1 "_law_cyclic" ["n"] spGCyc
  both : Keep P w K mg base 1 "_law_both" ["one", "other"] spGBoth
  dih : Keep P w K mg base 1 "_law_dihedral" ["n"] spGDih
  qua : Keep P w K mg base 1 "_law_quaternion" [] spGQua
  ren : Keep P w K mg base 1 "_law_renamed" ["table", "order"] spGRen
  ord : Keep P w K mg base 2 "_law_order" ["hand", "n"] spGOrd
def spGGrp : Sp := fun vs H Q _ => ∃ (h q s : Nat) (ss : List Nat), vs = [.ref h, .ref s] ∧ HS H h q ∧ H s = some (.lst (natL ss)) ∧ 0 < ss.length ∧ ss.length ≤ 100 ∧ (∀ x ∈ ss, 1 ≤ x ∧ x ≤ 48) ∧ ∀ H' a n m, ExP h H H' → HS H' h q → n ∈ ss → GL H' a n m → G.Grp n m → Q (.ref a) H'
set_option maxHeartbeats 4000000 in
theorem k__law_group (T : Txt mg) (L : LawG P w K mg base) (a : At K mg "_law_group" s__law_group ["hand", "sizes"]) : Keep P w K mg base 3 "_law_group" ["hand", "sizes"] spGGrp := by
  obtain ⟨k__law_take, k__law_cyclic, k__law_both, k__law_dihedral, k__law_quaternion, k__law_renamed, k__law_order⟩ := L
  refine Keep.of a sc__law_group (fun vs H Q E h => ?_) (fun fa cdv A outer s H vs Q E hr h => ?_)
  · obtain ⟨_, _, _, _, rfl, _⟩ := h
    rfl
  · obtain ⟨h, q, s, ss, rfl, d, hs, l0, l1, hss, kk⟩ := h
    have nsh := d.ne_ints hs natL_int
    refine ⟨_, (pss_cons (ps_set (i := 2) sc__law_group.nd rfl (by first | exact Or.inl rfl | exact Or.inr rfl) (pe_ix (x_list K) (pv 1) (pe_k k__law_take (hr.mono (by decide)) (by rfl) (pa_cons (pv 0) (pa_cons (pe_callB (c_len K) (by rfl) T.n_len (by decide +kernel) (pa_cons (pv 1) pa_nil)) pa_nil))) (fun _ _ => rfl)))
    (pss_cons (ps_set (i := 3) sc__law_group.nd rfl (by first | exact Or.inl rfl | exact Or.inr rfl) (pe_k k__law_take (hr.mono (by decide)) (by rfl) (pa_cons (pv 0) (pa_cons pe_int pa_nil))))
    (pss_cons (ps_set (i := 4) sc__law_group.nd rfl (by first | exact Or.inl rfl | exact Or.inr rfl) (pe_k k__law_cyclic (hr.mono (by decide)) (by rfl) (pa_cons (pv 2) pa_nil)))
    (Evl.pss_cut (ps_if (PW.pt (pw_and (pt_cmpR op_eq (pv 3) pe_int (nomark _)) (pw_and1 (pt_cmpR op_eq (pv 2) pe_int (nomark _))))) (pss_one (ps_set (i := 4) sc__law_group.nd rfl (by first | exact Or.inl rfl | exact Or.inr rfl) (pe_k0 k__law_quaternion (hr.mono (by decide)) (by rfl)))) (pss_one (ps_if (PW.pt (pw_and (pt_cmpR op_lt (pv 3) pe_int (nomark _)) (pw_and (pt_cmpR op_eq (pe_op op_mod (pe_callTy call_int1 (by rfl) T.n_int (by decide +kernel) (pa_cons (pv 2) pa_nil)) pe_int) pe_int (nomark _)) (pw_and1 (pt_cmpR op_gt (pv 2) pe_int (nomark _)))))) (pss_one (ps_set (i := 4) sc__law_group.nd rfl (by first | exact Or.inl rfl | exact Or.inr rfl) (pe_k k__law_dihedral (hr.mono (by decide)) (by rfl) (pa_cons (pe_op op_fdivW (pv 2) pe_int) pa_nil)))) (pss_one (ps_if (PW.pt (pw_and (pt_cmpR op_eq (pv 3) pe_int (nomark _)) (pw_and1 (pt_cmpR op_eq (pe_op op_mod (pe_callTy call_int1 (by rfl) T.n_int (by decide +kernel) (pa_cons (pv 2) pa_nil)) pe_int) pe_int (nomark _))))) (pss_one (ps_set (i := 4) sc__law_group.nd rfl (by first | exact Or.inl rfl | exact Or.inr rfl) (pe_k k__law_both (hr.mono (by decide)) (by rfl) (pa_cons (pe_k k__law_cyclic (hr.mono (by decide)) (by rfl) (pa_cons pe_int pa_nil)) (pa_cons (pe_k k__law_cyclic (hr.mono (by decide)) (by rfl) (pa_cons (pe_op op_fdivW (pv 2) pe_int) pa_nil)) pa_nil))))) pss_nil)))))
    (Evl.pss_cut (ps_if (pt_cmpR op_eq (pe_k k__law_take (hr.mono (by decide)) (by rfl) (pa_cons (pv 0) (pa_cons pe_int pa_nil))) pe_int (nomark _)) (pss_one (ps_set (i := 4) sc__law_group.nd rfl (by first | exact Or.inl rfl | exact Or.inr rfl) (pe_k k__law_renamed (hr.mono (by decide)) (by rfl) (pa_cons (pv 4) (pa_cons (pe_k k__law_order (hr.mono (by decide)) (by rfl) (pa_cons (pv 0) (pa_cons (pv 2) pa_nil))) pa_nil))))) pss_nil)
    (pss_one (ps_ret (pv 4)))))))), ?_⟩
    walk_at "rd"
    rw [natL_len]
    refine ⟨h, q, _, rfl, d, by omega, fun H1 z x1 d1 z0 z1 => ?_⟩
    obtain ⟨z, rfl⟩ := Int.eq_ofNat_of_zero_le z0
    have hz : z < ss.length := by omega
    have hs1 := x1 _ _ nsh hs
    walk_at "rd"
    refine Wk.r_ixL (SqL.of hs1) (at_n (natL_get hz)) ?_
    have hn := hss _ (List.getElem_mem hz)
    have hmem := List.getElem_mem hz
    generalize ss[z] = n at hn hmem ⊢
    walk_at "rd"
    refine ⟨h, q, _, rfl, d1, by omega, fun H2 kd x2 d2 _ _ => ?_⟩
    have x02 := ExP.trans x1 x2
    walk_at "rd"
    refine ⟨n, rfl, hn.1, by omega, fun H3 t0 n0 s3 g3 => ?_⟩
    have d3 := d2.mono s3
    have x03 := x02.trans s3.exP
    have gc := G.cyc_grp (n := n) (by omega)
    clear hs hs1 x1 d1 d2 x02 s3 n0 x2 z0 z1 hz
    walk_at "rd"
    refine ⟨fun σ' H' => ∃ (a : Addr) (m : Nat → Nat → Nat), σ' = [some (.ref h), some (.ref s), some (.int (n : Int)), some (.int kd), some (.ref a)] ∧ ExP h H H' ∧ HS H' h q ∧ GL H' a n m ∧ G.Grp n m, ?_, ?_⟩
    · walk_at "rd"
      refine r_ifI (fun c1 => ?_) (fun c1 => ?_)
      · walk_at "rd"
        refine r_ifI (fun c2 => ?_) (fun c2 => ?_)
        · have c2 : n = 8 := by omega
          subst c2
          walk_at "rd"
          refine ⟨rfl, fun H4 b nb s4 g4 => ?_⟩
          walk_at "rd"
          exact ⟨b, _, rfl, x03.trans s4.exP, d3.mono s4, g4, G.qua_grp⟩
        · walk_at "rd"
          refine r_if1 (fun c6 => ?_) (fun c6 => absurd (by omega) c6)
          walk_at "rd"
          refine r_ifI (fun c3 => ?_) (fun c3 => ?_)
          · walk_at "rd"
            refine r_if1 (fun c4 => ?_) (fun c4 => ?_)
            · walk_at "rd"
              refine ⟨n / 2, rfl, by omega, by omega, fun H4 b nb s4 g4 => ?_⟩
              walk_at "rd"
              have e : 2 * (n / 2) = n := by omega
              have g5 := G.dih_grp (n := n / 2) (by omega)
              rw [e] at g4 g5
              exact ⟨b, _, rfl, x03.trans s4.exP, d3.mono s4, g4, g5⟩
            · walk_at "rd"
              refine r_ifI (fun c5 => absurd c5 (by omega)) (fun c5 => ?_)
              walk_at "rd"
              exact ⟨t0, _, rfl, x03, d3, g3, gc⟩
          · walk_at "rd"
            refine r_ifI (fun c5 => absurd c5 (by omega)) (fun c5 => ?_)
            walk_at "rd"
            exact ⟨t0, _, rfl, x03, d3, g3, gc⟩
      · walk_at "rd"
        refine r_if1 (fun c6 => ?_) (fun c6 => ?_)
        · walk_at "rd"
          refine r_ifI (fun c3 => ?_) (fun c3 => ?_)
          · walk_at "rd"
            refine r_if1 (fun c4 => ?_) (fun c4 => ?_)
            · walk_at "rd"
              refine ⟨n / 2, rfl, by omega, by omega, fun H4 b nb s4 g4 => ?_⟩
              walk_at "rd"
              have e : 2 * (n / 2) = n := by omega
              have g5 := G.dih_grp (n := n / 2) (by omega)
              rw [e] at g4 g5
              exact ⟨b, _, rfl, x03.trans s4.exP, d3.mono s4, g4, g5⟩
            · walk_at "rd"
              refine r_ifI (fun c5 => absurd c5 (by omega)) (fun c5 => ?_)
              walk_at "rd"
              exact ⟨t0, _, rfl, x03, d3, g3, gc⟩
          · walk_at "rd"
            refine r_ifI (fun c5 => absurd c5 (by omega)) (fun c5 => ?_)
            walk_at "rd"
            exact ⟨t0, _, rfl, x03, d3, g3, gc⟩
        · walk_at "rd"
          refine r_ifI (fun c3 => ?_) (fun c3 => ?_)
          · walk_at "rd"
            refine r_ifI (fun c4 => ?_) (fun c4 => ?_)
            · walk_at "rd"
              refine ⟨2, rfl, by decide, by decide, fun H4 b nb s4 g4 => ?_⟩
              walk_at "rd"
              refine ⟨n / 2, rfl, by omega, by omega, fun H5 b2 nb2 s5 g5 => ?_⟩
              have g4 := g4.mono s5
              walk_at "rd"
              have e : 2 * (n / 2) = n := by omega
              have e1 := G.cyc_grp (n := 2) (by decide)
              have e2 := G.cyc_grp (n := n / 2) (by omega)
              refine ⟨b, b2, 2, n / 2, _, _, rfl, g4, g5, by decide, by omega, by omega, e1.cl, e2.cl, fun H6 b3 nb3 s6 g6 => ?_⟩
              walk_at "rd"
              have e3 := G.prd_grp e1 e2
              rw [e] at g6 e3
              exact ⟨b3, _, rfl, x03.trans (s4.trans (s5.trans s6)).exP, d3.mono (s4.trans (s5.trans s6)), g6, e3⟩
            · walk_at "rd"
              exact ⟨t0, _, rfl, x03, d3, g3, gc⟩
          · walk_at "rd"
            exact ⟨t0, _, rfl, x03, d3, g3, gc⟩
    rintro σ' H4 ⟨b, m, rfl, x4, d4, g4, gm⟩
    walk_at "rd"
    refine ⟨fun σ' H' => ∃ (a : Addr) (m : Nat → Nat → Nat), σ' = [some (.ref h), some (.ref s), some (.int (n : Int)), some (.int kd), some (.ref a)] ∧ ExP h H H' ∧ HS H' h q ∧ GL H' a n m ∧ G.Grp n m, ?_, ?_⟩
    · walk_at "rd"
      refine ⟨h, q, 2, rfl, d4, by decide, fun H5 z x5 d5 _ _ => ?_⟩
      have g5 := g4.exP d4 x5
      walk_at "rd"
      refine r_ifI (fun c => ?_) (fun c => ?_)
      · walk_at "rd"
        refine ⟨h, q, n, rfl, d5, by omega, fun H6 o f g x6 d6 ho pm => ?_⟩
        have g6 := g5.exP d5 x6
        walk_at "rd"
        refine ⟨b, o, n, m, f, g, rfl, g6, ho, pm, gm.cl, by omega, fun H7 r nr s7 g7 => ?_⟩
        walk_at "rd"
        exact ⟨r, _, rfl, (x4.trans (x5.trans x6)).trans s7.exP, d6.mono s7, g7, G.ren_grp gm pm⟩
      · walk_at "rd"
        exact ⟨b, m, rfl, x4.trans x5, d5, g5, gm⟩
    · rintro σ' H5 ⟨a, m, rfl, x5, d5, g5, gm⟩
      walk_at "rd"
      exact kk _ a n m x5 d5 hmem g5 gm
end
end Wk
end
section
set_option Elab.async false
set_option linter.all false
set_option maxRecDepth 100000
namespace Wk
open PySem PySem.Spec PyProof.Rows L2
local macro_rules | `(tactic| walk_at "hp") => `(tactic| first | assumption | exact upd_same | exact (upd_ne (ne_of_none (by assumption) (by assumption))).trans (by assumption) | (rw [upd_ne (by first | assumption | exact Ne.symm (by assumption))]; walk_at "hp"))
local macro_rules | `(tactic| walk_at "sq") => `(tactic| first | assumption | exact SqL.of (by assumption) | exact SqT.of (by assumption) | exact SqL.of (by walk_at "hp") | exact SqT.of (by walk_at "hp") | (refine Same.seq ?_ ?_ <;> assumption))
local macro_rules | `(tactic| walk_at "cmul") => `(tactic| first | exact .inr ⟨by decide, by decide⟩ | exact .inl ⟨by decide, by decide⟩ | exact .inr ⟨by omega, by omega⟩ | exact .inl ⟨by omega, by omega⟩)
local macro_rules | `(tactic| walk_at "cdiv") => `(tactic| first | exact ⟨by decide, by decide⟩ | exact wide_div (b := 64) (by omega) (by omega) (by decide) (by decide) | exact wide_div (b := 128) (by omega) (by omega) (by decide) (by decide))
local macro_rules | `(tactic| walk_at "rd1") => `(tactic| first
  | ((with_reducible show tVar _ _ _ _); refine Wk.r_var rfl ?_)
  | (with_reducible first
    | refine Wk.r_c ?_ | refine Wk.r_op ?_ | refine Wk.r_cons ?_ | refine Wk.r_nil ?_
    | refine Wk.r_seq ?_ | refine Wk.r_next ?_ | refine Wk.r_set ?_ | refine Wk.r_asgS ?_ | refine Wk.r_ret ?_ | refine Wk.r_drop ?_ | refine Wk.r_if ?_
    | refine Wk.r_asgG ?_ | refine Wk.r_gName ?_ | refine Wk.r_gCons ?_ | refine Wk.r_gNil ?_ | refine Wk.r_par ?_ | refine Wk.r_par3 ?_ | refine Wk.r_lstRg1 ?_ | refine Wk.r_tupRg1 ?_ | refine ⟨_, _, _, rfl, ?_⟩ | refine Wk.r_un ?_ | refine Wk.r_I0 ?_ | refine Wk.r_U ?_
    | refine Wk.r_test ?_ | refine Wk.r_B ?_ | refine Wk.r_k ?_ | refine Wk.r_not ?_ | refine Wk.r_and ?_ | refine Wk.r_or ?_ | refine Wk.r_andV ?_ | refine Wk.r_orV ?_ | refine Wk.r_notV ?_
    | refine Wk.r_CB ?_ | refine Wk.r_chain ?_ | refine Wk.r_fld ?_ | refine Wk.r_sfld ?_ | refine Wk.r_lst ?_ | refine Wk.r_tup ?_ | refine Wk.r_call ?_ | refine Wk.r_BM ?_ | refine Wk.r_BM0 ?_ | refine Wk.r_T ?_ | refine Wk.r_nT ?_ | refine Wk.r_nF ?_ | refine Wk.r_F ?_
    | refine Or.inl ⟨_, rfl, ?_⟩ | refine Or.inr ⟨_, rfl, ?_⟩ | refine ⟨_, rfl, ?_⟩ | refine ⟨_, _, rfl, ?_⟩)
  | ((with_reducible refine Wk.r_eq ?c0 ?_); (case c0 => rfl)) | ((with_reducible refine Wk.r_ne ?c0 ?_); (case c0 => rfl))
  | ((with_reducible refine Wk.r_pow ?c0 ?_); (case c0 => exact ⟨by decide, by decide, by decide⟩))
  | ((with_reducible refine Wk.r_mul ?c0 ?_); (case c0 => walk_at "cmul")) | ((with_reducible refine Wk.r_mod ?c0 ?_); (case c0 => first | decide | omega)) | ((with_reducible refine Wk.r_div ?c0 ?_); (case c0 => walk_at "cdiv"))
  | ((with_reducible refine Wk.r_new ?c0 ?_); (case c0 => (simp only [List.length_cons, List.length_nil]; omega)))
  | ((with_reducible show gTup _ _ _ _ _ _ _); refine Wk.r_gTup (by walk_at "sq") (by rfl) ?_)
  | (refine Wk.r_tyL (by walk_at "hp") ?_)
  | ((with_reducible show rSetL _ _ _ _ _); refine Wk.r_setL (by walk_at "hp") (by rfl) ?_)
  | ((with_reducible show rIxL _ _ _ _ _); refine Wk.r_ixL (by walk_at "sq") (by rfl) ?_) | ((with_reducible show rIxT _ _ _ _ _); refine Wk.r_ixT (by walk_at "sq") (by rfl) ?_)
  | ((with_reducible show rLenOf _ _ _ _); first | refine Wk.n_lenL (by walk_at "sq") ?_ | refine Wk.n_lenT (by walk_at "sq") ?_)
  | ((with_reducible show rListOf _ _ _ _); first | refine Wk.n_listL (by walk_at "sq") ?_ | refine Wk.n_listT (by walk_at "sq") ?_)
  | ((with_reducible show rTupZ _ _ _ _); first | refine Wk.z_tupL (by walk_at "sq") ?_ | refine Wk.z_tupT (by walk_at "sq") ?_)
  | ((with_reducible show rTupOf _ _ _ _); first | refine Wk.n_tupL (by walk_at "sq") ?_ | refine Wk.n_tupT (by walk_at "sq") ?_))
local macro_rules | `(tactic| walk_at "rd") => `(tactic| repeat (walk_at "rd1"))
local macro_rules | `(tactic| walk_at "rd1") => `(tactic| (with_reducible first | refine Wk.r_dget ?_ | refine Wk.r_din ?_ | refine Wk.r_dnotin ?_ | refine Wk.r_dput ?_ | refine Wk.r_pairs ?_ | refine Wk.r_pairs0 ?_ | refine Wk.r_sl ?_ | refine Wk.r_part ?_ | refine Wk.r_nopart ?_ | refine Wk.r_augS ?_ | refine Wk.r_ipI ?_ | refine Wk.r_aug rfl ?_ | refine Wk.r_revT ?_))

/-- in how many places two tables differ -/
def dif (n : Nat) (m1 m2 : Nat → Nat → Nat) : Nat := G.sm n fun x => G.sm n fun y => G.ind (m1 x y ≠ m2 x y)
theorem dif_comm {n : Nat} {m1 m2 : Nat → Nat → Nat} : dif n m2 m1 = dif n m1 m2 := G.sm_congr fun x _ => G.sm_congr fun y _ => G.ind_iff ⟨Ne.symm, Ne.symm⟩
theorem dif_self {n : Nat} {m : Nat → Nat → Nat} : dif n m m = 0 := by
  have : ∀ x, (G.sm n fun y => G.ind (m x y ≠ m x y)) = 0 := fun x => by
    rw [G.sm_congr (h := fun _ => 0) fun y _ => by unfold G.ind; rw [if_neg (fun c => c rfl)]]
    exact G.sm_zero n
  unfold dif
  rw [G.sm_congr (h := fun _ => 0) fun x _ => this x]
  exact G.sm_zero n
section
variable {P : Program} {w : World} {K : PySem.W.Frag} {mg : Str → Option Value} {base : Heap}
theorem GrpO.mono {C : Addr} {H H' : Hp} {g n : Nat} {m : Nat → Nat → Nat} (s : Same H H') (h : GrpO K C H g n m) : GrpO K C H' g n m := let ⟨_, _, _, _, _, x⟩ := h; ⟨_, _, _, _, _, x.mono s⟩
theorem GrpO.exP {C : Addr} {H H' : Hp} {h q g n : Nat} {m : Nat → Nat → Nat} (d : HS H h q) (x : ExP h H H') (o : GrpO K C H g n m) : GrpO K C H' g n m := by
  obtain ⟨i, ds, e, _⟩ := d
  obtain ⟨_, _, _, _, _, y⟩ := o
  exact ⟨_, _, _, _, _, y.mut e x⟩
theorem GL.tabS {H : Hp} {a n : Nat} {m : Nat → Nat → Nat} (g : GL H a n m) : TabS K H a n m := by
  obtain ⟨L, h1, h2, h3⟩ := g
  exact ⟨L, .inl (SqL.of h1), h2, fun x v e => let ⟨b, e1, e2⟩ := h3 x v e; ⟨b, e1, .inl (SqL.of e2)⟩⟩
theorem SqS.mk_mono {H H' : Hp} {a : Addr} {xs : List V} (s : Same H H') (h : SqS K H a xs) : SqS K H' a xs := h.mono s
/-- a group is made of a table -/
theorem mkgrp {C : Addr} {H1 : Hp} {R : Addr → Hp → Prop} {E : XK} {a n : Nat} {m : Nat → Nat → Nat} (gl : GL H1 a n m) (h0 : 0 < n) (hn : n ≤ 48) (g : G.Grp n m) (k : ∀ H2 p, Same H1 H2 → GrpO K C H2 p n m → R p H2) :
    ∀ x dx, H1 x = none → H1 dx = none → dx ≠ x → spInit K C (.ref x :: ([.ref a] ++ [])) (upd (upd H1 dx (.own x)) x (.ins C dx [])) (fun v H2 => v = .non ∧ R x H2) E := by
  intro x dx hx hdx ne
  have s1 : Same H1 (upd H1 dx (.own x)) := same_new hdx
  have s2 : Same (upd H1 dx (.own x)) (upd (upd H1 dx (.own x)) x (.ins C dx [])) := same_new (by rw [upd_ne ne.symm]; exact hx)
  refine ⟨x, a, dx, n, m, rfl, upd_same, h0, hn, (gl.mono (s1.trans s2)).tabS, g, fun H' e o => ⟨rfl, k H' x (fun b u hb => ?_) o⟩⟩
  exact e _ _ (fun q => by rw [q, hx] at hb; cases hb) ((s1.trans s2) _ _ hb)
def spOutW (S : List V → Hp → Addr → V → Prop) : Sp := fun vs H _ E => ∃ (c : Addr) (v : V), S vs H c v ∧ ∀ H', Same H H' → ∀ d, H' d = none → E (.ref c) (some d) (upd H' d (.xd [("what", v)]))
end
end Wk
end
section
set_option Elab.async false
set_option linter.all false
set_option maxRecDepth 100000
namespace Wk
open PySem PySem.Spec PyProof.Rows L2
local macro_rules | `(tactic| walk_at "hp") => `(tactic| first | assumption | exact upd_same | exact (upd_ne (ne_of_none (by assumption) (by assumption))).trans (by assumption) | (rw [upd_ne (by first | assumption | exact Ne.symm (by assumption))]; walk_at "hp"))
local macro_rules | `(tactic| walk_at "sq") => `(tactic| first | assumption | exact SqL.of (by assumption) | exact SqT.of (by assumption) | exact SqL.of (by walk_at "hp") | exact SqT.of (by walk_at "hp") | (refine Same.seq ?_ ?_ <;> assumption))
local macro_rules | `(tactic| walk_at "cmul") => `(tactic| first | exact .inr ⟨by decide, by decide⟩ | exact .inl ⟨by decide, by decide⟩ | exact .inr ⟨by omega, by omega⟩ | exact .inl ⟨by omega, by omega⟩)
local macro_rules | `(tactic| walk_at "cdiv") => `(tactic| first | exact ⟨by decide, by decide⟩ | exact wide_div (b := 64) (by omega) (by omega) (by decide) (by decide) | exact wide_div (b := 128) (by omega) (by omega) (by decide) (by decide))
local macro_rules | `(tactic| walk_at "rd1") => `(tactic| first
  | ((with_reducible show tVar _ _ _ _); refine Wk.r_var rfl ?_)
  | (with_reducible first
    | refine Wk.r_c ?_ | refine Wk.r_op ?_ | refine Wk.r_cons ?_ | refine Wk.r_nil ?_
    | refine Wk.r_seq ?_ | refine Wk.r_next ?_ | refine Wk.r_set ?_ | refine Wk.r_asgS ?_ | refine Wk.r_ret ?_ | refine Wk.r_drop ?_ | refine Wk.r_if ?_
    | refine Wk.r_asgG ?_ | refine Wk.r_gName ?_ | refine Wk.r_gCons ?_ | refine Wk.r_gNil ?_ | refine Wk.r_par ?_ | refine Wk.r_par3 ?_ | refine Wk.r_lstRg1 ?_ | refine Wk.r_tupRg1 ?_ | refine ⟨_, _, _, rfl, ?_⟩ | refine Wk.r_un ?_ | refine Wk.r_I0 ?_ | refine Wk.r_U ?_
    | refine Wk.r_test ?_ | refine Wk.r_B ?_ | refine Wk.r_k ?_ | refine Wk.r_not ?_ | refine Wk.r_and ?_ | refine Wk.r_or ?_ | refine Wk.r_andV ?_ | refine Wk.r_orV ?_ | refine Wk.r_notV ?_
    | refine Wk.r_CB ?_ | refine Wk.r_chain ?_ | refine Wk.r_fld ?_ | refine Wk.r_sfld ?_ | refine Wk.r_lst ?_ | refine Wk.r_tup ?_ | refine Wk.r_call ?_ | refine Wk.r_BM ?_ | refine Wk.r_BM0 ?_ | refine Wk.r_T ?_ | refine Wk.r_nT ?_ | refine Wk.r_nF ?_ | refine Wk.r_F ?_
    | refine Or.inl ⟨_, rfl, ?_⟩ | refine Or.inr ⟨_, rfl, ?_⟩ | refine ⟨_, rfl, ?_⟩ | refine ⟨_, _, rfl, ?_⟩)
  | ((with_reducible refine Wk.r_eq ?c0 ?_); (case c0 => rfl)) | ((with_reducible refine Wk.r_ne ?c0 ?_); (case c0 => rfl))
  | ((with_reducible refine Wk.r_pow ?c0 ?_); (case c0 => exact ⟨by decide, by decide, by decide⟩))
  | ((with_reducible refine Wk.r_mul ?c0 ?_); (case c0 => walk_at "cmul")) | ((with_reducible refine Wk.r_mod ?c0 ?_); (case c0 => first | decide | omega)) | ((with_reducible refine Wk.r_div ?c0 ?_); (case c0 => walk_at "cdiv"))
  | ((with_reducible refine Wk.r_new ?c0 ?_); (case c0 => (simp only [List.length_cons, List.length_nil]; omega)))
  | ((with_reducible show gTup _ _ _ _ _ _ _); refine Wk.r_gTup (by walk_at "sq") (by rfl) ?_)
  | (refine Wk.r_tyL (by walk_at "hp") ?_)
  | ((with_reducible show rSetL _ _ _ _ _); refine Wk.r_setL (by walk_at "hp") (by rfl) ?_)
  | ((with_reducible show rIxL _ _ _ _ _); refine Wk.r_ixL (by walk_at "sq") (by rfl) ?_) | ((with_reducible show rIxT _ _ _ _ _); refine Wk.r_ixT (by walk_at "sq") (by rfl) ?_)
  | ((with_reducible show rLenOf _ _ _ _); first | refine Wk.n_lenL (by walk_at "sq") ?_ | refine Wk.n_lenT (by walk_at "sq") ?_)
  | ((with_reducible show rListOf _ _ _ _); first | refine Wk.n_listL (by walk_at "sq") ?_ | refine Wk.n_listT (by walk_at "sq") ?_)
  | ((with_reducible show rTupZ _ _ _ _); first | refine Wk.z_tupL (by walk_at "sq") ?_ | refine Wk.z_tupT (by walk_at "sq") ?_)
  | ((with_reducible show rTupOf _ _ _ _); first | refine Wk.n_tupL (by walk_at "sq") ?_ | refine Wk.n_tupT (by walk_at "sq") ?_))
local macro_rules | `(tactic| walk_at "rd") => `(tactic| repeat (walk_at "rd1"))
local macro_rules | `(tactic| walk_at "rd1") => `(tactic| (with_reducible first | refine Wk.r_dget ?_ | refine Wk.r_din ?_ | refine Wk.r_dnotin ?_ | refine Wk.r_dput ?_ | refine Wk.r_pairs ?_ | refine Wk.r_pairs0 ?_ | refine Wk.r_sl ?_ | refine Wk.r_part ?_ | refine Wk.r_nopart ?_ | refine Wk.r_augS ?_ | refine Wk.r_ipI ?_ | refine Wk.r_aug rfl ?_ | refine Wk.r_revT ?_))

section
variable {P : Program} {w : World} {K : PySem.W.Frag} {mg : Str → Option Value} {base : Heap}
/-- a map: a tuple of n numbers below k -/
structure MapT (K : PySem.W.Frag) (H : Hp) (t n k : Nat) (f : Nat → Nat) : Prop where
  tup : SqT K H t (natsV n f)
  lt : ∀ x, x < n → f x < k
theorem MapT.mono {H H' : Hp} {t n k : Nat} {f : Nat → Nat} (s : Same H H') (h : MapT K H t n k f) : MapT K H' t n k f := ⟨s.sqT h.tup, h.lt⟩
theorem list_const {L : List V} {n : Nat} {v : Nat → V} (hl : L.length = n) (h : ∀ (i : Nat) u, L[i]? = some u → u = v i) : L = (List.range n).map v := by
  apply List.ext_getElem?
  intro i
  rw [List.getElem?_map]
  by_cases c : i < n
  · have cl : i < L.length := by omega
    rw [List.getElem?_eq_getElem cl, List.getElem?_range c]
    exact congrArg some (h i _ (List.getElem?_eq_getElem cl))
  · rw [List.getElem?_eq_none (by omega), List.getElem?_eq_none (by rw [List.length_range]; omega)]
    rfl
theorem natsV_ints {k : Nat} {c : Nat → Nat} : natsV k c = ((List.range k).map fun h => (c h : Int)).map V.int := by
  unfold natsV
  rw [List.map_map]
  rfl
def spMRow (K : PySem.W.Frag) (C : Addr) : Sp := fun vs H Q _ => ∃ (g t n k : Nat) (m : Nat → Nat → Nat) (f : Nat → Nat), vs = [.ref g, .ref t, .int (n : Int)] ∧ GrpO K C H g k m ∧ MapT K H t n k f ∧ n ≤ 1000 ∧ ∀ H', Same H H' → Q (.bl true) H'
theorem k_is_member_row {C : Addr} (T : TxG K mg C) (k_is_number_row : Keep P w K mg base 3 "is_number_row" ["value", "length", "bound"] (spNRow K)) (a : At K mg "is_member_row" s_is_member_row ["group", "value", "length"]) : Keep P w K mg base 4 "is_member_row" ["group", "value", "length"] (spMRow K C) := by
  refine Keep.of a sc_is_member_row (fun vs H Q E h => ?_) (fun fa cdv A outer s H vs Q E hr h => ?_)
  · obtain ⟨_, _, _, _, _, _, rfl, _⟩ := h
    rfl
  · obtain ⟨g, t, n, k, m, f, rfl, hg, mt, hn, kk⟩ := h
    obtain ⟨dx, tt, iv, e', inv, gg⟩ := id hg
    refine ⟨_, (pss_one (ps_ret (pe_k k_is_number_row (hr.mono (by decide)) (by rfl) (pa_cons (pv 1) (pa_cons (pv 2) (pa_cons (e_fld K (pv 0) rfl) pa_nil)))))), ?_⟩
    walk_at "rd"
    refine ⟨_, _, _, _, _, rfl, gg.ins, T.cl, T.nS, gf_size, ?_⟩
    walk_at "rd"
    refine ⟨t, n, k, (List.range n).map (fun i => (f i : Int)), rfl, by rw [← natsV_ints]; exact mt.tup, by simp, hn, fun z hz => ?_, kk⟩
    obtain ⟨i, hi, rfl⟩ := List.mem_map.mp hz
    have := mt.lt i (List.mem_range.mp hi)
    exact ⟨by omega, by omega⟩
def spMap (K : PySem.W.Frag) (C : Addr) (v : V) : Sp := fun vs H Q _ => ∃ (g1 g2 t n k : Nat) (m1 m2 : Nat → Nat → Nat) (f : Nat → Nat), vs = [.ref g1, .ref g2, .ref t] ∧ GrpO K C H g1 n m1 ∧ GrpO K C H g2 k m2 ∧ MapT K H t n k f ∧ ∀ H', Same H H' → Q v H'
theorem k_is_map {C : Addr} (T : TxG K mg C) (k_is_member_row : Keep P w K mg base 4 "is_member_row" ["group", "value", "length"] (spMRow K C)) (a : At K mg "is_map" s_is_map ["one", "other", "value"]) : Keep P w K mg base 5 "is_map" ["one", "other", "value"] (spMap K C (.bl true)) := by
  refine Keep.of a sc_is_map (fun vs H Q E h => ?_) (fun fa cdv A outer s H vs Q E hr h => ?_)
  · obtain ⟨_, _, _, _, _, _, _, _, rfl, _⟩ := h
    rfl
  · obtain ⟨g1, g2, t, n, k, m1, m2, f, rfl, h1, h2, mt, kk⟩ := h
    obtain ⟨dx, tt, iv, e', inv, gg⟩ := id h1
    have hn := gg.le
    refine ⟨_, (pss_one (ps_ret (pe_k k_is_member_row (hr.mono (by decide)) (by rfl) (pa_cons (pv 1) (pa_cons (pv 2) (pa_cons (e_fld K (pv 0) rfl) pa_nil)))))), ?_⟩
    walk_at "rd"
    refine ⟨_, _, _, _, _, rfl, gg.ins, T.cl, T.nS, gf_size, ?_⟩
    walk_at "rd"
    exact ⟨g2, t, n, k, m2, f, rfl, h2, mt, by omega, kk⟩
theorem k_require_map {C : Addr} (T : TxG K mg C) (k_is_map : Keep P w K mg base 5 "is_map" ["one", "other", "value"] (spMap K C (.bl true))) (a : At K mg "require_map" s_require_map ["one", "other", "value"]) : Keep P w K mg base 6 "require_map" ["one", "other", "value"] (spMap K C .non) := by
  refine Keep.of a sc_require_map (fun vs H Q E h => ?_) (fun fa cdv A outer s H vs Q E hr h => ?_)
  · obtain ⟨_, _, _, _, _, _, _, _, rfl, _⟩ := h
    rfl
  · obtain ⟨g1, g2, t, n, k, m1, m2, f, rfl, h1, h2, mt, kk⟩ := h
    refine ⟨_, (pss_one (ps_if (pt_not (pt_val (pe_k k_is_map (hr.mono (by decide)) (by rfl) (pa_cons (pv 0) (pa_cons (pv 1) (pa_cons (pv 2) pa_nil)))))) (pss_one ps_never) pss_nil)), ?_⟩
    walk_at "rd"
    refine ⟨g1, g2, t, n, k, m1, m2, f, rfl, h1, h2, mt, fun H' s => ?_⟩
    walk_at "rd"
    exact kk _ s
def spInv (K : PySem.W.Frag) (C : Addr) : Sp := fun vs H Q _ => ∃ (g n x e : Nat) (m : Nat → Nat → Nat) (inv : Nat → Nat), vs = [.ref g, .int x] ∧ GrpO K C H g n m ∧ G.IsNe n m e ∧ G.InvOf n m e inv ∧ x < n ∧ Q (.int (inv x : Nat)) H
theorem ok_inverse {C f : Addr} {fd : FuncData} (T : TxG K mg C) (k_require_member : Keep P w K mg base 4 "require_member" ["group", "value"] (spMember K C .non)) (F : Fun K "inverse" "Group.inverse" s_Group_inverse f fd) : FnOk P w K mg base CX0 5 f fd ["self", "x"] (spInv K C) := by
  refine F.okG sc_Group_inverse (fun vs H Q E h => ?_) (fun cdv A outer s H vs Q E hr h => ?_)
  · obtain ⟨_, _, _, _, _, _, rfl, _⟩ := h
    rfl
  · obtain ⟨p, n, x, e, m, inv2, rfl, ⟨dx, t, iv, e', inv, g⟩, he, hi2, hx, kk⟩ := h
    have ee : e' = e := g.ne.uniq he
    subst ee
    have ey : inv x = inv2 x := G.InvOf.uniq g.grp he g.iv_ok hi2 x hx
    refine ⟨_, (pss_cons (ps_expr (pe_k k_require_member (hr.mono (by decide)) (by rfl) (pa_cons (pv 0) (pa_cons (pv 1) pa_nil))))
    (pss_one (ps_ret (pe_ix (x_tup K) (e_fld K (pv 0) rfl) (pv 1) (fun _ _ => rfl))))), ?_⟩
    walk_at "rd"
    refine ⟨p, dx, t, iv, n, e', x, rfl, g.ins, hx, ?_⟩
    walk_at "rd"
    refine ⟨_, _, _, _, _, rfl, g.ins, T.cl, T.nI, gf_inverses, ?_⟩
    walk_at "rd"
    refine Wk.r_ixT g.invs (at_n (natsV_get hx)) ?_
    rw [ey]
    exact kk
end
end Wk
end
section
set_option Elab.async false
set_option linter.all false
set_option maxRecDepth 100000
namespace Wk
open PySem PySem.Spec PyProof.Rows L2
local macro_rules | `(tactic| walk_at "hp") => `(tactic| first | assumption | exact upd_same | exact (upd_ne (ne_of_none (by assumption) (by assumption))).trans (by assumption) | (rw [upd_ne (by first | assumption | exact Ne.symm (by assumption))]; walk_at "hp"))
local macro_rules | `(tactic| walk_at "sq") => `(tactic| first | assumption | exact SqL.of (by assumption) | exact SqT.of (by assumption) | exact SqL.of (by walk_at "hp") | exact SqT.of (by walk_at "hp") | (refine Same.seq ?_ ?_ <;> assumption))
local macro_rules | `(tactic| walk_at "cmul") => `(tactic| first | exact .inr ⟨by decide, by decide⟩ | exact .inl ⟨by decide, by decide⟩ | exact .inr ⟨by omega, by omega⟩ | exact .inl ⟨by omega, by omega⟩)
local macro_rules | `(tactic| walk_at "cdiv") => `(tactic| first | exact ⟨by decide, by decide⟩ | exact wide_div (b := 64) (by omega) (by omega) (by decide) (by decide) | exact wide_div (b := 128) (by omega) (by omega) (by decide) (by decide))
local macro_rules | `(tactic| walk_at "rd1") => `(tactic| first
  | ((with_reducible show tVar _ _ _ _); refine Wk.r_var rfl ?_)
  | (with_reducible first
    | refine Wk.r_c ?_ | refine Wk.r_op ?_ | refine Wk.r_cons ?_ | refine Wk.r_nil ?_
    | refine Wk.r_seq ?_ | refine Wk.r_next ?_ | refine Wk.r_set ?_ | refine Wk.r_asgS ?_ | refine Wk.r_ret ?_ | refine Wk.r_drop ?_ | refine Wk.r_if ?_
    | refine Wk.r_asgG ?_ | refine Wk.r_gName ?_ | refine Wk.r_gCons ?_ | refine Wk.r_gNil ?_ | refine Wk.r_par ?_ | refine Wk.r_par3 ?_ | refine Wk.r_lstRg1 ?_ | refine Wk.r_tupRg1 ?_ | refine ⟨_, _, _, rfl, ?_⟩ | refine Wk.r_un ?_ | refine Wk.r_I0 ?_ | refine Wk.r_U ?_
    | refine Wk.r_test ?_ | refine Wk.r_B ?_ | refine Wk.r_k ?_ | refine Wk.r_not ?_ | refine Wk.r_and ?_ | refine Wk.r_or ?_ | refine Wk.r_andV ?_ | refine Wk.r_orV ?_ | refine Wk.r_notV ?_
    | refine Wk.r_CB ?_ | refine Wk.r_chain ?_ | refine Wk.r_fld ?_ | refine Wk.r_sfld ?_ | refine Wk.r_lst ?_ | refine Wk.r_tup ?_ | refine Wk.r_call ?_ | refine Wk.r_BM ?_ | refine Wk.r_BM0 ?_ | refine Wk.r_T ?_ | refine Wk.r_nT ?_ | refine Wk.r_nF ?_ | refine Wk.r_F ?_
    | refine Or.inl ⟨_, rfl, ?_⟩ | refine Or.inr ⟨_, rfl, ?_⟩ | refine ⟨_, rfl, ?_⟩ | refine ⟨_, _, rfl, ?_⟩)
  | ((with_reducible refine Wk.r_eq ?c0 ?_); (case c0 => rfl)) | ((with_reducible refine Wk.r_ne ?c0 ?_); (case c0 => rfl))
  | ((with_reducible refine Wk.r_pow ?c0 ?_); (case c0 => exact ⟨by decide, by decide, by decide⟩))
  | ((with_reducible refine Wk.r_mul ?c0 ?_); (case c0 => walk_at "cmul")) | ((with_reducible refine Wk.r_mod ?c0 ?_); (case c0 => first | decide | omega)) | ((with_reducible refine Wk.r_div ?c0 ?_); (case c0 => walk_at "cdiv"))
  | ((with_reducible refine Wk.r_new ?c0 ?_); (case c0 => (simp only [List.length_cons, List.length_nil]; omega)))
  | ((with_reducible show gTup _ _ _ _ _ _ _); refine Wk.r_gTup (by walk_at "sq") (by rfl) ?_)
  | (refine Wk.r_tyL (by walk_at "hp") ?_)
  | ((with_reducible show rSetL _ _ _ _ _); refine Wk.r_setL (by walk_at "hp") (by rfl) ?_)
  | ((with_reducible show rIxL _ _ _ _ _); refine Wk.r_ixL (by walk_at "sq") (by rfl) ?_) | ((with_reducible show rIxT _ _ _ _ _); refine Wk.r_ixT (by walk_at "sq") (by rfl) ?_)
  | ((with_reducible show rLenOf _ _ _ _); first | refine Wk.n_lenL (by walk_at "sq") ?_ | refine Wk.n_lenT (by walk_at "sq") ?_)
  | ((with_reducible show rListOf _ _ _ _); first | refine Wk.n_listL (by walk_at "sq") ?_ | refine Wk.n_listT (by walk_at "sq") ?_)
  | ((with_reducible show rTupZ _ _ _ _); first | refine Wk.z_tupL (by walk_at "sq") ?_ | refine Wk.z_tupT (by walk_at "sq") ?_)
  | ((with_reducible show rTupOf _ _ _ _); first | refine Wk.n_tupL (by walk_at "sq") ?_ | refine Wk.n_tupT (by walk_at "sq") ?_))
local macro_rules | `(tactic| walk_at "rd") => `(tactic| repeat (walk_at "rd1"))
local macro_rules | `(tactic| walk_at "rd1") => `(tactic| (with_reducible first | refine Wk.r_dget ?_ | refine Wk.r_din ?_ | refine Wk.r_dnotin ?_ | refine Wk.r_dput ?_ | refine Wk.r_pairs ?_ | refine Wk.r_pairs0 ?_ | refine Wk.r_sl ?_ | refine Wk.r_part ?_ | refine Wk.r_nopart ?_ | refine Wk.r_augS ?_ | refine Wk.r_ipI ?_ | refine Wk.r_aug rfl ?_ | refine Wk.r_revT ?_))

section
variable {P : Program} {w : World} {K : PySem.W.Frag} {mg : Str → Option Value} {base : Heap}
/-- two groups and a map of them, in the heap -/
structure Mp (K : PySem.W.Frag) (C : Addr) (H : Hp) (g1 g2 t n k : Nat) (m1 m2 : Nat → Nat → Nat) (e2 : Nat) (inv f : Nat → Nat) : Prop where
  o1 : GrpO K C H g1 n m1
  o2 : GrpO K C H g2 k m2
  mt : MapT K H t n k f
  ne : G.IsNe k m2 e2
  iv : G.InvOf k m2 e2 inv
theorem Mp.mono {C : Addr} {H H' : Hp} {g1 g2 t n k : Nat} {m1 m2 : Nat → Nat → Nat} {e2 : Nat} {inv f : Nat → Nat} (s : Same H H') (h : Mp K C H g1 g2 t n k m1 m2 e2 inv f) : Mp K C H' g1 g2 t n k m1 m2 e2 inv f := { h with o1 := h.o1.mono s, o2 := h.o2.mono s, mt := h.mt.mono s }
theorem Mp.gs {C : Addr} {H : Hp} {g1 g2 t n k : Nat} {m1 m2 : Nat → Nat → Nat} {e2 : Nat} {inv f : Nat → Nat} (h : Mp K C H g1 g2 t n k m1 m2 e2 inv f) : G.Grp n m1 ∧ G.Grp k m2 ∧ n ≤ 48 ∧ k ≤ 48 := by
  obtain ⟨_, _, _, _, _, a⟩ := h.o1
  obtain ⟨_, _, _, _, _, b⟩ := h.o2
  exact ⟨a.grp, b.grp, a.le, b.le⟩
def spInvd (K : PySem.W.Frag) (C : Addr) : Sp := fun vs H Q _ => ∃ (g1 g2 t n k : Nat) (m1 m2 : Nat → Nat → Nat) (e2 : Nat) (inv f : Nat → Nat), vs = [.ref g2, .ref t] ∧ Mp K C H g1 g2 t n k m1 m2 e2 inv f ∧ ∀ H' c, Same H H' → H c = none → H' c = some (.lst (natsV n fun x => inv (f x))) → Q (.ref c) H'
theorem k__inverted {C : Addr} (T : TxG K mg C) (k_Group_inverse : KeepM P w K mg base 5 C "inverse" ["self", "x"] (spInv K C)) (a : At K mg "_inverted" s__inverted ["other", "f"]) : Keep P w K mg base 6 "_inverted" ["other", "f"] (spInvd K C) := by
  refine Keep.of a sc__inverted (fun vs H Q E h => ?_) (fun fa cdv A outer s H vs Q E hr h => ?_)
  · obtain ⟨_, _, _, _, _, _, _, _, _, _, rfl, _⟩ := h
    rfl
  · obtain ⟨g1, g2, t, n, k, m1, m2, e2, inv, f, rfl, mp, kk⟩ := h
    obtain ⟨_, _, hn, hk⟩ := mp.gs
    obtain ⟨dx, tt, iv, e', inv', gg⟩ := id mp.o2
    refine ⟨_, (pss_one (ps_ret (pe_lc (own := [("value", 2)]) rfl sc__inverted.nd (i_tup K (pv 1)) (blkOk_by (N := ["other", "f", "value"]) (sc := defScope s__inverted) (by decide +kernel)) (fun _ _ _ _ _ => (pg_name (i := 2) sc__inverted.nd rfl (by first | exact Or.inl rfl | exact Or.inr rfl))) (fun _ _ _ _ _ => pts_nil) (fun _ _ _ _ _ => (pe_m (pv 0) T.cl k_Group_inverse (hr.mono (by decide)) (pa_cons (pv 2) pa_nil)))))), ?_⟩
    walk_at "rd"
    refine lc_tpl (fun i v _ => v = V.int ((inv (f i) : Nat) : Int)) mp.mt.tup (by rw [natsV_len]; omega) (fun R' h => ?_) (fun i => mut_val) ?_ ?_
    · walk_at "rd"
      exact h
    · intro i y H2 Q' hy s2 k2
      have hi : i < n := by have := (List.getElem?_eq_some_iff.mp hy).1; rw [natsV_len] at this; exact this
      rw [natsV_get hi] at hy
      cases hy
      walk_at "rd"
      refine r_meth ?_
      walk_at "rd"
      refine ⟨_, _, _, rfl, s2 _ _ gg.ins, gf_no (by decide +kernel) (by decide +kernel) (by decide +kernel) (by decide +kernel), ?_⟩
      walk_at "rd"
      refine ⟨g2, k, f i, e2, m2, inv, rfl, mp.o2.mono s2, mp.ne, mp.iv, mp.mt.lt i hi, ?_⟩
      exact k2 _ _ (Same.refl _) rfl
    · intro D L H2 hD s2 hL len r
      have e : L = natsV n fun x => inv (f x) := list_const (by rw [len, natsV_len]) r
      rw [e] at hL
      exact kk _ D s2 hD hL
def spCnt (K : PySem.W.Frag) (C : Addr) : Sp := fun vs H Q _ => ∃ (g1 g2 t c n k x : Nat) (m1 m2 : Nat → Nat → Nat) (e2 : Nat) (inv f : Nat → Nat), vs = [.ref g1, .ref g2, .ref t, .ref c, .int x] ∧ Mp K C H g1 g2 t n k m1 m2 e2 inv f ∧ H c = some (.lst (natsV n fun x => inv (f x))) ∧ x < n ∧
  ∀ H' u, Same H H' → SqZ H' u (natsV k (G.vts m1 m2 inv f x n)) → Q (.ref u) H'
theorem rep_zeroN {k : Nat} : (List.replicate (k : Int).toNat [V.int 0]).flatten = natsV k (fun _ => 0) := by
  rw [Int.toNat_natCast]
  unfold natsV
  induction k with
  | zero => rfl
  | succ k ih =>
    rw [List.range_succ, List.map_append, List.replicate_succ', List.flatten_append, ih]
    rfl
theorem k__counted {C : Addr} (T : TxG K mg C) (a : At K mg "_counted" s__counted ["one", "other", "f", "inverses", "x"]) : Keep P w K mg base 1 "_counted" ["one", "other", "f", "inverses", "x"] (spCnt K C) := by
  refine Keep.of a sc__counted (fun vs H Q E h => ?_) (fun fa cdv A outer s H vs Q E hr h => ?_)
  · obtain ⟨_, _, _, _, _, _, _, _, _, _, _, _, rfl, _⟩ := h
    rfl
  · obtain ⟨g1, g2, t, c, n, k, x, m1, m2, e2, inv, f, rfl, mp, hc, hx, kk⟩ := h
    obtain ⟨gr1, gr2, hn, hk⟩ := mp.gs
    obtain ⟨dx1, t1, iv1, e1, inv1, o1⟩ := id mp.o1
    obtain ⟨dx2, t2, iv2, e2', inv2, o2⟩ := id mp.o2
    obtain ⟨L1, hL1, hR1⟩ := id o1.tab
    obtain ⟨L2', hL2, hR2⟩ := id o2.tab
    obtain ⟨rw_, ew, hrw⟩ := hR1.get hx
    refine ⟨_, (pss_cons (ps_set (i := 5) sc__counted.nd rfl (by first | exact Or.inl rfl | exact Or.inr rfl) (pe_op op_rep (pe_lst (pa_cons pe_int pa_nil)) (e_fld K (pv 1) rfl)))
    (pss_cons (ps_for PassesOwn.never rfl (i_enumT K (by rfl) T.n_enumerate (pa_cons (pe_ix (x_tup K) (e_fld K (pv 0) rfl) (pv 4) (fun _ _ => rfl)) pa_nil)) (pg_tup rfl (pgs_cons (pg_name (i := 6) sc__counted.nd rfl (by first | exact Or.inl rfl | exact Or.inr rfl)) (pgs_cons (pg_name (i := 7) sc__counted.nd rfl (by first | exact Or.inl rfl | exact Or.inr rfl)) pgs_nil))) (pss_one (ps_augS (pv 5) (pe_ix (x_tup K) (pe_ix (x_tup K) (e_fld K (pv 1) rfl) (pe_ix (x_tup K) (pv 2) (pv 7) (fun _ _ => rfl)) (fun _ _ => rfl)) (pe_ix (x_list K) (pv 3) (pv 6) (fun _ _ => rfl)) (fun _ _ => rfl)) (get_listK K) pe_int ip_add set_list)))
    (pss_one (ps_ret (pe_callTy (c_tupZ K) (by rfl) T.n_tuple (by decide +kernel) (pa_cons (pv 5) pa_nil)))))), ?_⟩
    walk_at "rd"
    intro l0 nl0
    have s0 := same_new (o := .lst [.int 0]) nl0
    have h0 : upd H l0 (.lst [.int 0]) l0 = some (.lst [.int 0]) := upd_same
    generalize upd H l0 (.lst [.int 0]) = H0 at s0 h0 ⊢
    walk_at "rd"
    refine ⟨_, _, _, _, _, rfl, s0 _ _ o2.ins, T.cl, T.nS, gf_size, ?_⟩
    walk_at "rd"
    refine ⟨_, _, _, rfl, rfl, h0, by omega, by omega, szl (by rw [Int.toNat_natCast]; simp; omega), fun D nD => ?_⟩
    rw [rep_zeroN]
    have s1 := same_new (o := .lst (natsV k fun _ => 0)) nD
    have hD1 : upd H0 D (.lst (natsV k fun _ => 0)) D = some (.lst (natsV k fun _ => 0)) := upd_same
    have nD0 : H D = none := Same.free s0 nD
    have s01 := s0.trans s1
    generalize upd H0 D (.lst (natsV k fun _ => 0)) = H1 at s01 hD1 ⊢
    walk_at "rd"
    refine f_enumT (fun i σ' H' => ∃ v6 v7 : Option V, σ' = [some (.ref g1), some (.ref g2), some (.ref t), some (.ref c), some (.int x), some (.ref D), v6, v7] ∧ Same H H' ∧ H' D = some (.lst (natsV k (G.vts m1 m2 inv f x i)))) (s01.sqT hrw) (fun R' h => ?_) ⟨_, _, rfl, s01, hD1⟩ (fun i σ' H' ⟨_, _, _, s, _⟩ => s.sqT hrw) ?_ ?_ (fun v σ H R R' h q => g2_mono v σ H R R' h q)
    · walk_at "rd"
      refine ⟨_, _, _, _, _, rfl, s01 _ _ o1.ins, T.cl, T.nT, gf_table, ?_⟩
      walk_at "rd"
      refine Wk.r_ixT (s01.sqT hL1) (at_n ew) ?_
      exact h
    · rintro i y σ' H' Tp hy ⟨v6, v7, rfl, s2, hD2⟩ hTp
      have hi : i < n := by have := (List.getElem?_eq_some_iff.mp hy).1; rw [rowV_len] at this; exact this
      rw [rowV_get hi] at hy
      cases hy
      have sT := same_new (o := .tup [.int (i : Int), .int ((m1 x i : Nat) : Int)]) hTp
      have hT3 : upd H' Tp (.tup [.int (i : Int), .int ((m1 x i : Nat) : Int)]) Tp = some (.tup [.int (i : Int), .int ((m1 x i : Nat) : Int)]) := upd_same
      have s3 := s2.trans sT
      have hD3 := sT _ _ hD2
      generalize upd H' Tp (.tup [.int (i : Int), .int ((m1 x i : Nat) : Int)]) = H3 at hT3 s3 hD3 ⊢
      have hfx := mp.mt.lt _ (gr1.cl _ _ hx hi)
      obtain ⟨rb, eb, hrb⟩ := hR2.get hfx
      have hiv := (mp.iv _ (mp.mt.lt i hi)).1
      have hvk : G.vote m1 m2 inv f x i < k := G.vote_lt gr1 gr2 mp.iv mp.mt.lt hx hi
      walk_at "rd"
      intro N B R hN hB hRt
      walk_at "rd"
      refine ⟨_, _, _, _, _, rfl, s3 _ _ o2.ins, T.cl, T.nT, gf_table, ?_⟩
      walk_at "rd"
      refine Wk.r_ixT (s3.sqT mp.mt.tup) (at_n (natsV_get (gr1.cl _ _ hx hi))) ?_
      refine Wk.r_ixT (s3.sqT hL2) (at_n eb) ?_
      walk_at "rd"
      refine Wk.r_ixL (SqL.of (s3 _ _ hc)) (at_n (natsV_get hi)) ?_
      refine Wk.r_ixT (s3.sqT hrb) (at_n (rowV_get hiv)) ?_
      refine Wk.r_getL (j := G.vote m1 m2 inv f x i) (SqL.of hD3) (natsV_get hvk) ?_
      walk_at "rd"
      have hix : ixN (natsV k (G.vts m1 m2 inv f x i)).length ((G.vote m1 m2 inv f x i : Nat) : Int) = some (G.vote m1 m2 inv f x i) := by
        rw [natsV_len]
        unfold ixN
        rw [if_pos (by omega), if_pos (by omega), Int.toNat_natCast]
      refine Wk.r_setL (j := G.vote m1 m2 inv f x i) hD3 hix ?_
      refine hN _ _ ⟨_, _, rfl, same_upd s3 nD0, ?_⟩
      rw [upd_same]
      have e1 : ((G.vts m1 m2 inv f x i (G.vote m1 m2 inv f x i) : Nat) : Int) + 1 = ((G.vts m1 m2 inv f x i (G.vote m1 m2 inv f x i) + 1 : Nat) : Int) := by omega
      rw [e1, natsV_set]
      congr 3
      funext h
      rw [G.vts_succ]
      by_cases q : h = G.vote m1 m2 inv f x i
      · rw [if_pos q, if_pos q, ← q]
      · rw [if_neg q, if_neg q]
    · rintro σ' H' ⟨v6, v7, rfl, s2, hD2⟩
      rw [rowV_len] at hD2
      walk_at "rd"
      intro u ob nu ho hcl
      exact kk _ u (s2.trans (same_new nu)) ⟨ob, upd_same, ho, hcl⟩
/-- the map that is voted -/
def Vtd (n k : Nat) (m1 m2 : Nat → Nat → Nat) (inv f V : Nat → Nat) : Prop := ∀ x, x < n → G.IsAm k (G.vts m1 m2 inv f x n) (V x)
def spVoted (K : PySem.W.Frag) (C : Addr) : Sp := fun vs H Q _ => ∃ (g1 g2 t n k : Nat) (m1 m2 : Nat → Nat → Nat) (e2 : Nat) (inv f V : Nat → Nat), vs = [.ref g1, .ref g2, .ref t] ∧ Mp K C H g1 g2 t n k m1 m2 e2 inv f ∧ Vtd n k m1 m2 inv f V ∧
  ∀ H' u, Same H H' → MapT K H' u n k V → Q (.ref u) H'
theorem am_max {k : Nat} {c : Nat → Nat} {j : Nat} (h : G.IsAm k c j) {z : Int} (hz : z ∈ (List.range k).map fun h => (c h : Int)) (hm : ∀ y ∈ (List.range k).map (fun h => (c h : Int)), y ≤ z) : z = c j := by
  obtain ⟨i, hi, rfl⟩ := List.mem_map.mp hz
  have h1 := hm _ (List.mem_map.mpr ⟨j, List.mem_range.mpr h.lt, rfl⟩)
  have h2 := h.le i (List.mem_range.mp hi)
  omega
theorem k_voted {C : Addr} (T : TxG K mg C) (k_require_map : Keep P w K mg base 6 "require_map" ["one", "other", "value"] (spMap K C .non)) (k__inverted : Keep P w K mg base 6 "_inverted" ["other", "f"] (spInvd K C)) (k__counted : Keep P w K mg base 1 "_counted" ["one", "other", "f", "inverses", "x"] (spCnt K C))
    (a : At K mg "voted" s_voted ["one", "other", "f"]) : Keep P w K mg base 7 "voted" ["one", "other", "f"] (spVoted K C) := by
  refine Keep.of a sc_voted (fun vs H Q E h => ?_) (fun fa cdv A outer s H vs Q E hr h => ?_)
  · obtain ⟨_, _, _, _, _, _, _, _, _, _, _, rfl, _⟩ := h
    rfl
  · obtain ⟨g1, g2, t, n, k, m1, m2, e2, inv, f, V', rfl, mp, hV, kk⟩ := h
    obtain ⟨_, _, hn, hk⟩ := mp.gs
    refine ⟨_, (pss_cons (ps_expr (pe_k k_require_map (hr.mono (by decide)) (by rfl) (pa_cons (pv 0) (pa_cons (pv 1) (pa_cons (pv 2) pa_nil)))))
    (pss_cons (ps_set (i := 3) sc_voted.nd rfl (by first | exact Or.inl rfl | exact Or.inr rfl) (pe_k k__inverted (hr.mono (by decide)) (by rfl) (pa_cons (pv 1) (pa_cons (pv 2) pa_nil))))
    (pss_cons (ps_setLc (i := 5) (own := [("x", 4)]) rfl sc_voted.nd rfl rfl (sw_true rfl rfl rfl (by decide +kernel)) (pi_range1 (by rfl) T.n_range (pa_cons (e_fld K (pv 0) rfl) pa_nil)) (blkOk_by (N := ["one", "other", "f", "inverses", "x", "rows", "row"]) (sc := defScope s_voted) (by decide +kernel)) (fun _ _ _ _ _ => (pg_name (i := 4) sc_voted.nd rfl (by first | exact Or.inl rfl | exact Or.inr rfl))) (fun _ _ _ _ _ => pts_nil) (fun _ _ _ _ _ => (pe_k k__counted (hr.mono (by decide)) (by rfl) (pa_cons (pv 0) (pa_cons (pv 1) (pa_cons (pv 2) (pa_cons (pv 3) (pa_cons (pv 4) pa_nil))))))))
    (pss_one (ps_ret (pe_callTy (c_tup K) (by rfl) T.n_tuple (by decide +kernel) (pa_cons (pe_lc (own := [("row", 6)]) rfl sc_voted.nd (i_list K (pv 5)) (blkOk_by (N := ["one", "other", "f", "inverses", "x", "rows", "row"]) (sc := defScope s_voted) (by decide +kernel)) (fun _ _ _ _ _ => (pg_name (i := 6) sc_voted.nd rfl (by first | exact Or.inl rfl | exact Or.inr rfl))) (fun _ _ _ _ _ => pts_nil) (fun _ _ _ _ _ => (e_bmZ PySem.F.plainAttrs_tuple PySem.F.slot_tuple_index PySem.F.type_tuple_index (m_indexT K) (pv 6) (pa_cons (pe_callB (c_maxT K rfl (u65 hr)) (by rfl) T.n_max (by decide +kernel) (pa_cons (pv 6) pa_nil)) pa_nil)))) pa_nil))))))), ?_⟩
    walk_at "rd"
    refine ⟨g1, g2, t, n, k, m1, m2, f, rfl, mp.o1, mp.o2, mp.mt, fun H1 s1 => ?_⟩
    have mp1 := mp.mono s1
    walk_at "rd"
    refine ⟨g1, g2, t, n, k, m1, m2, e2, inv, f, rfl, mp1, fun H2 c s2 nc hc => ?_⟩
    have mp2 := mp1.mono s2
    obtain ⟨dx1, t1, iv1, e1, inv1, o1⟩ := id mp2.o1
    walk_at "rd"
    refine lc_rng (n := n) (fun x v H' => ∃ u, v = V.ref u ∧ SqZ H' u (natsV k (G.vts m1 m2 inv f x n))) (by omega) (fun R' h => ?_) (fun i v H1 H2 D L hD s ⟨u, e, q⟩ => ⟨u, e, sqZ_mut hD s q⟩) (fun x H3 Q' hx s3 k3 => ?_) (fun D L H3 hD s3 hL len r => ?_)
    · walk_at "rd"
      refine ⟨_, _, _, _, _, rfl, o1.ins, T.cl, T.nS, gf_size, ?_⟩
      exact h
    · walk_at "rd"
      exact ⟨g1, g2, t, c, n, k, x, m1, m2, e2, inv, f, rfl, mp2.mono s3, s3 _ _ hc, hx, fun H4 u s4 hu => k3 _ _ s4 ⟨u, rfl, hu⟩⟩
    walk_at "rd"
    refine lc_lst (fun x v _ => v = V.int ((V' x : Nat) : Int)) (SqL.of hL) (by rw [len]; omega) (fun R' h => ?_) (fun i => mut_val) ?_ ?_
    · walk_at "rd"
      exact h
    · intro x y H4 Q' hy s4 k4
      have hx : x < n := by have := (List.getElem?_eq_some_iff.mp hy).1; omega
      obtain ⟨u, rfl, hu⟩ := r x y hy
      have hu4 := hu.mono s4
      have am := hV x hx
      have k0 : 0 < k := by have := am.lt; omega
      walk_at "rd"
      refine r_bmZ ?_
      walk_at "rd"
      refine ⟨⟨u, _, rfl, hu4⟩, ?_⟩
      walk_at "rd"
      refine ⟨u, _, rfl, by rw [← natsV_ints]; exact hu4.sqT, by simp; omega, fun z hz hm => ?_⟩
      have ez := am_max am hz hm
      subst ez
      walk_at "rd"
      refine ⟨u, natsV k (G.vts m1 m2 inv f x n), .int ((G.vts m1 m2 inv f x n (V' x) : Nat) : Int), V' x, .int ((G.vts m1 m2 inv f x n (V' x) : Nat) : Int), rfl, rfl, hu4.sqT, rfl, natsV_flat, natsV_get am.lt, beq_self_eq_true _, fun j z' hj hz' => ?_, ?_⟩
      · have hjk : j < k := by have := am.lt; omega
        rw [natsV_get hjk] at hz'
        cases hz'
        have := am.least j hj
        exact beq_eq_false_iff_ne.mpr (by omega)
      exact k4 _ _ (Same.refl _) rfl
    · intro D' L' H4 hD' s4 hL' len' r'
      have e : L' = natsV n V' := list_const (by rw [len', len]) r'
      rw [e] at hL'
      walk_at "rd"
      intro u nu
      exact kk _ u (((s1.trans s2).trans s3).trans (s4.trans (same_new nu))) ⟨SqT.of upd_same, fun x hx => (hV x hx).lt⟩
end
end Wk
end
section
set_option Elab.async false
set_option linter.all false
namespace G
/-- how many pairs are broken -/
def brk (n : Nat) (m1 m2 : Nat → Nat → Nat) (f : Nat → Nat) : Nat := sm n fun x => sm n fun y => ind (m2 (f x) (f y) ≠ f (m1 x y))
section
variable {n k : Nat} {m1 m2 : Nat → Nat → Nat} {e1 e2 : Nat} {inv1 inv f : Nat → Nat} {x : Nat}
theorem vts_sm (h : Nat) : vts m1 m2 inv f x n h = sm n fun y => ind (vote m1 m2 inv f x y = h) := by
  unfold vts
  rw [sm_filter]
  exact sm_congr fun i _ => by
    unfold ind
    by_cases q : vote m1 m2 inv f x i = h
    · rw [if_pos q, if_pos (by simpa using q)]
    · rw [if_neg q, if_neg (by simpa using q)]
/-- two votes at x are unlike at twice the broken pairs at most -/
theorem unlike_le (g1 : Grp n m1) (g2 : Grp k m2) (h1 : IsNe n m1 e1) (h2 : IsNe k m2 e2) (i1 : InvOf n m1 e1 inv1) (i2 : InvOf k m2 e2 inv) (hf : ∀ x, x < n → f x < k) (hx : x < n) :
    sm n (fun z => sm n fun y => ind (vote m1 m2 inv f x y ≠ vote m1 m2 inv f x z)) ≤ 2 * brk n m1 m2 f := by
  have c1 : ∀ {a b}, a < n → b < n → m1 a b < n := fun ha hb => g1.cl _ _ ha hb
  -- if neither (xz, u) nor (z, u) is broken, u = z^-1 y, the votes of y and z are equal
  have key : ∀ z y, z < n → y < n → ind (vote m1 m2 inv f x y ≠ vote m1 m2 inv f x z) ≤ ind (m2 (f (m1 x z)) (f (m1 (inv1 z) y)) ≠ f (m1 (m1 x z) (m1 (inv1 z) y))) + ind (m2 (f z) (f (m1 (inv1 z) y)) ≠ f (m1 z (m1 (inv1 z) y))) := fun z y hz hy => by
    obtain ⟨hiz, z1, z2⟩ := i1 z hz
    have hu := c1 hiz hy
    have e : m1 z (m1 (inv1 z) y) = y := by rw [← g1.as z _ y hz hiz hy, z1, h1.l y hy]
    have e' : m1 (m1 x z) (m1 (inv1 z) y) = m1 x y := by rw [g1.as x z _ hx hz hu, e]
    rw [e, e']
    by_cases p : m2 (f (m1 x z)) (f (m1 (inv1 z) y)) = f (m1 x y)
    · by_cases q : m2 (f z) (f (m1 (inv1 z) y)) = f y
      · have hfu := hf _ hu
        obtain ⟨iy1, iy2, iy3⟩ := i2 _ (hf y hy)
        obtain ⟨iz1, iz2, iz3⟩ := i2 _ (hf z hz)
        have ev : vote m1 m2 inv f x y = vote m1 m2 inv f x z := by
          unfold vote
          have hxz := hf _ (c1 hx hz)
          -- f(xy) f(y)^-1 = f(xz) f(u) f(y)^-1, and f(u) f(y)^-1 = f(z)^-1
          have w : m2 (f (m1 (inv1 z) y)) (inv (f y)) = inv (f z) := by
            have hw := g2.cl _ _ hfu iy1
            have t1 : m2 (f z) (m2 (f (m1 (inv1 z) y)) (inv (f y))) = e2 := by rw [← g2.as _ _ _ (hf z hz) hfu iy1, q, iy2]
            exact inv_uniq g2 h2 (hf z hz) hw iz1 t1 iz3
          rw [← p, g2.as _ _ _ hxz hfu iy1, w]
        unfold ind
        rw [if_neg (fun q => q ev)]
        omega
      · have := ind_le (vote m1 m2 inv f x y ≠ vote m1 m2 inv f x z)
        have : ind (m2 (f z) (f (m1 (inv1 z) y)) ≠ f y) = 1 := by unfold ind; rw [if_pos q]
        omega
    · have := ind_le (vote m1 m2 inv f x y ≠ vote m1 m2 inv f x z)
      have : ind (m2 (f (m1 x z)) (f (m1 (inv1 z) y)) ≠ f (m1 x y)) = 1 := by unfold ind; rw [if_pos p]
      omega
  have s1 := sm_le (n := n) (g := fun z => sm n fun y => ind (vote m1 m2 inv f x y ≠ vote m1 m2 inv f x z)) (h := fun z => sm n (fun y => ind (m2 (f (m1 x z)) (f (m1 (inv1 z) y)) ≠ f (m1 (m1 x z) (m1 (inv1 z) y)))) + sm n fun y => ind (m2 (f z) (f (m1 (inv1 z) y)) ≠ f (m1 z (m1 (inv1 z) y)))) fun z hz => by
    rw [← sm_add]
    exact sm_le fun y hy => key z y hz hy
  rw [sm_add] at s1
  have inner : ∀ (a z : Nat), z < n → sm n (fun y => ind (m2 (f a) (f (m1 (inv1 z) y)) ≠ f (m1 a (m1 (inv1 z) y)))) = sm n fun u => ind (m2 (f a) (f u) ≠ f (m1 a u)) := fun a z hz => by
    obtain ⟨hiz, z1, z2⟩ := i1 z hz
    exact sm_perm (s := fun y => m1 (inv1 z) y) (t := fun u => m1 z u) (fun u => ind (m2 (f a) (f u) ≠ f (m1 a u))) (fun i hi => c1 hiz hi) (fun i hi => c1 hz hi)
      (fun i hi => by show m1 (inv1 z) (m1 z i) = i; rw [← g1.as _ _ _ hiz hz hi, z2, h1.l i hi]) (fun i hi => by show m1 z (m1 (inv1 z) i) = i; rw [← g1.as _ _ _ hz hiz hi, z1, h1.l i hi])
  obtain ⟨hix, x1, x2⟩ := i1 x hx
  have o1 : sm n (fun z => sm n fun y => ind (m2 (f (m1 x z)) (f (m1 (inv1 z) y)) ≠ f (m1 (m1 x z) (m1 (inv1 z) y)))) = brk n m1 m2 f := by
    rw [sm_congr fun z hz => inner (m1 x z) z hz]
    exact sm_perm (s := fun z => m1 x z) (t := fun z => m1 (inv1 x) z) (fun a => sm n fun u => ind (m2 (f a) (f u) ≠ f (m1 a u))) (fun i hi => c1 hx hi) (fun i hi => c1 hix hi)
      (fun i hi => by show m1 x (m1 (inv1 x) i) = i; rw [← g1.as _ _ _ hx hix hi, x1, h1.l i hi]) (fun i hi => by show m1 (inv1 x) (m1 x i) = i; rw [← g1.as _ _ _ hix hx hi, x2, h1.l i hi])
  have o2 : sm n (fun z => sm n fun y => ind (m2 (f z) (f (m1 (inv1 z) y)) ≠ f (m1 z (m1 (inv1 z) y)))) = brk n m1 m2 f := sm_congr fun z hz => inner z z hz
  rw [o1, o2] at s1
  omega
theorem equal_ge (g1 : Grp n m1) (g2 : Grp k m2) (h1 : IsNe n m1 e1) (h2 : IsNe k m2 e2) (i1 : InvOf n m1 e1 inv1) (i2 : InvOf k m2 e2 inv) (hf : ∀ x, x < n → f x < k) (hx : x < n) :
    n * n ≤ sm k (fun h => vts m1 m2 inv f x n h * vts m1 m2 inv f x n h) + 2 * brk n m1 m2 f := by
  have u := unlike_le g1 g2 h1 h2 i1 i2 hf hx
  have e := equal_pairs (n := n) (k := k) (vote m1 m2 inv f x) fun y hy => vote_lt g1 g2 i2 hf hx hy
  have a := pairs_all (n := n) (vote m1 m2 inv f x)
  rw [sm_congr (h := fun h => (sm n fun y => ind (vote m1 m2 inv f x y = h)) * (sm n fun y => ind (vote m1 m2 inv f x y = h))) fun h _ => by rw [vts_sm], e]
  omega
theorem cut_le (g1 : Grp n m1) (g2 : Grp k m2) (h1 : IsNe n m1 e1) (h2 : IsNe k m2 e2) (i1 : InvOf n m1 e1 inv1) (i2 : InvOf k m2 e2 inv) (hf : ∀ x, x < n → f x < k) (hx : x < n) (h : Nat) :
    vts m1 m2 inv f x n h * (n - vts m1 m2 inv f x n h) ≤ brk n m1 m2 f := by
  have u := unlike_le g1 g2 h1 h2 i1 i2 hf hx
  have c := cut_pairs (n := n) (vote m1 m2 inv f x) h _ (vts_sm h)
  omega
end
def dif (f g : Nat → Nat) (x : Nat) : Nat := ind (f x ≠ g x)
section
variable {n k : Nat} {m1 m2 : Nat → Nat → Nat} {e1 e2 : Nat} {inv1 inv f g : Nat → Nat}
theorem dif_row (g1 : Grp n m1) (h1 : IsNe n m1 e1) (i1 : InvOf n m1 e1 inv1) {x : Nat} (hx : x < n) : sm n (fun y => dif f g (m1 x y)) = sm n (dif f g) := by
  obtain ⟨hi, a, b⟩ := i1 x hx
  exact sm_perm (s := fun y => m1 x y) (t := fun y => m1 (inv1 x) y) (dif f g) (fun y hy => g1.cl _ _ hx hy) (fun y hy => g1.cl _ _ hi hy)
    (fun y hy => by show m1 x (m1 (inv1 x) y) = y; rw [← g1.as _ _ _ hx hi hy, a, h1.l y hy]) (fun y hy => by show m1 (inv1 x) (m1 x y) = y; rw [← g1.as _ _ _ hi hx hy, b, h1.l y hy])
theorem dif_col (g1 : Grp n m1) (h1 : IsNe n m1 e1) (i1 : InvOf n m1 e1 inv1) {y : Nat} (hy : y < n) : sm n (fun x => dif f g (m1 x y)) = sm n (dif f g) := by
  obtain ⟨hi, a, b⟩ := i1 y hy
  exact sm_perm (s := fun x => m1 x y) (t := fun x => m1 x (inv1 y)) (dif f g) (fun x hx => g1.cl _ _ hx hy) (fun x hx => g1.cl _ _ hx hi)
    (fun x hx => by show m1 (m1 x (inv1 y)) y = x; rw [g1.as _ _ _ hx hi hy, b, h1.r x hx]) (fun x hx => by show m1 (m1 x y) (inv1 y) = x; rw [g1.as _ _ _ hx hy hi, a, h1.r x hx])
theorem vts_ge (g1 : Grp n m1) (g2 : Grp k m2) (h1 : IsNe n m1 e1) (h2 : IsNe k m2 e2) (i1 : InvOf n m1 e1 inv1) (i2 : InvOf k m2 e2 inv) (hf : ∀ x, x < n → f x < k) (hgk : ∀ x, x < n → g x < k) (hg : Hom n m1 m2 g) {x : Nat} (hx : x < n) :
    n ≤ vts m1 m2 inv f x n (g x) + 2 * sm n (dif f g) := by
  have key : ∀ y, y < n → 1 ≤ ind (vote m1 m2 inv f x y = g x) + dif f g y + dif f g (m1 x y) := fun y hy => by
    by_cases a : f y = g y
    · by_cases b : f (m1 x y) = g (m1 x y)
      · have v : vote m1 m2 inv f x y = g x := by
          unfold vote
          obtain ⟨iy, p, _⟩ := i2 _ (hf y hy)
          rw [b, hg x y hx hy, ← a, g2.as _ _ _ (hgk x hx) (hf y hy) iy, p, h2.r _ (hgk x hx)]
        unfold ind
        rw [if_pos v]
        omega
      · have : dif f g (m1 x y) = 1 := by
          unfold dif ind
          rw [if_pos b]
        omega
    · have : dif f g y = 1 := by
        unfold dif ind
        rw [if_pos a]
      omega
  have s := sm_le (n := n) (g := fun _ => 1) (h := fun y => ind (vote m1 m2 inv f x y = g x) + dif f g y + dif f g (m1 x y)) key
  rw [sm_const, sm_add, sm_add, dif_row g1 h1 i1 hx, ← vts_sm] at s
  omega
theorem brk_ge (g1 : Grp n m1) (g2 : Grp k m2) (h1 : IsNe n m1 e1) (h2 : IsNe k m2 e2) (i1 : InvOf n m1 e1 inv1) (i2 : InvOf k m2 e2 inv) (hf : ∀ x, x < n → f x < k) (hgk : ∀ x, x < n → g x < k) (hg : Hom n m1 m2 g) :
    3 * (sm n (dif f g) * n) ≤ brk n m1 m2 f + 6 * (sm n (dif f g) * sm n (dif f g)) := by
  have cR : ∀ a b c, a < k → b < k → c < k → m2 a c = m2 b c → a = b := fun a b c ha hb hc e => by
    obtain ⟨hi, p, _⟩ := i2 c hc
    have q : m2 (m2 a c) (inv c) = m2 (m2 b c) (inv c) := congrArg (fun z => m2 z (inv c)) e
    rw [g2.as _ _ _ ha hc hi, g2.as _ _ _ hb hc hi, p, h2.r a ha, h2.r b hb] at q
    exact q
  have cL : ∀ a b c, a < k → b < k → c < k → m2 c a = m2 c b → a = b := fun a b c ha hb hc e => by
    obtain ⟨hi, _, p⟩ := i2 c hc
    have q : m2 (inv c) (m2 c a) = m2 (inv c) (m2 c b) := congrArg (fun z => m2 (inv c) z) e
    rw [← g2.as _ _ _ hi hc ha, ← g2.as _ _ _ hi hc hb, p, h2.l a ha, h2.l b hb] at q
    exact q
  have key : ∀ x, x < n → ∀ y, y < n → dif f g x + dif f g y + dif f g (m1 x y) ≤ ind (m2 (f x) (f y) ≠ f (m1 x y)) + 2 * (dif f g x * dif f g y + dif f g x * dif f g (m1 x y) + dif f g y * dif f g (m1 x y)) := fun x hx y hy => by
    have hxy := hg x y hx hy
    unfold dif
    by_cases a : f x = g x
    · by_cases b : f y = g y
      · by_cases c : f (m1 x y) = g (m1 x y)
        · unfold ind; simp [a, b, c]
        · have : m2 (f x) (f y) ≠ f (m1 x y) := fun z => c (by rw [← z, hxy, a, b])
          unfold ind; simp [a, b, c]
          rw [a, b] at this
          simp [this]
      · by_cases c : f (m1 x y) = g (m1 x y)
        · have : m2 (f x) (f y) ≠ f (m1 x y) := fun z => b (by
            rw [c, hxy, a] at z
            exact cL _ _ _ (hf y hy) (hgk y hy) (hgk x hx) z)
          unfold ind; rw [if_pos this]; simp [a, b, c]
        · unfold ind; simp [a, b, c]
    · by_cases b : f y = g y
      · by_cases c : f (m1 x y) = g (m1 x y)
        · have : m2 (f x) (f y) ≠ f (m1 x y) := fun z => a (by
            rw [c, hxy, b] at z
            exact cR _ _ _ (hf x hx) (hgk x hx) (hgk y hy) z)
          unfold ind; rw [if_pos this]; simp [a, b, c]
        · unfold ind; simp [a, b, c]
      · by_cases c : f (m1 x y) = g (m1 x y)
        · unfold ind; simp [a, b, c]
        · unfold ind; simp [a, b, c]
  have s := sm_le (n := n) (g := fun x => sm n fun y => dif f g x + dif f g y + dif f g (m1 x y))
    (h := fun x => sm n fun y => ind (m2 (f x) (f y) ≠ f (m1 x y)) + 2 * (dif f g x * dif f g y + dif f g x * dif f g (m1 x y) + dif f g y * dif f g (m1 x y))) (fun x hx => sm_le (fun y hy => key x hx y hy))
  have eL : sm n (fun x => sm n fun y => dif f g x + dif f g y + dif f g (m1 x y)) = 3 * (sm n (dif f g) * n) := by
    rw [sm_congr (h := fun x => n * dif f g x + (sm n (dif f g) + sm n (dif f g))) fun x hx => by
      rw [sm_add, sm_add, sm_const, dif_row g1 h1 i1 hx, Nat.add_assoc]]
    rw [sm_add, sm_const, sm_mul, Nat.mul_add, Nat.mul_comm (sm n (dif f g)) n]
    omega
  have eR : sm n (fun x => sm n fun y => ind (m2 (f x) (f y) ≠ f (m1 x y)) + 2 * (dif f g x * dif f g y + dif f g x * dif f g (m1 x y) + dif f g y * dif f g (m1 x y))) = brk n m1 m2 f + 6 * (sm n (dif f g) * sm n (dif f g)) := by
    rw [sm_congr (h := fun x => (sm n fun y => ind (m2 (f x) (f y) ≠ f (m1 x y))) + 2 * (dif f g x * sm n (dif f g) + dif f g x * sm n (dif f g) + sm n fun y => dif f g y * dif f g (m1 x y))) fun x hx => by
      rw [sm_add, sm_mul, sm_add, sm_add, sm_mul, sm_mul, dif_row g1 h1 i1 hx]]
    have e3 : (sm n fun x => sm n fun y => dif f g y * dif f g (m1 x y)) = sm n (dif f g) * sm n (dif f g) := by
      rw [sm_comm, sm_congr (h := fun y => dif f g y * sm n (dif f g)) (fun y hy => by rw [sm_mul, dif_col g1 h1 i1 hy]), sm_mulR]
    rw [sm_add, sm_mul, sm_add, sm_add, sm_mulR, e3]
    show brk n m1 m2 f + _ = _
    omega
  rw [eL, eR] at s
  exact s
theorem vts_two {x h h' : Nat} (ne : h ≠ h') : vts m1 m2 inv f x n h + vts m1 m2 inv f x n h' ≤ n := by
  rw [vts_sm, vts_sm, ← sm_add]
  have s := sm_le (n := n) (g := fun y => ind (vote m1 m2 inv f x y = h) + ind (vote m1 m2 inv f x y = h')) (h := fun _ => 1) (fun y _ => by
    unfold ind
    by_cases a : vote m1 m2 inv f x y = h
    · rw [if_pos a, if_neg (fun b => ne (a.symm.trans b))]
      omega
    · rw [if_neg a]
      split <;> omega)
  rw [sm_const] at s
  omega
theorem am_of {x : Nat} {j : Nat} (hj : j < k) (h : n < 2 * vts m1 m2 inv f x n j) : IsAm k (vts m1 m2 inv f x n) j := by
  refine ⟨hj, fun i _ => ?_, fun i hi => ?_⟩
  · by_cases c : i = j
    · rw [c]
      exact Nat.le_refl _
    · have := vts_two (n := n) (m1 := m1) (m2 := m2) (inv := inv) (f := f) (x := x) c
      omega
  · have := vts_two (n := n) (m1 := m1) (m2 := m2) (inv := inv) (f := f) (x := x) (show i ≠ j by omega)
    omega
end
end G
end
section
set_option Elab.async false
set_option linter.all false
/-! what is reached from e by S, on the right -/
namespace G
inductive Rch (m : Nat → Nat → Nat) (e : Nat) (S : List Nat) : Nat → Prop
  | base : Rch m e S e
  | step {x s : Nat} : Rch m e S x → s ∈ S → Rch m e S (m x s)
section
variable {n e : Nat} {m : Nat → Nat → Nat} {S : List Nat}
theorem Rch.lt (g : Grp n m) (he : IsNe n m e) (hS : ∀ s ∈ S, s < n) {x : Nat} (r : Rch m e S x) : x < n := by
  induction r with
  | base => exact he.lt
  | step _ hs ih => exact g.cl _ _ ih (hS _ hs)
theorem Rch.mul (g : Grp n m) (he : IsNe n m e) (hS : ∀ s ∈ S, s < n) {x y : Nat} (rx : Rch m e S x) (ry : Rch m e S y) : Rch m e S (m x y) := by
  induction ry with
  | base => rw [he.r x (rx.lt g he hS)]; exact rx
  | step r hs ih =>
    rw [← g.as _ _ _ (rx.lt g he hS) (r.lt g he hS) (hS _ hs)]
    exact .step ih hs
theorem Rch.mem (he : IsNe n m e) (hS : ∀ s ∈ S, s < n) {s : Nat} (h : s ∈ S) : Rch m e S s := by
  have := Rch.step (m := m) (e := e) (S := S) .base h
  rwa [he.l s (hS s h)] at this
theorem Rch.more {S' : List Nat} (h : ∀ s ∈ S, s ∈ S') {x : Nat} (r : Rch m e S x) : Rch m e S' x := by
  induction r with
  | base => exact .base
  | step _ hs ih => exact .step ih (h _ hs)
theorem Rch.pw (g : Grp n m) (he : IsNe n m e) (hS : ∀ s ∈ S, s < n) {x : Nat} (r : Rch m e S x) : ∀ k, Rch m e S (pw m e x k)
  | 0 => .base
  | k + 1 => Rch.mul g he hS (Rch.pw g he hS r k) r
theorem Rch.inv (g : Grp n m) (he : IsNe n m e) (hS : ∀ s ∈ S, s < n) {x : Nat} (r : Rch m e S x) : ∃ y, Rch m e S y ∧ m x y = e := by
  have hx := r.lt g he hS
  obtain ⟨k, o⟩ := ord_ex g he hx
  have k0 := o.pos
  refine ⟨G.pw m e x (k - 1), Rch.pw g he hS r _, ?_⟩
  have a := pw_add g he hx 1 (k - 1)
  rw [pw_one he hx, show 1 + (k - 1) = k by omega, o.at_] at a
  exact a.symm
/-- with one more that is not reached, twice as many are reached -/
theorem twice {A B : List Nat} {x : Nat} (g : Grp n m) (he : IsNe n m e) (hS : ∀ s ∈ S, s < n) (hx : x < n) (ndA : A.Nodup) (mA : ∀ y, y ∈ A ↔ Rch m e S y) (mB : ∀ y, y ∈ B ↔ Rch m e (S ++ [x]) y) (nx : x ∉ A) : 2 * A.length ≤ B.length := by
  have hS2 : ∀ s ∈ S ++ [x], s < n := fun s hs => by
    rcases List.mem_append.mp hs with h | h
    · exact hS s h
    · rw [List.mem_singleton.mp h]; exact hx
  have lA : ∀ y ∈ A, y < n := fun y hy => ((mA y).mp hy).lt g he hS
  have cl : ∀ a b c, a < n → b < n → c < n → m c a = m c b → a = b := fun a b c ha hb hc q => by
    obtain ⟨e', he', hi⟩ := g.ne
    obtain ⟨d, hd, d1, d2⟩ := hi c hc
    have := congrArg (m d) q
    rw [← g.as _ _ _ hd hc ha, ← g.as _ _ _ hd hc hb, d2, he'.l a ha, he'.l b hb] at this
    exact this
  have nd : (A ++ A.map (m x)).Nodup := by
    rw [List.nodup_append]
    refine ⟨ndA, ?_, fun a ha b hb q => ?_⟩
    · refine List.pairwise_map.mpr (List.Pairwise.imp_of_mem ?_ ndA)
      intro a b ha hb ne q
      exact ne (cl a b x (lA a ha) (lA b hb) hx q)
    · obtain ⟨c, hc, rfl⟩ := List.mem_map.mp hb
      obtain ⟨d, rd, ed⟩ := ((mA c).mp hc).inv g he hS
      apply nx
      rw [mA]
      have := Rch.mul g he hS ((mA a).mp ha) rd
      rw [q, g.as x c d hx (lA c hc) (rd.lt g he hS), ed, he.r x hx] at this
      exact this
  have sub : ∀ y ∈ A ++ A.map (m x), y ∈ B := fun y hy => by
    rw [mB]
    rcases List.mem_append.mp hy with h | h
    · exact ((mA y).mp h).more fun s hs => List.mem_append_left _ hs
    · obtain ⟨c, hc, rfl⟩ := List.mem_map.mp h
      exact Rch.mul g he hS2 (Rch.mem he hS2 (by simp)) (((mA c).mp hc).more fun s hs => List.mem_append_left _ hs)
  have := List.Nodup.length_le_of_subset nd (l₂ := B) sub
  rw [List.length_append, List.length_map] at this
  omega
end
end G
end
section
set_option Elab.async false
set_option linter.all false
set_option maxRecDepth 100000
namespace Wk
open PySem PySem.Spec PyProof.Rows L2
local macro_rules | `(tactic| walk_at "hp") => `(tactic| first | assumption | exact upd_same | exact (upd_ne (ne_of_none (by assumption) (by assumption))).trans (by assumption) | (rw [upd_ne (by first | assumption | exact Ne.symm (by assumption))]; walk_at "hp"))
local macro_rules | `(tactic| walk_at "sq") => `(tactic| first | assumption | exact SqL.of (by assumption) | exact SqT.of (by assumption) | exact SqL.of (by walk_at "hp") | exact SqT.of (by walk_at "hp") | (refine Same.seq ?_ ?_ <;> assumption))
local macro_rules | `(tactic| walk_at "cmul") => `(tactic| first | exact .inr ⟨by decide, by decide⟩ | exact .inl ⟨by decide, by decide⟩ | exact .inr ⟨by omega, by omega⟩ | exact .inl ⟨by omega, by omega⟩)
local macro_rules | `(tactic| walk_at "cdiv") => `(tactic| first | exact ⟨by decide, by decide⟩ | exact wide_div (b := 64) (by omega) (by omega) (by decide) (by decide) | exact wide_div (b := 128) (by omega) (by omega) (by decide) (by decide))
local macro_rules | `(tactic| walk_at "rd1") => `(tactic| first
  | ((with_reducible show tVar _ _ _ _); refine Wk.r_var rfl ?_)
  | (with_reducible first
    | refine Wk.r_c ?_ | refine Wk.r_op ?_ | refine Wk.r_cons ?_ | refine Wk.r_nil ?_
    | refine Wk.r_seq ?_ | refine Wk.r_next ?_ | refine Wk.r_set ?_ | refine Wk.r_asgS ?_ | refine Wk.r_ret ?_ | refine Wk.r_drop ?_ | refine Wk.r_if ?_
    | refine Wk.r_asgG ?_ | refine Wk.r_gName ?_ | refine Wk.r_gCons ?_ | refine Wk.r_gNil ?_ | refine Wk.r_par ?_ | refine Wk.r_par3 ?_ | refine Wk.r_lstRg1 ?_ | refine Wk.r_tupRg1 ?_ | refine ⟨_, _, _, rfl, ?_⟩ | refine Wk.r_un ?_ | refine Wk.r_I0 ?_ | refine Wk.r_U ?_
    | refine Wk.r_test ?_ | refine Wk.r_B ?_ | refine Wk.r_k ?_ | refine Wk.r_not ?_ | refine Wk.r_and ?_ | refine Wk.r_or ?_ | refine Wk.r_andV ?_ | refine Wk.r_orV ?_ | refine Wk.r_notV ?_
    | refine Wk.r_CB ?_ | refine Wk.r_chain ?_ | refine Wk.r_fld ?_ | refine Wk.r_sfld ?_ | refine Wk.r_lst ?_ | refine Wk.r_tup ?_ | refine Wk.r_call ?_ | refine Wk.r_BM ?_ | refine Wk.r_BM0 ?_ | refine Wk.r_T ?_ | refine Wk.r_nT ?_ | refine Wk.r_nF ?_ | refine Wk.r_F ?_
    | refine Or.inl ⟨_, rfl, ?_⟩ | refine Or.inr ⟨_, rfl, ?_⟩ | refine ⟨_, rfl, ?_⟩ | refine ⟨_, _, rfl, ?_⟩)
  | ((with_reducible refine Wk.r_eq ?c0 ?_); (case c0 => rfl)) | ((with_reducible refine Wk.r_ne ?c0 ?_); (case c0 => rfl))
  | ((with_reducible refine Wk.r_pow ?c0 ?_); (case c0 => exact ⟨by decide, by decide, by decide⟩))
  | ((with_reducible refine Wk.r_mul ?c0 ?_); (case c0 => walk_at "cmul")) | ((with_reducible refine Wk.r_mod ?c0 ?_); (case c0 => first | decide | omega)) | ((with_reducible refine Wk.r_div ?c0 ?_); (case c0 => walk_at "cdiv"))
  | ((with_reducible refine Wk.r_new ?c0 ?_); (case c0 => (simp only [List.length_cons, List.length_nil]; omega)))
  | ((with_reducible show gTup _ _ _ _ _ _ _); refine Wk.r_gTup (by walk_at "sq") (by rfl) ?_)
  | (refine Wk.r_tyL (by walk_at "hp") ?_)
  | ((with_reducible show rSetL _ _ _ _ _); refine Wk.r_setL (by walk_at "hp") (by rfl) ?_)
  | ((with_reducible show rIxL _ _ _ _ _); refine Wk.r_ixL (by walk_at "sq") (by rfl) ?_) | ((with_reducible show rIxT _ _ _ _ _); refine Wk.r_ixT (by walk_at "sq") (by rfl) ?_)
  | ((with_reducible show rLenOf _ _ _ _); first | refine Wk.n_lenL (by walk_at "sq") ?_ | refine Wk.n_lenT (by walk_at "sq") ?_)
  | ((with_reducible show rListOf _ _ _ _); first | refine Wk.n_listL (by walk_at "sq") ?_ | refine Wk.n_listT (by walk_at "sq") ?_)
  | ((with_reducible show rTupZ _ _ _ _); first | refine Wk.z_tupL (by walk_at "sq") ?_ | refine Wk.z_tupT (by walk_at "sq") ?_)
  | ((with_reducible show rTupOf _ _ _ _); first | refine Wk.n_tupL (by walk_at "sq") ?_ | refine Wk.n_tupT (by walk_at "sq") ?_))
local macro_rules | `(tactic| walk_at "rd") => `(tactic| repeat (walk_at "rd1"))
local macro_rules | `(tactic| walk_at "rd1") => `(tactic| (with_reducible first | refine Wk.r_dget ?_ | refine Wk.r_din ?_ | refine Wk.r_dnotin ?_ | refine Wk.r_dput ?_ | refine Wk.r_pairs ?_ | refine Wk.r_pairs0 ?_ | refine Wk.r_sl ?_ | refine Wk.r_part ?_ | refine Wk.r_nopart ?_ | refine Wk.r_augS ?_ | refine Wk.r_ipI ?_ | refine Wk.r_aug rfl ?_ | refine Wk.r_revT ?_))

section
variable {P : Program} {w : World} {K : PySem.W.Frag} {mg : Str → Option Value} {base : Heap}
theorem given_len (n : Nat) (p : Nat → Bool) (v : Nat → V) : (Evl.given n p v).length = G.sm n fun i => G.ind (p i = true) := by
  unfold Evl.given
  rw [List.length_map, G.sm_filter]
/-- the broken pairs of the row x -/
def brow (n : Nat) (m1 m2 : Nat → Nat → Nat) (f : Nat → Nat) (x : Nat) : Nat := G.sm n fun y => G.ind (m2 (f x) (f y) ≠ f (m1 x y))
theorem brow_p {n : Nat} {m1 m2 : Nat → Nat → Nat} {f : Nat → Nat} {x : Nat} : (G.sm n fun y => G.ind ((!decide (m2 (f x) (f y) = f (m1 x y))) = true)) = brow n m1 m2 f x :=
  G.sm_congr fun y _ => G.ind_iff (by simp)
theorem int_decN {a b : Nat} : (!decide (V.int (a : Int) = V.int (b : Int))) = !decide (a = b) := by rw [int_dec]
def spBrk (K : PySem.W.Frag) (C : Addr) : Sp := fun vs H Q _ => ∃ (g1 g2 t n k : Nat) (m1 m2 : Nat → Nat → Nat) (f : Nat → Nat), vs = [.ref g1, .ref g2, .ref t] ∧ GrpO K C H g1 n m1 ∧ GrpO K C H g2 k m2 ∧ MapT K H t n k f ∧ ∀ H', Same H H' → Q (.int (G.brk n m1 m2 f : Nat)) H'
theorem lt_nat {a b : Nat} : decide ((a : Int) < (b : Int)) = decide (a < b) := decide_eq_decide.mpr Int.ofNat_lt
theorem sure_dec {B n : Nat} : decide ((9 : Int) * (B : Int) < 2 * (n : Int) * (n : Int)) = decide (9 * B < 2 * n * n) := by
  have e1 : (9 : Int) * (B : Int) = ((9 * B : Nat) : Int) := by omega
  have e2 : (2 : Int) * (n : Int) = ((2 * n : Nat) : Int) := by omega
  rw [e1, e2, ← Int.natCast_mul, lt_nat]
theorem _root_.G.brk_le {n : Nat} {m1 m2 : Nat → Nat → Nat} {f : Nat → Nat} : G.brk n m1 m2 f ≤ n * n := by
  unfold G.brk
  refine Nat.le_trans (G.sm_le (h := fun _ => n) fun i _ => ?_) (Nat.le_of_eq (G.sm_const n n))
  refine Nat.le_trans (G.sm_le (h := fun _ => 1) fun j _ => G.ind_le _) ?_
  rw [G.sm_const, Nat.mul_one]
  exact Nat.le_refl _
theorem sq_le {n b : Nat} (h : n ≤ b) : n * n ≤ b * b := Nat.mul_le_mul h h
def spSure (K : PySem.W.Frag) (C : Addr) : Sp := fun vs H Q _ => ∃ (g1 g2 t n k : Nat) (m1 m2 : Nat → Nat → Nat) (f : Nat → Nat), vs = [.ref g1, .ref g2, .ref t] ∧ GrpO K C H g1 n m1 ∧ GrpO K C H g2 k m2 ∧ MapT K H t n k f ∧ ∀ H', Same H H' → Q (.bl (decide (9 * G.brk n m1 m2 f < 2 * n * n))) H'
def spHomOf (K : PySem.W.Frag) (C : Addr) : Sp := fun vs H Q _ => ∃ (g1 g2 t n k : Nat) (m1 m2 : Nat → Nat → Nat) (e2 : Nat) (inv f V : Nat → Nat), vs = [.ref g1, .ref g2, .ref t] ∧ Mp K C H g1 g2 t n k m1 m2 e2 inv f ∧ Vtd n k m1 m2 inv f V ∧ 9 * G.brk n m1 m2 f < 2 * n * n ∧
  ∀ H' u, Same H H' → MapT K H' u n k V → Q (.ref u) H'
def spHomX (K : PySem.W.Frag) (C CU : Addr) : Sp := fun vs H _ E => ∃ (g1 g2 t n k : Nat) (m1 m2 : Nat → Nat → Nat) (f : Nat → Nat), vs = [.ref g1, .ref g2, .ref t] ∧ GrpO K C H g1 n m1 ∧ GrpO K C H g2 k m2 ∧ MapT K H t n k f ∧ ¬ 9 * G.brk n m1 m2 f < 2 * n * n ∧
  ∀ H' d, Same H H' → H' d = none → E (.ref CU) (some d) (upd H' d (.xd [("what", .str "hom")]))
end
end Wk
end
section
set_option Elab.async false
set_option linter.all false
set_option maxRecDepth 100000
namespace Wk
open PySem PySem.Spec PyProof.Rows L2
local macro_rules | `(tactic| walk_at "hp") => `(tactic| first | assumption | exact upd_same | exact (upd_ne (ne_of_none (by assumption) (by assumption))).trans (by assumption) | (rw [upd_ne (by first | assumption | exact Ne.symm (by assumption))]; walk_at "hp"))
local macro_rules | `(tactic| walk_at "sq") => `(tactic| first | assumption | exact SqL.of (by assumption) | exact SqT.of (by assumption) | exact SqL.of (by walk_at "hp") | exact SqT.of (by walk_at "hp") | (refine Same.seq ?_ ?_ <;> assumption))
local macro_rules | `(tactic| walk_at "cmul") => `(tactic| first | exact .inr ⟨by decide, by decide⟩ | exact .inl ⟨by decide, by decide⟩ | exact .inr ⟨by omega, by omega⟩ | exact .inl ⟨by omega, by omega⟩)
local macro_rules | `(tactic| walk_at "cdiv") => `(tactic| first | exact ⟨by decide, by decide⟩ | exact wide_div (b := 64) (by omega) (by omega) (by decide) (by decide) | exact wide_div (b := 128) (by omega) (by omega) (by decide) (by decide))
local macro_rules | `(tactic| walk_at "rd1") => `(tactic| first
  | ((with_reducible show tVar _ _ _ _); refine Wk.r_var rfl ?_)
  | (with_reducible first
    | refine Wk.r_c ?_ | refine Wk.r_op ?_ | refine Wk.r_cons ?_ | refine Wk.r_nil ?_
    | refine Wk.r_seq ?_ | refine Wk.r_next ?_ | refine Wk.r_set ?_ | refine Wk.r_asgS ?_ | refine Wk.r_ret ?_ | refine Wk.r_drop ?_ | refine Wk.r_if ?_
    | refine Wk.r_asgG ?_ | refine Wk.r_gName ?_ | refine Wk.r_gCons ?_ | refine Wk.r_gNil ?_ | refine Wk.r_par ?_ | refine Wk.r_par3 ?_ | refine Wk.r_lstRg1 ?_ | refine Wk.r_tupRg1 ?_ | refine ⟨_, _, _, rfl, ?_⟩ | refine Wk.r_un ?_ | refine Wk.r_I0 ?_ | refine Wk.r_U ?_
    | refine Wk.r_test ?_ | refine Wk.r_B ?_ | refine Wk.r_k ?_ | refine Wk.r_not ?_ | refine Wk.r_and ?_ | refine Wk.r_or ?_ | refine Wk.r_andV ?_ | refine Wk.r_orV ?_ | refine Wk.r_notV ?_
    | refine Wk.r_CB ?_ | refine Wk.r_chain ?_ | refine Wk.r_fld ?_ | refine Wk.r_sfld ?_ | refine Wk.r_lst ?_ | refine Wk.r_tup ?_ | refine Wk.r_call ?_ | refine Wk.r_BM ?_ | refine Wk.r_BM0 ?_ | refine Wk.r_T ?_ | refine Wk.r_nT ?_ | refine Wk.r_nF ?_ | refine Wk.r_F ?_
    | refine Or.inl ⟨_, rfl, ?_⟩ | refine Or.inr ⟨_, rfl, ?_⟩ | refine ⟨_, rfl, ?_⟩ | refine ⟨_, _, rfl, ?_⟩)
  | ((with_reducible refine Wk.r_eq ?c0 ?_); (case c0 => rfl)) | ((with_reducible refine Wk.r_ne ?c0 ?_); (case c0 => rfl))
  | ((with_reducible refine Wk.r_pow ?c0 ?_); (case c0 => exact ⟨by decide, by decide, by decide⟩))
  | ((with_reducible refine Wk.r_mul ?c0 ?_); (case c0 => walk_at "cmul")) | ((with_reducible refine Wk.r_mod ?c0 ?_); (case c0 => first | decide | omega)) | ((with_reducible refine Wk.r_div ?c0 ?_); (case c0 => walk_at "cdiv"))
  | ((with_reducible refine Wk.r_new ?c0 ?_); (case c0 => (simp only [List.length_cons, List.length_nil]; omega)))
  | ((with_reducible show gTup _ _ _ _ _ _ _); refine Wk.r_gTup (by walk_at "sq") (by rfl) ?_)
  | (refine Wk.r_tyL (by walk_at "hp") ?_)
  | ((with_reducible show rSetL _ _ _ _ _); refine Wk.r_setL (by walk_at "hp") (by rfl) ?_)
  | ((with_reducible show rIxL _ _ _ _ _); refine Wk.r_ixL (by walk_at "sq") (by rfl) ?_) | ((with_reducible show rIxT _ _ _ _ _); refine Wk.r_ixT (by walk_at "sq") (by rfl) ?_)
  | ((with_reducible show rLenOf _ _ _ _); first | refine Wk.n_lenL (by walk_at "sq") ?_ | refine Wk.n_lenT (by walk_at "sq") ?_)
  | ((with_reducible show rListOf _ _ _ _); first | refine Wk.n_listL (by walk_at "sq") ?_ | refine Wk.n_listT (by walk_at "sq") ?_)
  | ((with_reducible show rTupZ _ _ _ _); first | refine Wk.z_tupL (by walk_at "sq") ?_ | refine Wk.z_tupT (by walk_at "sq") ?_)
  | ((with_reducible show rTupOf _ _ _ _); first | refine Wk.n_tupL (by walk_at "sq") ?_ | refine Wk.n_tupT (by walk_at "sq") ?_))
local macro_rules | `(tactic| walk_at "rd") => `(tactic| repeat (walk_at "rd1"))
local macro_rules | `(tactic| walk_at "rd1") => `(tactic| (with_reducible first | refine Wk.r_dget ?_ | refine Wk.r_din ?_ | refine Wk.r_dnotin ?_ | refine Wk.r_dput ?_ | refine Wk.r_pairs ?_ | refine Wk.r_pairs0 ?_ | refine Wk.r_sl ?_ | refine Wk.r_part ?_ | refine Wk.r_nopart ?_ | refine Wk.r_augS ?_ | refine Wk.r_ipI ?_ | refine Wk.r_aug rfl ?_ | refine Wk.r_revT ?_))

section
variable {P : Program} {w : World} {K : PySem.W.Frag} {mg : Str → Option Value} {base : Heap}
def spLNeuG : Sp := fun vs H Q _ => ∃ (a n e : Nat) (m : Nat → Nat → Nat), vs = [.ref a] ∧ GL H a n m ∧ n ≤ 48 ∧ G.Grp n m ∧ G.IsNe n m e ∧ Q (.int (e : Int)) H
theorem k__law_neutral (T : Txt mg) (a : At K mg "_law_neutral" s__law_neutral ["table"]) : Keep P w K mg base 1 "_law_neutral" ["table"] spLNeuG := by
  refine Keep.of a sc__law_neutral (fun vs H Q E h => ?_) (fun fa cdv A outer s H vs Q E hr h => ?_)
  · obtain ⟨_, _, _, _, rfl, _⟩ := h
    rfl
  · obtain ⟨a, n, e, m, rfl, gl, hn, g, he, kk⟩ := h
    obtain ⟨L, hL, len, rL⟩ := gl.get
    refine ⟨_, (pss_cons (ps_for PassesOwn.never rfl (pi_range1 (by rfl) T.n_range (pa_cons (pe_callB (c_len K) (by rfl) T.n_len (by decide +kernel) (pa_cons (pv 0) pa_nil)) pa_nil)) (pg_name (i := 1) sc__law_neutral.nd rfl (by first | exact Or.inl rfl | exact Or.inr rfl)) (pss_one (ps_if (pt_cmpR op_eq (pe_ix (x_list K) (pe_ix (x_list K) (pv 0) (pv 1) (fun _ _ => rfl)) (pv 1) (fun _ _ => rfl)) (pv 1) (nomark _)) (pss_one (ps_ret (pv 1))) pss_nil)))
    (pss_one (ps_ret pe_int))), ?_⟩
    walk_at "rd"
    refine f_rng (n := n) (fun i σ' H' => ∃ v1 : Option V, σ' = [some (.ref a), v1] ∧ H' = H ∧ i ≤ e) (by omega) (fun R' h => ?_) ⟨_, rfl, rfl, Nat.zero_le _⟩ ?_ ?_
    · walk_at "rd"
      rw [len]
      exact h
    · rintro i σ' H' hi ⟨v1, rfl, rfl, hie⟩ N B R hN hB hRt
      obtain ⟨b, e1, e2⟩ := rL i hi
      walk_at "rd"
      refine Wk.r_ixL (SqL.of hL) (at_n e1) ?_
      walk_at "rd"
      refine Wk.r_ixL (SqL.of e2) (at_n (rowV_get hi)) ?_
      walk_at "rd"
      refine r_ifI (fun c => ?_) (fun c => ?_)
      · walk_at "rd"
        have ei : i = e := G.cancel g he hi hi (by omega)
        subst ei
        exact hRt _ _ kk
      · walk_at "rd"
        refine hN _ _ ⟨_, rfl, rfl, ?_⟩
        have : i ≠ e := fun q => by
          subst q
          exact c (by rw [he.l i he.lt])
        omega
    · rintro σ' H' ⟨v1, rfl, rfl, hie⟩
      exact absurd he.lt (by omega)
/-- a list of what is reached -/
def spGenG : Sp := fun vs H Q _ => ∃ (a b n e : Nat) (m : Nat → Nat → Nat) (S : List Nat), vs = [.ref a, .ref b] ∧ GL H a n m ∧ n ≤ 48 ∧ G.Grp n m ∧ G.IsNe n m e ∧ H b = some (.lst (natL S)) ∧ (∀ s ∈ S, s < n) ∧ S.length ≤ 1000 ∧
  ∀ H' c A, Same H H' → H c = none → H' c = some (.lst (natL A)) → A.Nodup → (∀ x, x ∈ A ↔ G.Rch m e S x) → Q (.ref c) H'
/-- the first i of A are done -/
structure Gen (n e : Nat) (m : Nat → Nat → Nat) (S A : List Nat) (i : Nat) : Prop where
  nd : A.Nodup
  lt : ∀ x ∈ A, x < n
  e0 : e ∈ A
  rc : ∀ x ∈ A, G.Rch m e S x
  cl : ∀ (k x : Nat), k < i → A[k]? = some x → ∀ s ∈ S, m x s ∈ A
theorem Gen.all {n e : Nat} {m : Nat → Nat → Nat} {S A : List Nat} {i : Nat} (g : Gen n e m S A i) (h : A.length ≤ i) : ∀ x, x ∈ A ↔ G.Rch m e S x := fun x => ⟨g.rc x, fun r => by
  induction r with
  | base => exact g.e0
  | step _ hs ih =>
    obtain ⟨k, hk⟩ := List.mem_iff_getElem?.mp ih
    exact g.cl k _ (by have := (List.getElem?_eq_some_iff.mp hk).1; omega) hk _ hs⟩
set_option maxHeartbeats 4000000 in
theorem k__law_generated (T : Txt mg) (k__law_neutral : Keep P w K mg base 1 "_law_neutral" ["table"] spLNeuG) (a : At K mg "_law_generated" s__law_generated ["table", "gens"]) : Keep P w K mg base 2 "_law_generated" ["table", "gens"] spGenG := by
  refine Keep.of a sc__law_generated (fun vs H Q E h => ?_) (fun fa cdv A outer s H vs Q E hr h => ?_)
  · obtain ⟨_, _, _, _, _, _, rfl, _⟩ := h
    rfl
  · obtain ⟨a, b, n, e, m, S, rfl, gl, hn, g, he, hb, ltS, lenS, kk⟩ := h
    obtain ⟨L, hL, len, rL⟩ := gl.get
    refine ⟨_, (pss_cons (ps_set (i := 2) sc__law_generated.nd rfl (by first | exact Or.inl rfl | exact Or.inr rfl) (pe_lst (pa_cons (pe_k k__law_neutral (hr.mono (by decide)) (by rfl) (pa_cons (pv 0) pa_nil)) pa_nil)))
    (pss_cons (ps_for PassesOwn.never rfl (pi_range1 (by rfl) T.n_range (pa_cons (pe_callB (c_len K) (by rfl) T.n_len (by decide +kernel) (pa_cons (pv 0) pa_nil)) pa_nil)) (pg_name (i := 3) sc__law_generated.nd rfl (by first | exact Or.inl rfl | exact Or.inr rfl)) (pss_cons (ps_if (pt_cmpR op_ge (pv 3) (pe_callB (c_len K) (by rfl) T.n_len (by decide +kernel) (pa_cons (pv 2) pa_nil)) (nomark _)) (pss_one ps_break) pss_nil)
    (pss_one (ps_for PassesOwn.never rfl (i_list K (pv 1)) (pg_name (i := 4) sc__law_generated.nd rfl (by first | exact Or.inl rfl | exact Or.inr rfl)) (pss_one (ps_if (pt_cmpR (c_notIn K) (pe_ix (x_list K) (pe_ix (x_list K) (pv 0) (pe_ix (x_list K) (pv 2) (pv 3) (fun _ _ => rfl)) (fun _ _ => rfl)) (pv 4) (fun _ _ => rfl)) (pv 2) rfl) (pss_one (ps_expr (e_bm K PySem.F.plainAttrs_list PySem.F.slot_list_append PySem.F.type_list_append mt_append (pv 2) (pa_cons (pe_ix (x_list K) (pe_ix (x_list K) (pv 0) (pe_ix (x_list K) (pv 2) (pv 3) (fun _ _ => rfl)) (fun _ _ => rfl)) (pv 4) (fun _ _ => rfl)) pa_nil)))) pss_nil))))))
    (pss_one (ps_ret (pv 2))))), ?_⟩
    walk_at "rd"
    refine ⟨a, n, e, m, rfl, gl, hn, g, he, ?_⟩
    walk_at "rd"
    intro q nq
    have s0 := same_new (o := .lst [V.int (e : Int)]) nq
    walk_at "rd"
    refine f_rng (n := n) (fun i σ' H' => ∃ (v3 v4 : Option V) (A : List Nat), σ' = [some (.ref a), some (.ref b), some (.ref q), v3, v4] ∧ Same H H' ∧ H' q = some (.lst (natL A)) ∧ Gen n e m S A i) (by omega) (fun R' h => ?_) ⟨_, _, [e], rfl, s0, upd_same, ⟨by simp, fun x hx => by rw [List.mem_singleton.mp hx]; exact he.lt, by simp, fun x hx => by rw [List.mem_singleton.mp hx]; exact .base, fun k x hk => absurd hk (by omega)⟩⟩ ?_ ?_
    · have hL := s0 _ _ hL
      walk_at "rd"
      rw [len]
      exact h
    · rintro i σ' H1 hi ⟨v3, v4, A, rfl, s1, hq, gn⟩ N B R hN hB hRt
      walk_at "rd"
      rw [natL_len]
      refine r_if1 (fun c => ?_) (fun c => ?_)
      · walk_at "rd"
        refine hB _ _ ?_
        walk_at "rd"
        exact kk _ q A s1 nq hq gn.nd (gn.all (by omega))
      · have ci : i < A.length := by omega
        obtain ⟨x, hx⟩ : ∃ x, A[i]? = some x := ⟨_, List.getElem?_eq_getElem ci⟩
        have hb1 := s1 _ _ hb
        walk_at "rd"
        dsimp only
        refine f_lst (K := K) (xs := natL S) (fun j σ' H' => ∃ (v4 : Option V) (A' : List Nat), σ' = [some (.ref a), some (.ref b), some (.ref q), some (.int (i : Int)), v4] ∧ Same H H' ∧ H' q = some (.lst (natL A')) ∧ Gen n e m S A' i ∧ A'[i]? = some x ∧ ∀ (t y : Nat), t < j → S[t]? = some y → m x y ∈ A') (SqL.of hb1) (fun R' h => ?_) ⟨_, A, rfl, s1, hq, gn, hx, fun t y ht => absurd ht (by omega)⟩ (fun j σ' H' ⟨_, _, _, s, _⟩ => SqL.of (s _ _ hb)) ?_ ?_
        · walk_at "rd"
          exact h
        · rintro j yv σ' H2 hy ⟨v4, A', rfl, s2, hq2, gn2, hx2, dn⟩ N' B' R' hN' hB' hRt'
          obtain ⟨y, hyS, rfl⟩ : ∃ y : Nat, S[j]? = some y ∧ yv = .int (y : Int) := by
            unfold natL at hy
            rw [List.getElem?_map] at hy
            cases c : S[j]? with
            | none => rw [c] at hy; cases hy
            | some y => rw [c] at hy; cases hy; exact ⟨y, rfl, rfl⟩
          have hyn := ltS y (List.mem_of_getElem? hyS)
          have xA := List.mem_of_getElem? hx2
          have hxn := gn2.lt x xA
          have hL2 := s2 _ _ hL
          obtain ⟨rb, eb, hrb⟩ := rL x hxn
          have hrb := s2 _ _ hrb
          have i2 : i < A'.length := (List.getElem?_eq_some_iff.mp hx2).1
          have gx : (natL A')[i]? = some (.int (x : Int)) := by
            unfold natL
            rw [List.getElem?_map, hx2]
            rfl
          walk_at "rd"
          refine Wk.r_ixL (SqL.of hq2) (at_n gx) ?_
          refine Wk.r_ixL (SqL.of hL2) (at_n eb) ?_
          walk_at "rd"
          refine Wk.r_ixL (SqL.of hrb) (at_n (rowV_get hyn)) ?_
          walk_at "rd"
          refine n_notIn (.inl (SqL.of hq2)) rfl natL_flat ?_
          rw [inV_natL]
          walk_at "rd"
          by_cases c2 : m x y ∈ A'
          · rw [decide_eq_true c2]
            walk_at "rd"
            refine hN' _ _ ⟨_, A', rfl, s2, hq2, gn2, hx2, fun t z ht hz => ?_⟩
            by_cases et : t = j
            · subst et
              rw [hyS] at hz
              cases hz
              exact c2
            · exact dn t z (by omega) hz
          · rw [decide_eq_false c2]
            have lA := nodup_len gn2.nd gn2.lt
            walk_at "rd"
            refine Wk.r_ixL (SqL.of hq2) (at_n gx) ?_
            refine Wk.r_ixL (SqL.of hL2) (at_n eb) ?_
            walk_at "rd"
            refine Wk.r_ixL (SqL.of hrb) (at_n (rowV_get hyn)) ?_
            walk_at "rd"
            refine Wk.r_append hq2 (szlt (by rw [natL_len]; omega)) ?_
            rw [natL_snoc]
            refine hN' _ _ ⟨_, A' ++ [m x y], rfl, same_upd s2 nq, upd_same, ⟨nodup_snoc gn2.nd c2, fun z hz => ?_, List.mem_append_left _ gn2.e0, fun z hz => ?_, fun k z hk hz s' hs' => ?_⟩, by rw [List.getElem?_append_left i2]; exact hx2, fun t z ht hz => ?_⟩
            · rcases List.mem_append.mp hz with h | h
              · exact gn2.lt z h
              · rw [List.mem_singleton.mp h]; exact g.cl _ _ hxn hyn
            · rcases List.mem_append.mp hz with h | h
              · exact gn2.rc z h
              · rw [List.mem_singleton.mp h]; exact .step (gn2.rc x xA) (List.mem_of_getElem? hyS)
            · rw [List.getElem?_append_left (by omega)] at hz
              exact List.mem_append_left _ (gn2.cl k z hk hz s' hs')
            · by_cases et : t = j
              · subst et
                rw [hyS] at hz
                cases hz
                exact List.mem_append_right _ (List.mem_singleton.mpr rfl)
              · exact List.mem_append_left _ (dn t z (by omega) hz)
        · rintro σ' H2 ⟨v4, A', rfl, s2, hq2, gn2, hx2, dn⟩
          refine hN _ _ ⟨_, _, A', rfl, s2, hq2, { gn2 with cl := fun k z hk hz s' hs' => ?_ }⟩
          by_cases ek : k = i
          · subst ek
            rw [hx2] at hz
            cases hz
            obtain ⟨t, ht⟩ := List.mem_iff_getElem?.mp hs'
            exact dn t s' (by rw [natL_len]; exact (List.getElem?_eq_some_iff.mp ht).1) ht
          · exact gn2.cl k z (by omega) hz s' hs'
    · rintro σ' H1 ⟨v3, v4, A, rfl, s1, hq, gn⟩
      walk_at "rd"
      exact kk _ q A s1 nq hq gn.nd (gn.all (nodup_len gn.nd gn.lt))
/-- numbers that reach all -/
def spGensG : Sp := fun vs H Q _ => ∃ (a n e : Nat) (m : Nat → Nat → Nat), vs = [.ref a] ∧ GL H a n m ∧ n ≤ 48 ∧ G.Grp n m ∧ G.IsNe n m e ∧ ∀ H' c S, Same H H' → H c = none → H' c = some (.lst (natL S)) → S.length ≤ 8 → (∀ s ∈ S, s < n) → (∀ x, x < n → G.Rch m e S x) → Q (.ref c) H'
set_option maxHeartbeats 4000000 in
theorem k__law_generators (T : Txt mg) (k__law_generated : Keep P w K mg base 2 "_law_generated" ["table", "gens"] spGenG) (a : At K mg "_law_generators" s__law_generators ["table"]) : Keep P w K mg base 3 "_law_generators" ["table"] spGensG := by
  refine Keep.of a sc__law_generators (fun vs H Q E h => ?_) (fun fa cdv A outer s H vs Q E hr h => ?_)
  · obtain ⟨_, _, _, _, rfl, _⟩ := h
    rfl
  · obtain ⟨a, n, e, m, rfl, gl, hn, g, he, kk⟩ := h
    obtain ⟨L, hL, len, rL⟩ := gl.get
    refine ⟨_, (pss_cons (ps_set (i := 1) sc__law_generators.nd rfl (by first | exact Or.inl rfl | exact Or.inr rfl) (pe_lst pa_nil))
    (pss_cons (ps_for PassesOwn.never rfl (pi_range1 (by rfl) T.n_range (pa_cons pe_int pa_nil)) (pg_name (i := 2) sc__law_generators.nd rfl (by first | exact Or.inl rfl | exact Or.inr rfl)) (pss_cons (ps_set (i := 3) sc__law_generators.nd rfl (by first | exact Or.inl rfl | exact Or.inr rfl) (pe_k k__law_generated (hr.mono (by decide)) (by rfl) (pa_cons (pv 0) (pa_cons (pv 1) pa_nil))))
    (pss_cons (ps_if (pt_cmpR op_eq (pe_callB (c_len K) (by rfl) T.n_len (by decide +kernel) (pa_cons (pv 3) pa_nil)) (pe_callB (c_len K) (by rfl) T.n_len (by decide +kernel) (pa_cons (pv 0) pa_nil)) (nomark _)) (pss_one ps_break) pss_nil)
    (pss_one (ps_expr (e_bm K PySem.F.plainAttrs_list PySem.F.slot_list_append PySem.F.type_list_append mt_append (pv 1) (pa_cons (pe_ix (x_list K) (pe_lc (own := [("x", 4)]) rfl sc__law_generators.nd (pi_range1 (by rfl) T.n_range (pa_cons (pe_callB (c_len K) (by rfl) T.n_len (by decide +kernel) (pa_cons (pv 0) pa_nil)) pa_nil)) (blkOk_by (N := ["table", "gens", "k", "held", "x"]) (sc := defScope s__law_generators) (by decide +kernel)) (fun _ _ _ _ _ => (pg_name (i := 4) sc__law_generators.nd rfl (by first | exact Or.inl rfl | exact Or.inr rfl))) (fun _ _ _ _ _ => (pts_one (pt_cmpR (c_notIn K) (pv 4) (pv 3) rfl))) (fun _ _ _ _ _ => (pv 4))) pe_int (fun _ _ => rfl)) pa_nil)))))))
    (pss_one (ps_ret (pv 1))))), ?_⟩
    walk_at "rd"
    intro q nq
    have s0 := same_new (o := .lst []) nq
    walk_at "rd"
    refine f_rng (n := 8) (fun i σ' H' => ∃ (v2 v3 : Option V) (S : List Nat), σ' = [some (.ref a), some (.ref q), v2, v3, none] ∧ Same H H' ∧ H' q = some (.lst (natL S)) ∧ S.length = i ∧ (∀ s ∈ S, s < n) ∧ ∀ A : List Nat, A.Nodup → (∀ x, x ∈ A ↔ G.Rch m e S x) → 2 ^ i ≤ A.length) (by decide) (fun R' h => ?_) ⟨_, _, [], rfl, s0, upd_same, rfl, fun s hs => by simp at hs, fun A _ mA => by
      have := List.length_pos_of_mem ((mA e).mpr .base)
      show 1 ≤ A.length
      omega⟩ ?_ ?_
    · walk_at "rd"
      exact h
    · rintro i σ' H1 hi ⟨v2, v3, S, rfl, s1, hq, lS, ltS, big⟩ N B R hN hB hRt
      walk_at "rd"
      refine ⟨a, q, n, e, m, S, rfl, gl.mono s1, hn, g, he, hq, ltS, by omega, fun H2 c A2 s2 nc hc nd2 m2 => ?_⟩
      have hL2 := (s1.trans s2) _ _ hL
      have hq2 := s2 _ _ hq
      have lt2 : ∀ x ∈ A2, x < n := fun x hx => ((m2 x).mp hx).lt g he ltS
      walk_at "rd"
      rw [natL_len, len]
      refine r_ifI (fun c1 => ?_) (fun c1 => ?_)
      · walk_at "rd"
        refine hB _ _ ?_
        walk_at "rd"
        refine kk _ q S (s1.trans s2) nq hq2 (by omega) ltS fun x hx => (m2 x).mp ?_
        apply Classical.byContradiction
        intro nx
        have := nodup_len (nodup_snoc nd2 nx) (n := n) fun y hy => by
          rcases List.mem_append.mp hy with h | h
          · exact lt2 y h
          · rw [List.mem_singleton.mp h]; exact hx
        rw [List.length_append, List.length_singleton] at this
        omega
      · walk_at "rd"
        refine lc_rngF (n := n) (fun y => decide (y ∉ A2)) (fun y => .int (y : Int)) (by omega) (fun R' h => ?_) (fun j H3 QT hj s3 k3 => ?_) (fun j H3 Q2 hj _ s3 k3 => ?_) (fun D H3 hD s3 hL3 => ?_)
        · walk_at "rd"
          rw [len]
          exact h
        · have hc3 := s3 _ _ hc
          walk_at "rd"
          refine n_notIn (.inl (SqL.of hc3)) rfl natL_flat ?_
          rw [inV_natL]
          have e : (!decide (j ∈ A2)) = decide (j ∉ A2) := by
            by_cases c : j ∈ A2
            · rw [decide_eq_true c, decide_eq_false (fun q => q c)]; rfl
            · rw [decide_eq_false c, decide_eq_true c]; rfl
          rw [e]
          exact ⟨_, rfl, k3 _ (Same.refl _)⟩
        · walk_at "rd"
          exact k3 _ (Same.refl _)
        have lA2 := nodup_len nd2 lt2
        obtain ⟨x, hxF⟩ : ∃ x, ((List.range n).filter fun y => decide (y ∉ A2))[0]? = some x := by
          cases c : (List.range n).filter fun y => decide (y ∉ A2) with
          | cons x _ => exact ⟨x, rfl⟩
          | nil =>
            exfalso
            have sub : ∀ y ∈ List.range n, y ∈ A2 := fun y hy => by
              have := List.filter_eq_nil_iff.mp c y hy
              exact Classical.byContradiction fun q => this (decide_eq_true q)
            have := List.Nodup.length_le_of_subset (List.nodup_range (n := n)) sub
            rw [List.length_range] at this
            omega
        have hxm := List.mem_filter.mp (List.mem_of_getElem? hxF)
        have hxn := List.mem_range.mp hxm.1
        have hxA := of_decide_eq_true hxm.2
        have hq3 := s3 _ _ hq2
        walk_at "rd"
        refine Wk.r_ixL (SqL.of hL3) (at_n (i := 0) (by unfold Evl.given; rw [List.getElem?_map, hxF]; rfl)) ?_
        walk_at "rd"
        refine Wk.r_append hq3 (szlt (by rw [natL_len]; omega)) ?_
        rw [natL_snoc]
        refine hN _ _ ⟨_, _, S ++ [x], rfl, same_upd ((s1.trans s2).trans s3) nq, upd_same, by rw [List.length_append, lS]; rfl, fun s' hs' => ?_, fun B' _ mB => ?_⟩
        · rcases List.mem_append.mp hs' with h | h
          · exact ltS s' h
          · rw [List.mem_singleton.mp h]; exact hxn
        · have t := G.twice g he ltS hxn nd2 m2 mB hxA
          have b := big A2 nd2 m2
          rw [Nat.pow_succ]
          omega
    · rintro σ' H1 ⟨v2, v3, S, rfl, s1, hq, lS, ltS, big⟩
      have hF : ∀ x, x ∈ (List.range n).filter (fun x => @decide (G.Rch m e S x) (Classical.propDecidable _)) ↔ G.Rch m e S x := fun x => by
        rw [List.mem_filter, List.mem_range]
        exact ⟨fun h => @of_decide_eq_true _ (Classical.propDecidable _) h.2, fun h => ⟨h.lt g he ltS, @decide_eq_true _ (Classical.propDecidable _) h⟩⟩
      have b := big _ ((List.nodup_range (n := n)).filter _) hF
      have l := List.length_filter_le (fun x => @decide (G.Rch m e S x) (Classical.propDecidable _)) (List.range n)
      rw [List.length_range] at l
      have : (2 : Nat) ^ 8 = 256 := by decide
      omega
end
end Wk
end
section
set_option Elab.async false
set_option linter.all false
set_option maxRecDepth 100000
namespace Wk
open PySem PySem.Spec PyProof.Rows L2
local macro_rules | `(tactic| walk_at "hp") => `(tactic| first | assumption | exact upd_same | exact (upd_ne (ne_of_none (by assumption) (by assumption))).trans (by assumption) | (rw [upd_ne (by first | assumption | exact Ne.symm (by assumption))]; walk_at "hp"))
local macro_rules | `(tactic| walk_at "sq") => `(tactic| first | assumption | exact SqL.of (by assumption) | exact SqT.of (by assumption) | exact SqL.of (by walk_at "hp") | exact SqT.of (by walk_at "hp") | (refine Same.seq ?_ ?_ <;> assumption))
local macro_rules | `(tactic| walk_at "cmul") => `(tactic| first | exact .inr ⟨by decide, by decide⟩ | exact .inl ⟨by decide, by decide⟩ | exact .inr ⟨by omega, by omega⟩ | exact .inl ⟨by omega, by omega⟩)
local macro_rules | `(tactic| walk_at "cdiv") => `(tactic| first | exact ⟨by decide, by decide⟩ | exact wide_div (b := 64) (by omega) (by omega) (by decide) (by decide) | exact wide_div (b := 128) (by omega) (by omega) (by decide) (by decide))
local macro_rules | `(tactic| walk_at "rd1") => `(tactic| first
  | ((with_reducible show tVar _ _ _ _); refine Wk.r_var rfl ?_)
  | (with_reducible first
    | refine Wk.r_c ?_ | refine Wk.r_op ?_ | refine Wk.r_cons ?_ | refine Wk.r_nil ?_
    | refine Wk.r_seq ?_ | refine Wk.r_next ?_ | refine Wk.r_set ?_ | refine Wk.r_asgS ?_ | refine Wk.r_ret ?_ | refine Wk.r_drop ?_ | refine Wk.r_if ?_
    | refine Wk.r_asgG ?_ | refine Wk.r_gName ?_ | refine Wk.r_gCons ?_ | refine Wk.r_gNil ?_ | refine Wk.r_par ?_ | refine Wk.r_par3 ?_ | refine Wk.r_lstRg1 ?_ | refine Wk.r_tupRg1 ?_ | refine ⟨_, _, _, rfl, ?_⟩ | refine Wk.r_un ?_ | refine Wk.r_I0 ?_ | refine Wk.r_U ?_
    | refine Wk.r_test ?_ | refine Wk.r_B ?_ | refine Wk.r_k ?_ | refine Wk.r_not ?_ | refine Wk.r_and ?_ | refine Wk.r_or ?_ | refine Wk.r_andV ?_ | refine Wk.r_orV ?_ | refine Wk.r_notV ?_
    | refine Wk.r_CB ?_ | refine Wk.r_chain ?_ | refine Wk.r_fld ?_ | refine Wk.r_sfld ?_ | refine Wk.r_lst ?_ | refine Wk.r_tup ?_ | refine Wk.r_call ?_ | refine Wk.r_BM ?_ | refine Wk.r_BM0 ?_ | refine Wk.r_T ?_ | refine Wk.r_nT ?_ | refine Wk.r_nF ?_ | refine Wk.r_F ?_
    | refine Or.inl ⟨_, rfl, ?_⟩ | refine Or.inr ⟨_, rfl, ?_⟩ | refine ⟨_, rfl, ?_⟩ | refine ⟨_, _, rfl, ?_⟩)
  | ((with_reducible refine Wk.r_eq ?c0 ?_); (case c0 => rfl)) | ((with_reducible refine Wk.r_ne ?c0 ?_); (case c0 => rfl))
  | ((with_reducible refine Wk.r_pow ?c0 ?_); (case c0 => exact ⟨by decide, by decide, by decide⟩))
  | ((with_reducible refine Wk.r_mul ?c0 ?_); (case c0 => walk_at "cmul")) | ((with_reducible refine Wk.r_mod ?c0 ?_); (case c0 => first | decide | omega)) | ((with_reducible refine Wk.r_div ?c0 ?_); (case c0 => walk_at "cdiv"))
  | ((with_reducible refine Wk.r_new ?c0 ?_); (case c0 => (simp only [List.length_cons, List.length_nil]; omega)))
  | ((with_reducible show gTup _ _ _ _ _ _ _); refine Wk.r_gTup (by walk_at "sq") (by rfl) ?_)
  | (refine Wk.r_tyL (by walk_at "hp") ?_)
  | ((with_reducible show rSetL _ _ _ _ _); refine Wk.r_setL (by walk_at "hp") (by rfl) ?_)
  | ((with_reducible show rIxL _ _ _ _ _); refine Wk.r_ixL (by walk_at "sq") (by rfl) ?_) | ((with_reducible show rIxT _ _ _ _ _); refine Wk.r_ixT (by walk_at "sq") (by rfl) ?_)
  | ((with_reducible show rLenOf _ _ _ _); first | refine Wk.n_lenL (by walk_at "sq") ?_ | refine Wk.n_lenT (by walk_at "sq") ?_)
  | ((with_reducible show rListOf _ _ _ _); first | refine Wk.n_listL (by walk_at "sq") ?_ | refine Wk.n_listT (by walk_at "sq") ?_)
  | ((with_reducible show rTupZ _ _ _ _); first | refine Wk.z_tupL (by walk_at "sq") ?_ | refine Wk.z_tupT (by walk_at "sq") ?_)
  | ((with_reducible show rTupOf _ _ _ _); first | refine Wk.n_tupL (by walk_at "sq") ?_ | refine Wk.n_tupT (by walk_at "sq") ?_))
local macro_rules | `(tactic| walk_at "rd") => `(tactic| repeat (walk_at "rd1"))
local macro_rules | `(tactic| walk_at "rd1") => `(tactic| (with_reducible first | refine Wk.r_dget ?_ | refine Wk.r_din ?_ | refine Wk.r_dnotin ?_ | refine Wk.r_dput ?_ | refine Wk.r_pairs ?_ | refine Wk.r_pairs0 ?_ | refine Wk.r_sl ?_ | refine Wk.r_part ?_ | refine Wk.r_nopart ?_ | refine Wk.r_augS ?_ | refine Wk.r_ipI ?_ | refine Wk.r_aug rfl ?_ | refine Wk.r_revT ?_))

theorem natL_inv {l : List Nat} {i : Nat} {y : V} (h : (natL l)[i]? = some y) : ∃ z : Nat, l[i]? = some z ∧ y = .int (z : Int) := by
  unfold natL at h
  rw [List.getElem?_map] at h
  cases c : l[i]? with
  | none => rw [c] at h; cases h
  | some z => rw [c] at h; cases h; exact ⟨z, rfl, rfl⟩
theorem dk_if {A : List Nat} {F : Nat → Nat} {z d : Nat} : dk A (fun x => if x = z then V.int (d : Int) else V.int (F x : Int)) = dk A (fun x => V.int ((if x = z then d else F x : Nat) : Int)) := by
  congr 1
  funext x
  split <;> rfl
/-- of what reaches all, all is found -/
theorem wlk_all {n k : Nat} {m1 m2 : Nat → Nat → Nat} {S Vs : List Nat} {e e2 : Nat} {A : List Nat} {F : Nat → Nat} {i : Nat} (W : G.Wlk n k m1 m2 S Vs e e2 A F i 0) (ls : S.length = Vs.length) (h : A.length ≤ i) {x : Nat} (r : G.Rch m1 e S x) : x ∈ A := by
  induction r with
  | base => exact List.mem_of_getElem? W.head
  | step _ hs ih =>
    obtain ⟨j, hj⟩ := List.mem_iff_getElem?.mp ih
    obtain ⟨s, hs⟩ := List.mem_iff_getElem?.mp hs
    have l1 := (List.getElem?_eq_some_iff.mp hj).1
    have l2 := (List.getElem?_eq_some_iff.mp hs).1
    exact (W.fin j _ s _ _ hj (.inl (by omega)) hs (List.getElem?_eq_getElem (by omega))).1
section
variable {P : Program} {w : World} {K : PySem.W.Frag} {mg : Str → Option Value} {base : Heap}
def spExt (K : PySem.W.Frag) : Sp := fun vs H Q _ => ∃ (a1 a2 b c n k e e2 : Nat) (m1 m2 : Nat → Nat → Nat) (S Vs : List Nat), vs = [.ref a1, .ref a2, .ref b, .ref c] ∧ n ≤ 48 ∧ k ≤ 48 ∧ GL H a1 n m1 ∧ GL H a2 k m2 ∧ G.Grp n m1 ∧ G.Grp k m2 ∧ G.IsNe n m1 e ∧ G.IsNe k m2 e2 ∧
  H b = some (.lst (natL S)) ∧ (∀ s ∈ S, s < n) ∧ H c = some (.lst (natL Vs)) ∧ (∀ v ∈ Vs, v < k) ∧ S.length = Vs.length ∧ (∀ x, x < n → G.Rch m1 e S x) ∧ (∀ H', Same H H' → Q .non H') ∧ ∀ H' t f, Same H H' → MapT K H' t n k f → G.Hom n m1 m2 f → Q (.ref t) H'
set_option maxHeartbeats 4000000 in
theorem k__law_extended (T : Txt mg) (k__law_neutral : Keep P w K mg base 1 "_law_neutral" ["table"] spLNeuG) (a : At K mg "_law_extended" s__law_extended ["one", "other", "gens", "values"]) : Keep P w K mg base 2 "_law_extended" ["one", "other", "gens", "values"] (spExt K) := by
  refine Keep.of a sc__law_extended (fun vs H Q E h => ?_) (fun f cdv A outer s H vs Q E hr h => ?_)
  · obtain ⟨_, _, _, _, _, _, _, _, _, _, _, _, rfl, _⟩ := h
    rfl
  · obtain ⟨a1, a2, b, c, n, k, e, e2, m1, m2, S, Vs, rfl, hn, hk, gl1, gl2, g1, g2, he, he2, hS, bS, hV, bV, lSV, full, kN, kT⟩ := h
    obtain ⟨L1, hL1, len1, r1⟩ := gl1.get
    obtain ⟨L2', hL2, len2, r2⟩ := gl2.get
    refine ⟨_, (pss_cons (ps_set (i := 4) sc__law_extended.nd rfl (by first | exact Or.inl rfl | exact Or.inr rfl) (pe_k k__law_neutral (hr.mono (by decide)) (by rfl) (pa_cons (pv 0) pa_nil)))
    (pss_cons (ps_set (i := 5) sc__law_extended.nd rfl (by first | exact Or.inl rfl | exact Or.inr rfl) pe_dnewK)
    (pss_cons (ps_dput (hu_of hr) (pv 5) (pv 4) (pe_k k__law_neutral (hr.mono (by decide)) (by rfl) (pa_cons (pv 1) pa_nil)) rfl)
    (pss_cons (ps_set (i := 6) sc__law_extended.nd rfl (by first | exact Or.inl rfl | exact Or.inr rfl) (pe_lst (pa_cons (pv 4) pa_nil)))
    (pss_cons (ps_for PassesOwn.never rfl (pi_range1 (by rfl) T.n_range (pa_cons (pe_callB (c_len K) (by rfl) T.n_len (by decide +kernel) (pa_cons (pv 0) pa_nil)) pa_nil)) (pg_name (i := 7) sc__law_extended.nd rfl (by first | exact Or.inl rfl | exact Or.inr rfl)) (pss_cons (ps_set (i := 8) sc__law_extended.nd rfl (by first | exact Or.inl rfl | exact Or.inr rfl) (pe_ix (x_list K) (pv 6) (pv 7) (fun _ _ => rfl)))
    (pss_one (ps_for PassesOwn.never rfl (i_zip K (by rfl) T.n_zip (pa_cons (pv 2) (pa_cons (pv 3) pa_nil))) (g_tupK K 2 rfl (pgs_cons (pg_name (i := 9) sc__law_extended.nd rfl (by first | exact Or.inl rfl | exact Or.inr rfl)) (pgs_cons (pg_name (i := 10) sc__law_extended.nd rfl (by first | exact Or.inl rfl | exact Or.inr rfl)) pgs_nil))) (pss_cons (ps_par (i := 11) (j := 12) (by rfl) sc__law_extended.nd rfl rfl (by decide) rfl rfl (pa_cons (pe_ix (x_list K) (pe_ix (x_list K) (pv 0) (pv 8) (fun _ _ => rfl)) (pv 9) (fun _ _ => rfl)) (pa_cons (pe_ix (x_list K) (pe_ix (x_list K) (pv 1) (pe_dget (hu_of hr) (pv 5) (pv 8) (fun _ _ => rfl)) (fun _ _ => rfl)) (pv 10) (fun _ _ => rfl)) pa_nil)) (by rfl))
    (pss_cons (ps_if (pt_cmp (pc_dnotin (hu_of hr) (pv 11) (pv 5))) (pss_cons (ps_dput (hu_of hr) (pv 5) (pv 11) (pv 12) rfl)
    (pss_one (ps_expr (e_bm K PySem.F.plainAttrs_list PySem.F.slot_list_append PySem.F.type_list_append mt_append (pv 6) (pa_cons (pv 11) pa_nil))))) pss_nil)
    (pss_one (ps_if (pt_cmpR op_ne (pe_dget (hu_of hr) (pv 5) (pv 11) (fun _ _ => rfl)) (pv 12) (nomark _)) (pss_one (ps_ret pe_non)) pss_nil))))))))
    (pss_one (ps_ret (pe_callTy (c_tup K) (by rfl) T.n_tuple (by decide +kernel) (pa_cons (pe_lc (own := [("x", 8)]) rfl sc__law_extended.nd (pi_range1 (by rfl) T.n_range (pa_cons (pe_callB (c_len K) (by rfl) T.n_len (by decide +kernel) (pa_cons (pv 0) pa_nil)) pa_nil)) (blkOk_by (N := ["one", "other", "gens", "values", "first", "told", "todo", "k", "x", "g", "v", "y", "w"]) (sc := defScope s__law_extended) (by decide +kernel)) (fun _ _ _ _ _ => (pg_name (i := 8) sc__law_extended.nd rfl (by first | exact Or.inl rfl | exact Or.inr rfl))) (fun _ _ _ _ _ => pts_nil) (fun _ _ _ _ _ => (pe_dget (hu_of hr) (pv 5) (pv 8) (fun _ _ => rfl)))) pa_nil))))))))), ?_⟩
    walk_at "rd"
    refine ⟨a1, n, e, m1, rfl, gl1, hn, g1, he, ?_⟩
    walk_at "rd"
    intro p np
    have s1 := same_new (o := .dK []) np
    walk_at "rd"
    refine ⟨a2, k, e2, m2, rfl, gl2.mono s1, hk, g2, he2, ?_⟩
    walk_at "rd"
    have hp0 : (upd H p (.dK [])) p = some (.dK (dk [] fun z => .int ((fun _ => e2) z : Nat))) := upd_same
    refine ⟨_, _, rfl, dput_dk hp0 (by simp) (by simp), ?_⟩
    have e0 : dk ([] ++ [e]) (fun x => if x = e then V.int (e2 : Int) else V.int (((fun _ => e2) x : Nat) : Int)) = dk [e] (fun z => .int (((fun _ => e2) z : Nat) : Int)) := by
      rw [dk_if]
      congr 1
      funext x
      split <;> rfl
    rw [e0]
    have s2 : Same H (upd (upd H p (.dK [])) p (.dK (dk [e] fun z => .int (((fun _ => e2) z : Nat) : Int)))) := same_upd s1 np
    have hp2 : (upd (upd H p (.dK [])) p (.dK (dk [e] fun z => .int (((fun _ => e2) z : Nat) : Int)))) p = some (.dK (dk [e] fun z => .int (((fun _ => e2) z : Nat) : Int))) := upd_same
    generalize upd (upd H p (.dK [])) p (.dK (dk [e] fun z => .int (((fun _ => e2) z : Nat) : Int))) = H2 at s2 hp2 ⊢
    clear s1 hp0 e0
    walk_at "rd"
    intro q nq
    have nq1 : H q = none := s2.free nq
    have npq : p ≠ q := fun z => by rw [← z, hp2] at nq; cases nq
    have s3 : Same H (upd H2 q (.lst [.int e])) := same_upd s2 nq1
    have hp3 : (upd H2 q (.lst [.int e])) p = some (.dK (dk [e] fun z => .int (((fun _ => e2) z : Nat) : Int))) := (upd_ne npq).trans hp2
    have hq3 : (upd H2 q (.lst [.int e])) q = some (.lst (natL [e])) := upd_same
    generalize upd H2 q (.lst [.int e]) = H3 at s3 hp3 hq3 ⊢
    clear hp2 nq s2
    walk_at "rd"
    refine f_rng (n := n) (fun i σ' H' => ∃ (v7 v8 v9 v10 v11 v12 : Option V) (A : List Nat) (F : Nat → Nat), σ' = [some (.ref a1), some (.ref a2), some (.ref b), some (.ref c), some (.int e), some (.ref p), some (.ref q), v7, v8, v9, v10, v11, v12] ∧ Same H H' ∧ H' p = some (.dK (dk A fun z => .int (F z : Nat))) ∧ H' q = some (.lst (natL A)) ∧ G.Wlk n k m1 m2 S Vs e e2 A F i 0) (by omega) (fun R' h => ?_)
      ⟨_, _, _, _, _, _, [e], _, rfl, s3, hp3, hq3, G.Wlk.start he.lt he2.lt rfl⟩ ?_ ?_
    · have hL1 := s3 _ _ hL1
      walk_at "rd"
      rw [len1]
      exact h
    · rintro i σ' H' hi ⟨v7, v8, v9, v10, v11, v12, A, F, rfl, s4, hp, hq, W⟩ N B R hN hB hRt
      have ci : i < A.length := by
        apply Classical.byContradiction
        intro q
        have sub : ∀ x ∈ List.range n, x ∈ A := fun x hx => wlk_all W lSV (by omega) (full x (List.mem_range.mp hx))
        have := List.Nodup.length_le_of_subset (List.nodup_range (n := n)) sub
        rw [List.length_range] at this
        omega
      have hS4 := s4 _ _ hS
      have hV4 := s4 _ _ hV
      walk_at "rd"
      refine Wk.r_ixL (SqL.of hq) (at_n (natL_get ci)) ?_
      generalize hxi : A[i] = xi
      have hAi : A[i]? = some xi := by rw [List.getElem?_eq_getElem ci, hxi]
      walk_at "rd"
      dsimp only
      refine f_zip (K := K) (xs := natL S) (ys := natL Vs) (fun j σ' H'' => ∃ (v9 v10 v11 v12 : Option V) (A' : List Nat) (F' : Nat → Nat), σ' = [some (.ref a1), some (.ref a2), some (.ref b), some (.ref c), some (.int e), some (.ref p), some (.ref q), some (.int (i : Int)), some (.int (xi : Int)), v9, v10, v11, v12] ∧ Same H H'' ∧ H'' p = some (.dK (dk A' fun z => .int (F' z : Nat))) ∧ H'' q = some (.lst (natL A')) ∧ G.Wlk n k m1 m2 S Vs e e2 A' F' i j ∧ A'[i]? = some xi)
        (by rw [natL_len, natL_len, lSV]) (fun R' h => ?_) (SqL.of hS4) (SqL.of hV4) ⟨_, _, _, _, A, F, rfl, s4, hp, hq, W, hAi⟩ (fun j σ' H'' ⟨_, _, _, _, _, _, _, s, _⟩ => ⟨SqL.of (s _ _ hS), SqL.of (s _ _ hV)⟩) ?_ ?_
      · walk_at "rd"
        exact h
      · rintro j y v T' σ'' H'' hy hv ⟨v9, v10, v11, v12, A', F', rfl, s5, hp5, hq5, W5, hAi5⟩ nT N' B' R' hN' hB' hRt'
        obtain ⟨yn, hyn, rfl⟩ := natL_inv hy
        obtain ⟨vn, hvn, rfl⟩ := natL_inv hv
        have sT := same_new (o := .tup [V.int (yn : Int), V.int (vn : Int)]) nT
        have s6 := s5.trans sT
        have hp6 := sT _ _ hp5
        have hq6 := sT _ _ hq5
        refine r_gTup (SqT.of upd_same) rfl (r_gCons (r_gName (r_gCons (r_gName (r_gNil ?_)))))
        generalize upd H'' T' (.tup [V.int (yn : Int), V.int (vn : Int)]) = H6 at s6 hp6 hq6 ⊢
        clear sT hp5 hq5 nT
        have xA := List.mem_of_getElem? hAi5
        have hxn := W5.lt _ xA
        have hyb := bS _ (List.mem_of_getElem? hyn)
        have hvb := bV _ (List.mem_of_getElem? hvn)
        have lA := nodup_len W5.nd W5.lt
        have hL1 := s6 _ _ hL1
        have hL2 := s6 _ _ hL2
        obtain ⟨rb1, e1, hr1⟩ := r1 _ hxn
        obtain ⟨rb2, e2', hr2⟩ := r2 _ (W5.flt _ xA)
        have hr1 := s6 _ _ hr1
        have hr2 := s6 _ _ hr2
        walk_at "rd"
        refine Wk.r_ixL (SqL.of hL1) (at_n e1) ?_
        walk_at "rd"
        refine Wk.r_ixL (SqL.of hr1) (at_n (rowV_get hyb)) ?_
        walk_at "rd"
        refine ⟨_, _, rfl, dget_dk hp6 xA, ?_⟩
        refine Wk.r_ixL (SqL.of hL2) (at_n e2') ?_
        walk_at "rd"
        refine Wk.r_ixL (SqL.of hr2) (at_n (rowV_get hvb)) ?_
        walk_at "rd"
        refine ⟨_, _, rfl, dget_dkO hp6, ?_⟩
        walk_at "rd"
        by_cases hz : m1 xi yn ∈ A'
        · rw [if_pos hz]
          refine r_F ?_
          walk_at "rd"
          refine ⟨_, _, rfl, dget_dk hp6 hz, ?_⟩
          walk_at "rd"
          refine r_ifNI (fun cz => ?_) (fun cz => ?_)
          · walk_at "rd"
            exact hRt' _ _ (hRt _ _ (kN _ s6))
          · walk_at "rd"
            exact hN' _ _ ⟨_, _, _, _, A', F', rfl, s6, hp6, hq6, W5.known hAi5 hyn hvn hz (by omega), hAi5⟩
        · rw [if_neg hz]
          refine r_T ?_
          walk_at "rd"
          refine ⟨_, _, rfl, dput_dk hp6 hz (by omega), ?_⟩
          have W6 := W5.new g1.cl g2.cl bS bV hAi5 hyn hvn hz
          rw [dk_if]
          have hp7 : (upd H6 p (.dK (dk (A' ++ [m1 xi yn]) fun x => V.int ((if x = m1 xi yn then m2 (F' xi) vn else F' x : Nat) : Int)))) p = some (.dK (dk (A' ++ [m1 xi yn]) fun x => V.int ((if x = m1 xi yn then m2 (F' xi) vn else F' x : Nat) : Int))) := upd_same
          have hq7 : (upd H6 p (.dK (dk (A' ++ [m1 xi yn]) fun x => V.int ((if x = m1 xi yn then m2 (F' xi) vn else F' x : Nat) : Int)))) q = some (.lst (natL A')) := (upd_ne npq.symm).trans hq6
          have s7 : Same H (upd H6 p (.dK (dk (A' ++ [m1 xi yn]) fun x => V.int ((if x = m1 xi yn then m2 (F' xi) vn else F' x : Nat) : Int)))) := same_upd s6 np
          generalize upd H6 p (.dK (dk (A' ++ [m1 xi yn]) fun x => V.int ((if x = m1 xi yn then m2 (F' xi) vn else F' x : Nat) : Int))) = H7 at hp7 hq7 s7 ⊢
          walk_at "rd"
          refine Wk.r_append hq7 (szlt (by rw [natL_len]; omega)) ?_
          rw [natL_snoc]
          have hp8 : (upd H7 q (.lst (natL (A' ++ [m1 xi yn])))) p = some (.dK (dk (A' ++ [m1 xi yn]) fun x => V.int ((if x = m1 xi yn then m2 (F' xi) vn else F' x : Nat) : Int))) := (upd_ne npq).trans hp7
          have hq8 : (upd H7 q (.lst (natL (A' ++ [m1 xi yn])))) q = some (.lst (natL (A' ++ [m1 xi yn]))) := upd_same
          have s8 : Same H (upd H7 q (.lst (natL (A' ++ [m1 xi yn])))) := same_upd s7 nq1
          generalize upd H7 q (.lst (natL (A' ++ [m1 xi yn]))) = H8 at hp8 hq8 s8 ⊢
          walk_at "rd"
          refine ⟨_, _, rfl, dget_dk hp8 (by simp), ?_⟩
          rw [if_pos rfl]
          walk_at "rd"
          refine r_ifNI (fun cz => absurd rfl cz) (fun cz => ?_)
          walk_at "rd"
          exact hN' _ _ ⟨_, _, _, _, A' ++ [m1 xi yn], _, rfl, s8, hp8, hq8, W6, by rw [List.getElem?_append_left (List.getElem?_eq_some_iff.mp hAi5).1]; exact hAi5⟩
      · rintro σ'' H'' ⟨v9, v10, v11, v12, A', F', rfl, s5, hp5, hq5, W5, hAi5⟩
        rw [natL_len] at W5
        exact hN _ _ ⟨_, _, _, _, _, _, A', F', rfl, s5, hp5, hq5, W5.next⟩
    · rintro σ' H' ⟨v7, v8, v9, v10, v11, v12, A, F, rfl, s4, hp, hq, W⟩
      have lA := nodup_len W.nd W.lt
      have fA : ∀ x, x < n → x ∈ A := fun x hx => wlk_all W lSV lA (full x hx)
      have hL1 := s4 _ _ hL1
      walk_at "rd"
      refine lc_rngV (n := n) (fun x => .int ((F x : Nat) : Int)) (by omega) (fun R' h => ?_) (fun x H5 Q' hx s5 k5 => ?_) (fun D H5 hD s5 hL5 => ?_)
      · walk_at "rd"
        rw [len1]
        exact h
      · have hp5 := s5 _ _ hp
        walk_at "rd"
        refine ⟨_, _, rfl, dget_dk hp5 (fA x hx), ?_⟩
        exact k5 _ (Same.refl _)
      have hL5 : H5 D = some (.lst (natsV n F)) := hL5
      walk_at "rd"
      intro t nt
      have s6 := same_new (o := .tup (natsV n F)) nt
      exact kT _ t F (s4.trans (s5.trans s6)) ⟨SqT.of upd_same, fun x hx => W.flt x (fA x hx)⟩ (W.hom g1 g2 he he2 bS bV fA)
end
end Wk
end
section
set_option Elab.async false
set_option linter.all false
set_option maxRecDepth 100000
/-! len(o), o of a class that has __len__ -/
namespace Wk
open PySem PySem.Spec PyProof.Rows L2
def rLenI (C : Addr) (sp : Sp) : List V → Hp → VK → Prop := fun xs H Q => ∃ (a dx : Addr) (fs : List (Str × V)), xs = [.ref a] ∧ H a = some (.ins C dx fs) ∧ sp [.ref a] H (fun v H' => ∃ n : Nat, v = .int (n : Int) ∧ n ≤ 100000 ∧ Q (.int (n : Int)) H') E0
theorem c_lenO {X : Cx} {C : Addr} {k : Nat} {ps : List PySem.Str} {sp : Sp} (M : KeepM X.prog X.w X.K X.mg X.base k C "__len__" ps sp) (hr : Room (k + 1) X.A) : CallR X (.builtin "len") (rLenI C sp) := by
  intro pins s σ H xs us Q I r h
  obtain ⟨f, fd, F, M, hb⟩ := M
  obtain ⟨a, dx, fs, rfl, ha, q⟩ := h
  obtain ⟨u, rfl, ru⟩ := vals1 r
  cases (show u = Value.ref a from ru)
  obtain ⟨_, O, _⟩ := ins_get I.hok ha
  obtain ⟨od, J, _⟩ := O.look
  have LT : PySem.W.Looks (model X.prog X.w) s.heap (typeOf (.ref a)) (.ref C) := fun A Q E s' k q => wpAny_typeOf_ref (k _ _ J.at_) (by rw [J.cls]; exact q)
  have LF := PySem.W.looks_findIn (M := model X.prog X.w) I.kIn M.at_
  have LB := PySem.W.bind_fn (M := model X.prog X.w) I.kIn (.ref a) (beq_iff_eq.mp M.fn)
  have ll : [Value.ref a].length = ps.length := (F.len _ _ _ _ q).symm ▸ rfl
  have bb : BindsTo s fd ⟨[.ref a], []⟩ (ps.zip [.ref a]) := by
    have := hb s [.ref a] I.kIn (by simpa using ll)
    simpa using this
  have run := F.run X.A.in1 X.stack s H ⟨[.ref a], []⟩ [.ref a] [.ref a] _ E0 hr.in1 I.env0.in1 bb (.cons rfl .nil) q
  refine (Calls.call_function_entry kind_len plain_len entry_len (args_len1 (.ref a)) ?_)
  unfold Builtin.«len»
  refine wpAny_bind (m := oneArg "len" _) (wpAny_pure (wpAny_bind (m := callSpecial? (.ref a) (Str.ofString "__len__")) ?_))
  unfold callSpecial? specialOf
  refine wpAny_bind (wpAny_bind (LT.here (LF.here ?_)))
  refine wpAny_holding (wpAny_bind (LB.here ?_))
  refine wpAny_bind (wpAny_mono (wpAny_call (codeAny_mono run fun res s' hq => ?_)) (fun v s' h' => wpAny_pure h') fun _ _ h' => h')
  rcases res with e | fl
  · exact hq.elim
  · cases fl with
    | ret v =>
      obtain ⟨z, H', I3, rv, n, rfl, hn, q3⟩ := I.after hq
      obtain ⟨t, rfl⟩ := (show ∃ t, v = Value.int (n : Int) t from rv)
      refine wpAny_bind (wpAny_holding (wpAny_pure (wpAny_bind (wpAny_letGo ?_))))
      have n0 : ¬ ((n : Int) < 0) := by omega
      have n1 : ¬ ((n : Int) ≥ 2 ^ 63) := by omega
      show wpAny _ _ (if (n : Int) < 0 then _ else if (n : Int) ≥ 2 ^ 63 then _ else _) _ _ _
      rw [if_neg n0, if_neg n1]
      exact wpAny_bind (wpAny_mkInt (wpAny_pure ⟨_, rfl, .int (n : Int), H', I3.tok _, ⟨_, rfl⟩, q3⟩))
    | _ => exact hq.elim
end Wk
end
section
set_option Elab.async false
set_option linter.all false
set_option maxRecDepth 100000
namespace Wk
open PySem PySem.Spec PyProof.Rows L2
local macro_rules | `(tactic| walk_at "hp") => `(tactic| first | assumption | exact upd_same | exact (upd_ne (ne_of_none (by assumption) (by assumption))).trans (by assumption) | (rw [upd_ne (by first | assumption | exact Ne.symm (by assumption))]; walk_at "hp"))
local macro_rules | `(tactic| walk_at "sq") => `(tactic| first | assumption | exact SqL.of (by assumption) | exact SqT.of (by assumption) | exact SqL.of (by walk_at "hp") | exact SqT.of (by walk_at "hp") | (refine Same.seq ?_ ?_ <;> assumption))
local macro_rules | `(tactic| walk_at "cmul") => `(tactic| first | exact .inr ⟨by decide, by decide⟩ | exact .inl ⟨by decide, by decide⟩ | exact .inr ⟨by omega, by omega⟩ | exact .inl ⟨by omega, by omega⟩)
local macro_rules | `(tactic| walk_at "cdiv") => `(tactic| first | exact ⟨by decide, by decide⟩ | exact wide_div (b := 64) (by omega) (by omega) (by decide) (by decide) | exact wide_div (b := 128) (by omega) (by omega) (by decide) (by decide))
local macro_rules | `(tactic| walk_at "rd1") => `(tactic| first
  | ((with_reducible show tVar _ _ _ _); refine Wk.r_var rfl ?_)
  | (with_reducible first
    | refine Wk.r_c ?_ | refine Wk.r_op ?_ | refine Wk.r_cons ?_ | refine Wk.r_nil ?_
    | refine Wk.r_seq ?_ | refine Wk.r_next ?_ | refine Wk.r_set ?_ | refine Wk.r_asgS ?_ | refine Wk.r_ret ?_ | refine Wk.r_drop ?_ | refine Wk.r_if ?_
    | refine Wk.r_asgG ?_ | refine Wk.r_gName ?_ | refine Wk.r_gCons ?_ | refine Wk.r_gNil ?_ | refine Wk.r_par ?_ | refine Wk.r_par3 ?_ | refine Wk.r_lstRg1 ?_ | refine Wk.r_tupRg1 ?_ | refine ⟨_, _, _, rfl, ?_⟩ | refine Wk.r_un ?_ | refine Wk.r_I0 ?_ | refine Wk.r_U ?_
    | refine Wk.r_test ?_ | refine Wk.r_B ?_ | refine Wk.r_k ?_ | refine Wk.r_not ?_ | refine Wk.r_and ?_ | refine Wk.r_or ?_ | refine Wk.r_andV ?_ | refine Wk.r_orV ?_ | refine Wk.r_notV ?_
    | refine Wk.r_CB ?_ | refine Wk.r_chain ?_ | refine Wk.r_fld ?_ | refine Wk.r_sfld ?_ | refine Wk.r_lst ?_ | refine Wk.r_tup ?_ | refine Wk.r_call ?_ | refine Wk.r_BM ?_ | refine Wk.r_BM0 ?_ | refine Wk.r_T ?_ | refine Wk.r_nT ?_ | refine Wk.r_nF ?_ | refine Wk.r_F ?_
    | refine Or.inl ⟨_, rfl, ?_⟩ | refine Or.inr ⟨_, rfl, ?_⟩ | refine ⟨_, rfl, ?_⟩ | refine ⟨_, _, rfl, ?_⟩)
  | ((with_reducible refine Wk.r_eq ?c0 ?_); (case c0 => rfl)) | ((with_reducible refine Wk.r_ne ?c0 ?_); (case c0 => rfl))
  | ((with_reducible refine Wk.r_pow ?c0 ?_); (case c0 => exact ⟨by decide, by decide, by decide⟩))
  | ((with_reducible refine Wk.r_mul ?c0 ?_); (case c0 => walk_at "cmul")) | ((with_reducible refine Wk.r_mod ?c0 ?_); (case c0 => first | decide | omega)) | ((with_reducible refine Wk.r_div ?c0 ?_); (case c0 => walk_at "cdiv"))
  | ((with_reducible refine Wk.r_new ?c0 ?_); (case c0 => (simp only [List.length_cons, List.length_nil]; omega)))
  | ((with_reducible show gTup _ _ _ _ _ _ _); refine Wk.r_gTup (by walk_at "sq") (by rfl) ?_)
  | (refine Wk.r_tyL (by walk_at "hp") ?_)
  | ((with_reducible show rSetL _ _ _ _ _); refine Wk.r_setL (by walk_at "hp") (by rfl) ?_)
  | ((with_reducible show rIxL _ _ _ _ _); refine Wk.r_ixL (by walk_at "sq") (by rfl) ?_) | ((with_reducible show rIxT _ _ _ _ _); refine Wk.r_ixT (by walk_at "sq") (by rfl) ?_)
  | ((with_reducible show rLenOf _ _ _ _); first | refine Wk.n_lenL (by walk_at "sq") ?_ | refine Wk.n_lenT (by walk_at "sq") ?_)
  | ((with_reducible show rListOf _ _ _ _); first | refine Wk.n_listL (by walk_at "sq") ?_ | refine Wk.n_listT (by walk_at "sq") ?_)
  | ((with_reducible show rTupZ _ _ _ _); first | refine Wk.z_tupL (by walk_at "sq") ?_ | refine Wk.z_tupT (by walk_at "sq") ?_)
  | ((with_reducible show rTupOf _ _ _ _); first | refine Wk.n_tupL (by walk_at "sq") ?_ | refine Wk.n_tupT (by walk_at "sq") ?_))
local macro_rules | `(tactic| walk_at "rd") => `(tactic| repeat (walk_at "rd1"))
local macro_rules | `(tactic| walk_at "rd1") => `(tactic| (with_reducible first | refine Wk.r_dget ?_ | refine Wk.r_din ?_ | refine Wk.r_dnotin ?_ | refine Wk.r_dput ?_ | refine Wk.r_pairs ?_ | refine Wk.r_pairs0 ?_ | refine Wk.r_sl ?_ | refine Wk.r_part ?_ | refine Wk.r_nopart ?_ | refine Wk.r_augS ?_ | refine Wk.r_ipI ?_ | refine Wk.r_aug rfl ?_ | refine Wk.r_revT ?_))

section
variable {K : PySem.W.Frag} {tl te : TE} {j k : Nat} {vs : List Nat} {σ : L2.St} {H : Hp} {Q : VK} {a p q : Addr} {xs : List V}
/-- over a list, the items numbers below k that are drawn -/
theorem lc_lstH (hd : HS H p q) (hs : H a = some (.lst xs)) (na : a ≠ p) (hn : xs.length ≤ 50000) (htl : ∀ R' : V → Hp → Prop, R' (.ref a) H → tl σ H R')
    (step : ∀ (i : Nat) x H1 (Q' : VK), xs[i]? = some x → ExP p H H1 → HS H1 p q → (∀ (z : Nat) H2, ExP p H1 H2 → HS H2 p q → z < k → Q' (.int (z : Int)) H2) → te ((wipe σ vs).set j (some x)) H1 Q')
    (done : ∀ D L H1, H D = none → ExP p H H1 → HS H1 p q → H1 D = some (.lst (natL L)) → L.length = xs.length → (∀ v ∈ L, v < k) → Q (.ref D) H1) (hw : ∀ x, wipe ((wipe σ vs).set j (some x)) vs = wipe σ vs := by intro _; rfl) : tLc (iList K tl) (gName j) tYes te vs σ H Q := by
  refine htl _ ⟨a, rfl, ⟨xs, SqL.of hs⟩, fun D hD => ?_⟩
  have hDp := hd.ne hD
  refine lc_list (K := K) (a := a) (xs := xs) (fun i H1 => ∃ L, ExP p H H1 ∧ HS H1 p q ∧ H1 D = some (.lst (natL L)) ∧ L.length = i ∧ ∀ v ∈ L, v < k) ⟨[], (same_new hD).exP, hd.mono (same_new hD), upd_same, rfl, fun v e => by simp at e⟩ (fun i H1 _ ⟨_, x1, _⟩ => SqL.of (x1 _ _ na hs)) ?_ ?_
  · rintro i x H1 hx ⟨L, x1, d1, hL, len, lt⟩
    refine ⟨hw _, ?_⟩
    show te _ H1 _
    refine step i x H1 _ hx x1 d1 fun z H2 x2 d2 hz => ?_
    have hi : i < xs.length := (List.getElem?_eq_some_iff.mp hx).1
    have hL2 := x2 _ _ hDp.1 hL
    refine ⟨natL L, hL2, szlt (by rw [natL_len]; omega), L ++ [z], fun b o nb e => ?_, d2.mut hDp.1 hDp.2 ExP.upd, by rw [upd_same, natL_snoc], by rw [List.length_append, len]; rfl, fun v hv => ?_⟩
    · rw [upd_ne (ne_of_none e hD)]; exact x2 _ _ nb (x1 _ _ nb e)
    · rcases List.mem_append.mp hv with h | h
      · exact lt v h
      · rw [List.mem_singleton.mp h]; exact hz
  · rintro H1 ⟨L, x1, d1, hL, len, lt⟩
    exact done D L H1 hD x1 d1 hL len lt
end
section
variable {P : Program} {w : World} {K : PySem.W.Frag} {mg : Str → Option Value} {base : Heap}
theorem MapT.exP {H H' : Hp} {h q t n k : Nat} {f : Nat → Nat} (d : HS H h q) (x : ExP h H H') (m : MapT K H t n k f) : MapT K H' t n k f := ⟨sqT_exP d x m.tup, m.lt⟩
def spHomG (K : PySem.W.Frag) : Sp := fun vs H Q _ => ∃ (h q a1 a2 n k e e2 : Nat) (m1 m2 : Nat → Nat → Nat), vs = [.ref h, .ref a1, .ref a2] ∧ HS H h q ∧ n ≤ 48 ∧ k ≤ 48 ∧ GL H a1 n m1 ∧ GL H a2 k m2 ∧ G.Grp n m1 ∧ G.Grp k m2 ∧ G.IsNe n m1 e ∧ G.IsNe k m2 e2 ∧
  ∀ H' t f, ExP h H H' → HS H' h q → MapT K H' t n k f → G.Hom n m1 m2 f → Q (.ref t) H'
set_option maxHeartbeats 4000000 in
theorem k__law_hom (T : Txt mg) (k__law_take : Keep P w K mg base 1 "_law_take" ["hand", "many"] spTake) (k__law_neutral : Keep P w K mg base 1 "_law_neutral" ["table"] spLNeuG) (k__law_generators : Keep P w K mg base 3 "_law_generators" ["table"] spGensG) (k__law_extended : Keep P w K mg base 2 "_law_extended" ["one", "other", "gens", "values"] (spExt K)) (a : At K mg "_law_hom" s__law_hom ["hand", "one", "other"]) : Keep P w K mg base 4 "_law_hom" ["hand", "one", "other"] (spHomG K) := by
  refine Keep.of a sc__law_hom (fun vs H Q E h => ?_) (fun fa cdv A outer s H vs Q E hr h => ?_)
  · obtain ⟨_, _, _, _, _, _, _, _, _, _, rfl, _⟩ := h
    rfl
  · obtain ⟨h, q, a1, a2, n, k, e, e2, m1, m2, rfl, d, hn, hk, gl1, gl2, g1, g2, he, he2, kk⟩ := h
    refine ⟨_, (pss_cons (ps_set (i := 3) sc__law_hom.nd rfl (by first | exact Or.inl rfl | exact Or.inr rfl) (pe_k k__law_generators (hr.mono (by decide)) (by rfl) (pa_cons (pv 1) pa_nil)))
    (pss_cons (ps_for PassesOwn.never rfl (pi_range1 (by rfl) T.n_range (pa_cons pe_int pa_nil)) (pg_name (i := 4) sc__law_hom.nd rfl (by first | exact Or.inl rfl | exact Or.inr rfl)) (pss_cons (ps_setLc (i := 6) (own := [("g", 5)]) rfl sc__law_hom.nd rfl rfl (sw_true rfl rfl rfl (by decide +kernel)) (i_list K (pv 3)) (blkOk_by (N := ["hand", "one", "other", "gens", "t", "g", "values", "f", "x"]) (sc := defScope s__law_hom) (by decide +kernel)) (fun _ _ _ _ _ => (pg_name (i := 5) sc__law_hom.nd rfl (by first | exact Or.inl rfl | exact Or.inr rfl))) (fun _ _ _ _ _ => pts_nil) (fun _ _ _ _ _ => (pe_k k__law_take (hr.mono (by decide)) (by rfl) (pa_cons (pv 0) (pa_cons (pe_callB (c_len K) (by rfl) T.n_len (by decide +kernel) (pa_cons (pv 2) pa_nil)) pa_nil)))))
    (pss_cons (ps_set (i := 7) sc__law_hom.nd rfl (by first | exact Or.inl rfl | exact Or.inr rfl) (pe_k k__law_extended (hr.mono (by decide)) (by rfl) (pa_cons (pv 1) (pa_cons (pv 2) (pa_cons (pv 3) (pa_cons (pv 6) pa_nil))))))
    (pss_one (ps_if (pt_cmpR op_notN (pv 7) pe_non (nomark _)) (pss_one (ps_ret (pv 7))) pss_nil)))))
    (pss_one (ps_ret (pe_callTy (c_tup K) (by rfl) T.n_tuple (by decide +kernel) (pa_cons (pe_lc (own := [("x", 8)]) rfl sc__law_hom.nd (i_list K (pv 1)) (blkOk_by (N := ["hand", "one", "other", "gens", "t", "g", "values", "f", "x"]) (sc := defScope s__law_hom) (by decide +kernel)) (fun _ _ _ _ _ => (pg_name (i := 8) sc__law_hom.nd rfl (by first | exact Or.inl rfl | exact Or.inr rfl))) (fun _ _ _ _ _ => pts_nil) (fun _ _ _ _ _ => (pe_k k__law_neutral (hr.mono (by decide)) (by rfl) (pa_cons (pv 2) pa_nil)))) pa_nil)))))), ?_⟩
    walk_at "rd"
    refine ⟨a1, n, e, m1, rfl, gl1, hn, g1, he, fun H1 b S s1 nb hb lS ltS full => ?_⟩
    have nbh := (d.ne nb).1
    have d1 := d.mono s1
    have gl1 := gl1.mono s1
    have gl2 := gl2.mono s1
    have x1 := s1.exP (p := h)
    clear s1 nb d
    walk_at "rd"
    refine f_rng (n := 4) (fun i σ' H' => ∃ (v4 v6 v7 : Option V), σ' = [some (.ref h), some (.ref a1), some (.ref a2), some (.ref b), v4, none, v6, v7, none] ∧ ExP h H H' ∧ HS H' h q ∧ GL H' a1 n m1 ∧ GL H' a2 k m2 ∧ H' b = some (.lst (natL S))) (by decide) (fun R' h => ?_) ⟨_, _, _, rfl, x1, d1, gl1, gl2, hb⟩ ?_ ?_
    · walk_at "rd"
      exact h
    · rintro i σ' H2 hi ⟨v4, v6, v7, rfl, x2, d2, gl1, gl2, hb2⟩ N B R hN hB hRt
      have k0 := G.Grp.pos g2
      walk_at "rd"
      refine lc_lstH (p := h) (q := q) (k := k) d2 hb2 nbh (by rw [natL_len]; omega) (fun R' h => ?_) (fun j x H3 Q' hx x3 d3 k3 => ?_) (fun c Vs H3 nc x3 d3 hc lV ltV => ?_)
      · walk_at "rd"
        exact h
      · obtain ⟨L2', hL2, len2, _⟩ := gl2.exP d2 x3
        walk_at "rd"
        rw [len2]
        refine ⟨h, q, k, rfl, d3, by omega, fun H4 z x4 d4 z0 z1 => ?_⟩
        obtain ⟨z, rfl⟩ := Int.eq_ofNat_of_zero_le z0
        exact k3 z _ x4 d4 (by omega)
      · have gl1 := gl1.exP d2 x3
        have gl2 := gl2.exP d2 x3
        have hb3 := x3 _ _ nbh hb2
        rw [natL_len] at lV
        walk_at "rd"
        refine ⟨a1, a2, b, c, n, k, e, e2, m1, m2, S, Vs, rfl, hn, hk, gl1, gl2, g1, g2, he, he2, hb3, ltS, hc, ltV, lV.symm, full, fun H4 s4 => ?_, fun H4 t f s4 mt hom => ?_⟩
        · walk_at "rd"
          refine ⟨rfl, ?_⟩
          walk_at "rd"
          refine r_ifN (fun c => absurd rfl c) (fun _ => ?_)
          walk_at "rd"
          exact hN _ _ ⟨_, _, _, rfl, (x2.trans x3).trans s4.exP, d3.mono s4, gl1.mono s4, gl2.mono s4, s4 _ _ hb3⟩
        · walk_at "rd"
          refine ⟨rfl, ?_⟩
          walk_at "rd"
          refine r_ifN (fun _ => ?_) (fun c => by cases c)
          walk_at "rd"
          exact hRt _ _ (kk _ t f ((x2.trans x3).trans s4.exP) (d3.mono s4) mt hom)
    · rintro σ' H2 ⟨v4, v6, v7, rfl, x2, d2, gl1, gl2, hb2⟩
      obtain ⟨L1, hL1, len1, _⟩ := id gl1
      walk_at "rd"
      refine lc_lst (fun i v _ => v = V.int ((e2 : Nat) : Int)) (SqL.of hL1) (by omega) (fun R' h => ?_) (fun i => mut_val) (fun i y H3 Q' hy s3 k3 => ?_) (fun D L H3 hD s3 hL len r => ?_)
      · walk_at "rd"
        exact h
      · walk_at "rd"
        refine ⟨a2, k, e2, m2, rfl, gl2.mono s3, hk, g2, he2, ?_⟩
        exact k3 _ _ (Same.refl _) rfl
      have eL : L = natsV n (fun _ => e2) := list_const (by omega) r
      rw [eL] at hL
      walk_at "rd"
      intro t nt
      have s4 := same_new (o := .tup (natsV n fun _ => e2)) nt
      exact kk _ t (fun _ => e2) (x2.trans (s3.trans s4).exP) (d2.mono (s3.trans s4)) ⟨SqT.of upd_same, fun x _ => he2.lt⟩ (fun x y _ _ => (he2.l _ he2.lt).symm)
/-- at most so many places are spoilt -/
def spSpl (K : PySem.W.Frag) : Sp := fun vs H Q _ => ∃ (h q t a2 t2 n k wr : Nat) (m2 : Nat → Nat → Nat) (f f2 : Nat → Nat), vs = [.ref h, .ref t, .ref a2, .ref t2, .int (wr : Int)] ∧ HS H h q ∧ 1 ≤ n ∧ n ≤ 48 ∧ 1 ≤ k ∧ GL H a2 k m2 ∧ MapT K H t n k f ∧ MapT K H t2 n k f2 ∧ wr ≤ 1000 ∧
  ∀ H' u g, ExP h H H' → HS H' h q → MapT K H' u n k g → G.sm n (G.dif f g) ≤ wr → Q (.ref u) H'
set_option maxHeartbeats 4000000 in
theorem k__law_spoilt (T : Txt mg) (k__law_take : Keep P w K mg base 1 "_law_take" ["hand", "many"] spTake) (a : At K mg "_law_spoilt" s__law_spoilt ["hand", "f", "other", "second", "many"]) : Keep P w K mg base 2 "_law_spoilt" ["hand", "f", "other", "second", "many"] (spSpl K) := by
  refine Keep.of a sc__law_spoilt (fun vs H Q E h => ?_) (fun fa cdv A outer s H vs Q E hr h => ?_)
  · obtain ⟨_, _, _, _, _, _, _, _, _, _, _, rfl, _⟩ := h
    rfl
  · obtain ⟨h, q, t, a2, t2, n, k, wr, m2, f, f2, rfl, d, n1, hn, k1, gl, mt, mt2, hw, kk⟩ := h
    refine ⟨_, (pss_cons (ps_set (i := 1) sc__law_spoilt.nd rfl (by first | exact Or.inl rfl | exact Or.inr rfl) (pe_callTy (c_list K) (by rfl) T.n_list (by decide +kernel) (pa_cons (pv 1) pa_nil)))
    (pss_cons (ps_for PassesOwn.never rfl (pi_range1 (by rfl) T.n_range (pa_cons (pv 4) pa_nil)) (pg_name (i := 5) sc__law_spoilt.nd rfl (by first | exact Or.inl rfl | exact Or.inr rfl)) (pss_cons (ps_set (i := 6) sc__law_spoilt.nd rfl (by first | exact Or.inl rfl | exact Or.inr rfl) (pe_k k__law_take (hr.mono (by decide)) (by rfl) (pa_cons (pv 0) (pa_cons (pe_callB (c_len K) (by rfl) T.n_len (by decide +kernel) (pa_cons (pv 1) pa_nil)) pa_nil))))
    (pss_one (ps_asg (pe_ix (x_list K) (pe_lst (pa_cons (pe_ix (x_tup K) (pv 3) (pv 6) (fun _ _ => rfl)) (pa_cons (pe_k k__law_take (hr.mono (by decide)) (by rfl) (pa_cons (pv 0) (pa_cons (pe_callB (c_len K) (by rfl) T.n_len (by decide +kernel) (pa_cons (pv 2) pa_nil)) pa_nil))) pa_nil))) (pe_k k__law_take (hr.mono (by decide)) (by rfl) (pa_cons (pv 0) (pa_cons pe_int pa_nil))) (fun _ _ => rfl)) (pg_sub (pv 1) (pv 6) set_list)))))
    (pss_one (ps_ret (pe_callTy (c_tup K) (by rfl) T.n_tuple (by decide +kernel) (pa_cons (pv 1) pa_nil)))))), ?_⟩
    walk_at "rd"
    have htup := mt.tup
    refine n_listT htup fun l nl => ?_
    have s1 := same_new (o := .lst (natsV n f)) nl
    have hl : (upd H l (.lst (natsV n f))) l = some (.lst (natsV n f)) := upd_same
    have nlh := d.ne nl
    walk_at "rd"
    refine f_rng (n := wr) (fun i σ' H' => ∃ (v6 : Option V) (v5 : Option V) (g : Nat → Nat), σ' = [some (.ref h), some (.ref l), some (.ref a2), some (.ref t2), some (.int (wr : Int)), v5, v6] ∧ ExP h H H' ∧ HS H' h q ∧ H' l = some (.lst (natsV n g)) ∧ (∀ x, x < n → g x < k) ∧ G.sm n (G.dif f g) ≤ i) (by omega) (fun R' h => ?_) ⟨_, _, f, rfl, s1.exP, d.mono s1, hl, mt.lt, ?_⟩ ?_ ?_
    · walk_at "rd"
      exact h
    · rw [G.sm_congr (h := fun _ => 0) fun x _ => by unfold G.dif G.ind; rw [if_neg (fun c => c rfl)]]
      rw [G.sm_zero]
      exact Nat.le_refl _
    · rintro i σ' H1 hi ⟨v6, v5, g, rfl, x1, d1, hl1, lt, df⟩ N B R hN hB hRt
      have tu2 := sqT_exP d x1 mt2.tup
      obtain ⟨L2', hL2, len2, _⟩ := gl.exP d x1
      walk_at "rd"
      rw [natsV_len]
      refine ⟨h, q, n, rfl, d1, by omega, fun H2 x x2 d2 x0 xl => ?_⟩
      obtain ⟨x, rfl⟩ := Int.eq_ofNat_of_zero_le x0
      have hl2 := x2 _ _ nlh.1 hl1
      have tu2 := sqT_exP d1 x2 tu2
      obtain ⟨L3', hL3, len3, _⟩ := gl.exP d (x1.trans x2)
      walk_at "rd"
      refine Wk.r_ixT tu2 (at_n (natsV_get (by omega))) ?_
      walk_at "rd"
      rw [len3]
      refine ⟨h, q, k, rfl, d2, by omega, fun H3 z x3 d3 z0 zl => ?_⟩
      obtain ⟨z, rfl⟩ := Int.eq_ofNat_of_zero_le z0
      have hl3 := x3 _ _ nlh.1 hl2
      walk_at "rd"
      intro pl npl
      have s4 := same_new (o := .lst [V.int ((f2 x : Nat) : Int), V.int (z : Int)]) npl
      have hpl : (upd H3 pl (.lst [V.int ((f2 x : Nat) : Int), V.int (z : Int)])) pl = some (.lst [V.int ((f2 x : Nat) : Int), V.int (z : Int)]) := upd_same
      have d4 := d3.mono s4
      have hl4 := s4 _ _ hl3
      have nph := (d3.ne npl).1
      have x4 := ((x1.trans x2).trans x3).trans s4.exP
      generalize upd H3 pl (.lst [V.int ((f2 x : Nat) : Int), V.int (z : Int)]) = H4 at hpl d4 hl4 x4 ⊢
      walk_at "rd"
      refine ⟨h, q, 2, rfl, d4, by decide, fun H5 w' x5 d5 w0 wl => ?_⟩
      have hpl := x5 _ _ nph hpl
      have hl5 := x5 _ _ nlh.1 hl4
      have f2l := mt2.lt x (by omega)
      obtain ⟨y, ey, yl⟩ : ∃ y : Nat, atI [V.int ((f2 x : Nat) : Int), V.int (z : Int)] w' = some (.int (y : Int)) ∧ y < k := by
        have : w' = 0 ∨ w' = 1 := by omega
        rcases this with rfl | rfl
        · exact ⟨f2 x, rfl, f2l⟩
        · exact ⟨z, rfl, by omega⟩
      walk_at "rd"
      refine Wk.r_ixL (SqL.of hpl) ey ?_
      walk_at "rd"
      refine Wk.r_setL hl5 (ix_ok (by omega) (by rw [natsV_len]; omega)) ?_
      rw [Int.toNat_natCast, natsV_set]
      refine hN _ _ ⟨_, _, _, rfl, (x4.trans x5).updN nl, d5.mut nlh.1 nlh.2 ExP.upd, upd_same, fun u hu => ?_, ?_⟩
      · show (if u = x then y else g u) < k
        split
        · exact yl
        · exact lt u hu
      · have s := G.sm_le (n := n) (g := G.dif f (fun u => if u = x then y else g u)) (h := fun u => G.dif f g u + if u = x then 1 else 0) fun u hu => by
          by_cases c : u = x
          · rw [if_pos c]
            have : G.dif f (fun u => if u = x then y else g u) u ≤ 1 := G.ind_le _
            omega
          · have : G.dif f (fun u => if u = x then y else g u) u = G.dif f g u := by
              have e : (fun u => if u = x then y else g u) u = g u := if_neg c
              unfold G.dif
              rw [e]
            rw [this]
            exact Nat.le_add_right _ _
        rw [G.sm_add, G.sm_one 1 (by omega : x < n)] at s
        omega
    · rintro σ' H1 ⟨v6, v5, g, rfl, x1, d1, hl1, lt, df⟩
      walk_at "rd"
      intro u nu
      have s2 := same_new (o := .tup (natsV n g)) nu
      exact kk _ u g (x1.trans s2.exP) (d1.mono s2) ⟨SqT.of upd_same, lt⟩ df
end
end Wk
end
section
set_option Elab.async false
set_option linter.all false
set_option maxRecDepth 100000
set_option exponentiation.threshold 3000
/-! rows of things of which so many are from a part -/
namespace G
/-- how many rows of k things have just j from a part of a, the others from b -/
def ww (a b : Nat) : Nat → Nat → Nat
  | 0, j => if j = 0 then 1 else 0
  | k + 1, j => (if j = 0 then 0 else ww a b k (j - 1)) * a + ww a b k j * b
theorem ww_out {a b : Nat} : ∀ k j, k < j → ww a b k j = 0
  | 0, j, h => by unfold ww; rw [if_neg (by omega)]
  | k + 1, j, h => by
    show (if j = 0 then 0 else ww a b k (j - 1)) * a + ww a b k j * b = 0
    rw [if_neg (by omega), ww_out k (j - 1) (by omega), ww_out k j (by omega)]
    simp
theorem sm_shift (g : Nat → Nat) : ∀ m, sm (m + 1) (fun j => if j = 0 then 0 else g (j - 1)) = sm m g
  | 0 => rfl
  | m + 1 => by
    show sm (m + 1) (fun j => if j = 0 then 0 else g (j - 1)) + (if m + 1 = 0 then 0 else g (m + 1 - 1)) = sm m g + g m
    rw [sm_shift g m, if_neg (by omega), Nat.add_sub_cancel]
theorem ww_sum {a b : Nat} : ∀ k, sm (k + 1) (ww a b k) = (a + b) ^ k
  | 0 => rfl
  | k + 1 => by
    have e : sm (k + 2) (ww a b (k + 1)) = sm (k + 2) (fun j => (if j = 0 then 0 else ww a b k (j - 1)) * a) + sm (k + 2) (fun j => ww a b k j * b) := sm_add _ _ _
    have l : sm (k + 2) (ww a b k) = sm (k + 1) (ww a b k) + ww a b k (k + 1) := rfl
    rw [e, sm_mulR, sm_mulR, sm_shift, l, ww_out k (k + 1) (by omega), ww_sum k, Nat.pow_succ, Nat.mul_add, Nat.add_zero]
theorem ww_le {a b : Nat} : ∀ k j, ww a b k j ≤ (a + b) ^ k
  | 0, j => by unfold ww; split <;> simp
  | k + 1, j => by
    show (if j = 0 then 0 else ww a b k (j - 1)) * a + ww a b k j * b ≤ _
    have h1 : (if j = 0 then 0 else ww a b k (j - 1)) ≤ (a + b) ^ k := by split; exact Nat.zero_le _; exact ww_le k _
    have h2 := ww_le (a := a) (b := b) k j
    rw [Nat.pow_succ, Nat.mul_add]
    exact Nat.add_le_add (Nat.mul_le_mul_right a h1) (Nat.mul_le_mul_right b h2)
/-- more than half are from the part -/
def mh (a b k : Nat) : Nat := sm (k + 1) fun j => if k / 2 + 1 ≤ j then ww a b k j else 0
theorem mh_le {a b k : Nat} : mh a b k ≤ (a + b) ^ k := by
  rw [← ww_sum]
  exact sm_le fun j _ => by split; exact Nat.le_refl _; exact Nat.zero_le _
theorem drop_sum (w : Nat → Nat) (d : Nat) : ∀ n : Nat, (((List.range n).map fun i => ((w i : Nat) : Int)).drop d).sum = ((sm n fun j => if d ≤ j then w j else 0 : Nat) : Int)
  | 0 => by simp [sm]
  | n + 1 => by
    rw [List.range_succ, List.map_append, List.drop_append, List.sum_append, drop_sum w d n, List.length_map, List.length_range]
    show _ = (((sm n fun j => if d ≤ j then w j else 0) + (if d ≤ n then w n else 0) : Nat) : Int)
    by_cases c : d ≤ n
    · rw [if_pos c, show d - n = 0 by omega]
      simp
    · rw [if_neg c, List.drop_of_length_le (by simp; omega)]
      simp
theorem pow_bits {n k : Nat} (hn : n ≤ 48) (hk : k ≤ 100) : n ^ k < 2 ^ 601 := by
  have h1 : n ^ k ≤ 64 ^ k := Nat.pow_le_pow_left (by omega) k
  have h2 : (64 : Nat) ^ k = 2 ^ (6 * k) := by rw [Nat.pow_mul]
  rw [h2] at h1
  exact Nat.lt_of_le_of_lt h1 (Nat.pow_lt_pow_right (by decide) (by omega))
end G
namespace Wk
open PySem PySem.Spec PyProof.Rows L2
theorem mulV {x y : Nat} (hx : x < 2 ^ 2000) (hy : y < 2 ^ 2000) : CMulW (x : Int) (y : Int) := wide_mul (a := 2000) (b := 2000) (by rw [Int.natAbs_natCast]; exact hx) (by rw [Int.natAbs_natCast]; exact hy) (by decide) (by decide) (by decide)
end Wk
end
section
set_option Elab.async false
set_option linter.all false
set_option maxRecDepth 100000
/-! a class called out of a local name; a classmethod of a class -/
namespace Wk
open PySem PySem.Spec PyProof.Rows L2
section
variable {X : Cx} {C : Addr} {k i : Nat} {sp : Sp} {x m : PySem.Str} {e o : Expr} {es : List Expr} {ta : TE} {t tk : TA} {p pos apos : Pos} {ps : List PySem.Str}
/-- the class in the i-th slot is called -/
def tMakeL (i : Nat) (C : Addr) (sp : Sp) (t : TA) : TE := fun σ H Q => σ[i]? = some (some (.ref C)) ∧ tMake C sp [] E0 t σ H Q
theorem e_makeL (M : KeepC0 X.prog X.w X.K X.mg X.base k C ps sp) (hr : Room (k + 1) X.A) (ha : PA X (e :: es) t) (hN : X.N[i]? = some x := by rfl) (hv : Vis X.env.scope x := by first | exact Or.inl rfl | exact Or.inr (Or.inl rfl) | exact Or.inr (Or.inr rfl)) (hdb : (x == ("__debug__" : PySem.Str)) = false := by decide) (hcd : (x == ("__classdict__" : PySem.Str)) = false := by decide)
    (he : starEach (e :: es) X.env = (false, eval e X.env) :: starEach es X.env := by rfl) (hpl : (backTo pos (starEach es X.env)).any (·.1) = false := by rfl) : PE X (.Call (.Name x p) (e :: es) [] pos) (tMakeL i C sp t) := by
  obtain ⟨f, fd, M, F, hb⟩ := M
  refine ⟨fun pins s σ H Q I h => ?_⟩
  obtain ⟨hs, ht⟩ := h
  refine wpAny_Call_Name_kw (thn ((pe_var (pos := p) hN hv hdb hcd).run pins s σ H (fun v H1 => v = .ref C ∧ H1 = H) I ⟨.ref C, hs, rfl, rfl⟩) fun u s1 ⟨v, H1, I1, r1, q1⟩ => ?_)
  obtain ⟨rfl, rfl⟩ := q1
  cases r1
  refine PySem.W.callWith_K (h₀ := X.base) I.ok.mod.kin M.kp (thn (ha.run pos pins s1 σ _ _ I1 ht) fun us s2 ⟨vs, H2, I2, r, q⟩ => ⟨I2.kIn, ?_⟩) he hpl
  exact run_make M F hr hb .nil pass0 I2 r q
/-- a classmethod of the class at C -/
def KeepCM (P : Program) (w : World) (K : PySem.W.Frag) (mg : PySem.Str → Option Value) (base : Heap) (k : Nat) (C : Addr) (m : PySem.Str) (ps : List PySem.Str) (sp : Sp) : Prop :=
  ∃ p g fd, ClX.CRead K C (.type "type") ∧ ClX.CMet K C (.type "type") m p g ∧ FnOk P w K mg base CX0 k g fd ps sp ∧ Binds K fd ps []
theorem e_cm {pl : Sem Bool} (M : KeepCM X.prog X.w X.K X.mg X.base k C m ps sp) (hr : Room k X.A) (he : PE X o ta) (ha : PA X (e :: es) t)
    (hst : starEach (e :: es) X.env = (false, eval e X.env) :: starEach es X.env := by rfl) (hpl : (backTo pos (starEach es X.env)).any (·.1) = false := by rfl)
    (ht : eval (.Call (.Attribute o m apos) (e :: es) [] pos) X.env = (do
      let ov ← eval o X.env
      standAt apos.atName
      let (f, first) ← holding [ov] (getMethod ov m pl)
      callWith pos f first (backTo pos (starEach (e :: es) X.env)) (backToKw pos (keywordEach [] X.env))) := by rfl) :
    PE X (.Call (.Attribute o m apos) (e :: es) [] pos) (ClX.tCMeth C sp E0 ta t) := by
  obtain ⟨p, g, fd, r, c, F, hb⟩ := M
  refine ⟨fun pins s σ H Q I h => PySem.W.methodCall_KW (pl := pl) (thn (he.run pins s σ H _ I h) fun u s1 z => ?_) ht⟩
  obtain ⟨x, H1, I1, rx, ex, q⟩ := z
  subst ex
  obtain rfl : u = Value.ref C := rx
  refine ClX.getmethcm_ok I1 r c fun s2 I2 => ?_
  refine ClX.callwith_cm I2 (ClX.base_none I1 (Nat.le_refl _)) c.fi (thn (ha.run pos _ s2 σ H1 _ I2 q) fun us s3 z => ?_) hst hpl
  obtain ⟨vs, H2, I3, rv, q2⟩ := z
  refine ⟨⟨ClX.pin_at I3, I3.kIn⟩, ?_⟩
  have rr : Vals (.ref C :: vs) (.ref C :: us) := .cons rfl rv
  have ll : (Value.ref C :: us ++ []).length = ps.length := by
    rw [List.append_nil]
    exact rr.length ▸ F.len _ _ _ _ q2
  have run := F.run X.A X.stack s3 H2 ⟨.ref C :: us, []⟩ _ _ _ _ hr I3.env0 (hb s3 (.ref C :: us) I3.kIn ll) (by rw [List.append_nil]; exact rr) q2
  have y : wpAny (model X.prog X.w) X.A (call (.ref s1.heap.objs.size) us) (EP X ((s1.heap.objs.size, PySem.W.methodObj (.ref g) (.ref C)) :: pins) σ Q) X.xe s3 :=
    wpAny_call (PySem.W.method_call (ClX.pin_at I3) (codeAny_mono run fun r s' hq => by
      rcases r with e | fl
      · exact pass0 _ σ H2 s3 e s' I3 hq
      · cases fl with
        | ret u => exact I3.after hq
        | _ => exact hq.elim))
  exact thn y fun _ _ z => ClX.unpinE z
theorem r_cm {σ : L2.St} {H : Hp} {Q : VK} (h : ta σ H fun x H1 => x = .ref C ∧ t σ H1 fun vs H2 => sp (.ref C :: vs) H2 Q E0) : ClX.tCMeth C sp E0 ta t σ H Q := h
end
end Wk
end
section
set_option Elab.async false
set_option linter.all false
set_option maxRecDepth 100000
/-! sums and differences of own objects; an int less an own object -/
namespace Wk
open PySem PySem.W
section
variable {prog : Program} {w : World} {A : Around} {E : Value → Shared → Prop} {s : Shared} {K : Frag} {x C L f g dx : Addr} {h₀ : Heap} {m : Str → Option Value} {ox : Obj} {od : Option Obj} {i : Int} {t : Tok}
theorem int_sub_declines {Q : Value → Shared → Prop} (e : s.heap.get? x = some (instObj C dx)) (q : Q .notImplemented s) : wpAny (model prog w) A (call (.builtin "int.__sub__") [.int i t, .ref x]) Q E s := by
  refine wpAny_call (codeAny_call_builtin F.slot_int_sub.plain F.entry_int_sub (F.slot_int_sub.check _ _ _ _ _ _ _ _ (typeIs_int s i t) (F.args_int_sub_2 _ _) ?_))
  unfold Builtin.«int.__sub__» Builtin.Int.intBinary slotArgs Builtin.Int.intOfSelf
  simp only [List.headD, asInt?]
  repeat wp_step
  exact q
set_option maxHeartbeats 4000000 in
/-- an int less an own object: __rsub__ of the class -/
theorem rsub_K {Q : Value → Shared → Prop} (X : K.In s.heap) (I : InstAt s.heap x ox C od) (e : s.heap.get? x = some (instObj C dx)) (hc : selfFirst K C = true) (hsub : subIn K (.ref C) (.type "int") = some false)
    (hs : findIn K (.ref C) "__sub__" = some (some (.ref g))) (hr : findIn K (.ref C) "__rsub__" = some (some (.ref f))) (hf : isFn K (.ref f) = true)
    (h : wpAny (model prog w) A (call (.ref f) [.ref x, .int i t]) (CmpBack Q) E s) : wpAny (model prog w) A (binaryOp .Sub (.int i t) (.ref x)) Q E s := by
  obtain ⟨cd, rest, hcd, hm⟩ := ksp_first hc
  have two := ksp_try X I hr hf h
  have one : wpAny (model prog w) A (tryMethod (.int i t) "__sub__" (.ref x)) (fun r s' => r = none ∧ s' = s) E s :=
    wpAny_tryMethod_declines (typeIs_int s i t) F.slot_int_sub (int_sub_declines e ⟨rfl, rfl, rfl⟩)
  have L1 : Looks (model prog w) s.heap (typeOf (.int i t)) (.type "int") := Looks.of_pure rfl
  have L2 : Looks (model prog w) s.heap (typeOf (.ref x)) (.ref C) := I.type
  have L3 : Looks (model prog w) s.heap (fillsNumberSlot (.ref C) "sub") true := fills_K X hcd hm hs
  have L4 : Looks (model prog w) s.heap (fillsNumberSlot (.type "int") "sub") true := Looks.of_pure F.fills_int_sub
  have L5 : Looks (model prog w) s.heap (isSubtype (.ref C) (.type "int")) false := looks_subIn X hsub
  have L7 : Looks (model prog w) s.heap (numberSlotInPython (.type "int") "sub") false := Looks.of_pure rfl
  have hne : (Value.type "int" == Value.ref C) = false := Bool.eq_false_iff.mpr fun q => by cases beq_iff_eq.mp q
  have hi : Operator.info .Sub = ("-", "sub") := rfl
  simp only [binaryOp, hi]
  refine wpAny_holding (wpAny_bind ?_)
  unfold binaryOp1
  refine wpAny_bind (L1.here (wpAny_bind (L2.here (wpAny_bind (L4.here ?_)))))
  simp only [hne, Bool.false_eq_true, if_false]
  refine wpAny_bind (L3.here ?_)
  simp only [Bool.and_self, if_true]
  refine wpAny_bind (L5.here ?_)
  simp only [Bool.false_eq_true, if_false, Bool.not_false, Bool.and_self, if_true]
  refine wpAny_bind (L7.here ?_)
  simp only [Bool.false_eq_true, if_false]
  refine wpAny_bind (wpAny_mono one (fun r s' hr' => ?_) fun _ _ e => e)
  obtain ⟨rfl, rfl⟩ := hr'
  dsimp only
  refine wpAny_bind (wpAny_mono two (fun r s' hr' => ?_) fun _ _ e => e)
  obtain ⟨v, rfl, hq⟩ := hr'
  dsimp only
  exact wpAny_bind (wpAny_rule (wpAny_pure (wpAny_pure hq)))
end
end Wk
namespace Wk
open PySem PySem.Spec PyProof.Rows L2
section
variable {X : Cx} {C : Addr} {k : Nat} {sp : Sp} {ps : List PySem.Str}
def rBinO (C : Addr) (sp : Sp) : R2 := fun x y H Q => ∃ a b dx fs dy gs, x = .ref a ∧ y = .ref b ∧ H a = some (.ins C dx fs) ∧ H b = some (.ins C dy gs) ∧ sp [x, y] H Q E0
theorem c_addO (M : KeepM X.prog X.w X.K X.mg X.base k C "__add__" ps sp) (sf : PySem.W.selfFirst X.K C = true) (hr : Room k X.A) : OpR X (binaryOp .Add) (rBinO C sp) := by
  intro pins s σ H x y v u Q I rx ry h
  obtain ⟨f, fd, F, M, hb⟩ := M
  obtain ⟨a, b, dx, fs, dy, gs, rfl, rfl, ha, hb', q⟩ := h
  cases (show v = Value.ref a from rx)
  cases (show u = Value.ref b from ry)
  obtain ⟨mA, J, _⟩ := ins_get I.hok ha
  obtain ⟨od, J, _⟩ := J.look
  obtain ⟨mB, JB, _⟩ := ins_get I.hok hb'
  obtain ⟨ob, JB, _⟩ := JB.look
  obtain ⟨m, hF⟩ := I.fr
  refine PySem.W.binop_K (op := .Add) hF I.ok.mod.kin J JB.type sf M.at_ M.fn ?_
  refine wpAny_mono (run_fn (us := [.ref a, .ref b]) (vs := [.ref a, .ref b]) F hr hb .nil pass0 I (.cons rfl (.cons rfl .nil)) q) (fun w s' z => ?_) fun _ _ x => x
  obtain ⟨z', H', I', rz, qz⟩ := z
  exact SlX.cmpback rz ⟨z', H', I', rz, qz⟩
theorem c_subO (M : KeepM X.prog X.w X.K X.mg X.base k C "__sub__" ps sp) (sf : PySem.W.selfFirst X.K C = true) (hr : Room k X.A) : OpR X (binaryOp .Sub) (rBinO C sp) := by
  intro pins s σ H x y v u Q I rx ry h
  obtain ⟨f, fd, F, M, hb⟩ := M
  obtain ⟨a, b, dx, fs, dy, gs, rfl, rfl, ha, hb', q⟩ := h
  cases (show v = Value.ref a from rx)
  cases (show u = Value.ref b from ry)
  obtain ⟨mA, J, _⟩ := ins_get I.hok ha
  obtain ⟨od, J, _⟩ := J.look
  obtain ⟨mB, JB, _⟩ := ins_get I.hok hb'
  obtain ⟨ob, JB, _⟩ := JB.look
  obtain ⟨m, hF⟩ := I.fr
  refine PySem.W.binop_K (op := .Sub) hF I.ok.mod.kin J JB.type sf M.at_ M.fn ?_
  refine wpAny_mono (run_fn (us := [.ref a, .ref b]) (vs := [.ref a, .ref b]) F hr hb .nil pass0 I (.cons rfl (.cons rfl .nil)) q) (fun w s' z => ?_) fun _ _ x => x
  obtain ⟨z', H', I', rz, qz⟩ := z
  exact SlX.cmpback rz ⟨z', H', I', rz, qz⟩
def rRsO (C : Addr) (sp : Sp) : R2 := fun x y H Q => ∃ (i : Int) (b dy : Addr) (gs : List (Str × V)), x = .int i ∧ y = .ref b ∧ H b = some (.ins C dy gs) ∧ sp [y, x] H Q E0
theorem c_rsubO (M : KeepM X.prog X.w X.K X.mg X.base k C "__rsub__" ps sp) (sf : PySem.W.selfFirst X.K C = true) (hs : ∃ g : Addr, PySem.W.findIn X.K (.ref C) "__sub__" = some (some (.ref g))) (hi : PySem.W.subIn X.K (.ref C) (.type "int") = some false) (hr : Room k X.A) : OpR X (binaryOp .Sub) (rRsO C sp) := by
  intro pins s σ H x y v u Q I rx ry h
  obtain ⟨f, fd, F, M, hb⟩ := M
  obtain ⟨i, b, dy, gs, rfl, rfl, hb', q⟩ := h
  obtain ⟨g, hs⟩ := hs
  cases (show u = Value.ref b from ry)
  obtain ⟨t, rfl⟩ : ∃ t, v = Value.int i t := rx
  obtain ⟨mB, JB, _⟩ := ins_get I.hok hb'
  obtain ⟨ob, JB, _⟩ := JB.look
  obtain ⟨_, _, _, eb, _⟩ := (show ObjOk _ _ H s.heap b (.ins C dy gs) from I.hok b _ hb')
  refine rsub_K I.kIn JB eb sf hi hs M.at_ M.fn ?_
  refine wpAny_mono (run_fn (us := [.ref b, .int i t]) (vs := [.ref b, .int i]) F hr hb .nil pass0 I (.cons rfl (.cons ⟨t, rfl⟩ .nil)) q) (fun w s' z => ?_) fun _ _ x => x
  obtain ⟨z', H', I', rz, qz⟩ := z
  exact SlX.cmpback rz ⟨z', H', I', rz, qz⟩
end
end Wk
end
section
set_option Elab.async false
set_option linter.all false
set_option maxRecDepth 100000
namespace Wk
open PySem PySem.Spec PyProof.Rows L2
local macro_rules | `(tactic| walk_at "hp") => `(tactic| first | assumption | exact upd_same | exact (upd_ne (ne_of_none (by assumption) (by assumption))).trans (by assumption) | (rw [upd_ne (by first | assumption | exact Ne.symm (by assumption))]; walk_at "hp"))
local macro_rules | `(tactic| walk_at "sq") => `(tactic| first | assumption | exact SqL.of (by assumption) | exact SqT.of (by assumption) | exact SqL.of (by walk_at "hp") | exact SqT.of (by walk_at "hp") | (refine Same.seq ?_ ?_ <;> assumption))
local macro_rules | `(tactic| walk_at "cmul") => `(tactic| first | exact .inr ⟨by decide, by decide⟩ | exact .inl ⟨by decide, by decide⟩ | exact .inr ⟨by omega, by omega⟩ | exact .inl ⟨by omega, by omega⟩)
local macro_rules | `(tactic| walk_at "cdiv") => `(tactic| first | exact ⟨by decide, by decide⟩ | exact wide_div (b := 64) (by omega) (by omega) (by decide) (by decide) | exact wide_div (b := 128) (by omega) (by omega) (by decide) (by decide))
local macro_rules | `(tactic| walk_at "rd1") => `(tactic| first
  | ((with_reducible show tVar _ _ _ _); refine Wk.r_var rfl ?_)
  | (with_reducible first
    | refine Wk.r_c ?_ | refine Wk.r_op ?_ | refine Wk.r_cons ?_ | refine Wk.r_nil ?_
    | refine Wk.r_seq ?_ | refine Wk.r_next ?_ | refine Wk.r_set ?_ | refine Wk.r_asgS ?_ | refine Wk.r_ret ?_ | refine Wk.r_drop ?_ | refine Wk.r_if ?_
    | refine Wk.r_asgG ?_ | refine Wk.r_gName ?_ | refine Wk.r_gCons ?_ | refine Wk.r_gNil ?_ | refine Wk.r_par ?_ | refine Wk.r_par3 ?_ | refine Wk.r_lstRg1 ?_ | refine Wk.r_tupRg1 ?_ | refine ⟨_, _, _, rfl, ?_⟩ | refine Wk.r_un ?_ | refine Wk.r_I0 ?_ | refine Wk.r_U ?_
    | refine Wk.r_test ?_ | refine Wk.r_B ?_ | refine Wk.r_k ?_ | refine Wk.r_not ?_ | refine Wk.r_and ?_ | refine Wk.r_or ?_ | refine Wk.r_andV ?_ | refine Wk.r_orV ?_ | refine Wk.r_notV ?_
    | refine Wk.r_CB ?_ | refine Wk.r_chain ?_ | refine Wk.r_fld ?_ | refine Wk.r_sfld ?_ | refine Wk.r_lst ?_ | refine Wk.r_tup ?_ | refine Wk.r_call ?_ | refine Wk.r_BM ?_ | refine Wk.r_BM0 ?_ | refine Wk.r_T ?_ | refine Wk.r_nT ?_ | refine Wk.r_nF ?_ | refine Wk.r_F ?_
    | refine Or.inl ⟨_, rfl, ?_⟩ | refine Or.inr ⟨_, rfl, ?_⟩ | refine ⟨_, rfl, ?_⟩ | refine ⟨_, _, rfl, ?_⟩)
  | ((with_reducible refine Wk.r_eq ?c0 ?_); (case c0 => rfl)) | ((with_reducible refine Wk.r_ne ?c0 ?_); (case c0 => rfl))
  | ((with_reducible refine Wk.r_pow ?c0 ?_); (case c0 => exact ⟨by decide, by decide, by decide⟩))
  | ((with_reducible refine Wk.r_mul ?c0 ?_); (case c0 => walk_at "cmul")) | ((with_reducible refine Wk.r_mod ?c0 ?_); (case c0 => first | decide | omega)) | ((with_reducible refine Wk.r_div ?c0 ?_); (case c0 => walk_at "cdiv"))
  | ((with_reducible refine Wk.r_new ?c0 ?_); (case c0 => (simp only [List.length_cons, List.length_nil]; omega)))
  | ((with_reducible show gTup _ _ _ _ _ _ _); refine Wk.r_gTup (by walk_at "sq") (by rfl) ?_)
  | (refine Wk.r_tyL (by walk_at "hp") ?_)
  | ((with_reducible show rSetL _ _ _ _ _); refine Wk.r_setL (by walk_at "hp") (by rfl) ?_)
  | ((with_reducible show rIxL _ _ _ _ _); refine Wk.r_ixL (by walk_at "sq") (by rfl) ?_) | ((with_reducible show rIxT _ _ _ _ _); refine Wk.r_ixT (by walk_at "sq") (by rfl) ?_)
  | ((with_reducible show rLenOf _ _ _ _); first | refine Wk.n_lenL (by walk_at "sq") ?_ | refine Wk.n_lenT (by walk_at "sq") ?_)
  | ((with_reducible show rListOf _ _ _ _); first | refine Wk.n_listL (by walk_at "sq") ?_ | refine Wk.n_listT (by walk_at "sq") ?_)
  | ((with_reducible show rTupZ _ _ _ _); first | refine Wk.z_tupL (by walk_at "sq") ?_ | refine Wk.z_tupT (by walk_at "sq") ?_)
  | ((with_reducible show rTupOf _ _ _ _); first | refine Wk.n_tupL (by walk_at "sq") ?_ | refine Wk.n_tupT (by walk_at "sq") ?_))
local macro_rules | `(tactic| walk_at "rd") => `(tactic| repeat (walk_at "rd1"))
local macro_rules | `(tactic| walk_at "rd1") => `(tactic| (with_reducible first | refine Wk.r_dget ?_ | refine Wk.r_din ?_ | refine Wk.r_dnotin ?_ | refine Wk.r_dput ?_ | refine Wk.r_pairs ?_ | refine Wk.r_pairs0 ?_ | refine Wk.r_sl ?_ | refine Wk.r_part ?_ | refine Wk.r_nopart ?_ | refine Wk.r_augS ?_ | refine Wk.r_ipI ?_ | refine Wk.r_aug rfl ?_ | refine Wk.r_revT ?_))

section
variable {P : Program} {w : World} {K : PySem.W.Frag} {mg : Str → Option Value} {base : Heap}
def spLInv : Sp := fun vs H Q _ => ∃ (a n e : Nat) (m : Nat → Nat → Nat) (inv : Nat → Nat), vs = [.ref a] ∧ GL H a n m ∧ n ≤ 48 ∧ G.Grp n m ∧ G.IsNe n m e ∧ G.InvOf n m e inv ∧ ∀ H' c, Same H H' → H c = none → H' c = some (.lst (natsV n inv)) → Q (.ref c) H'
theorem k__law_inverses (T : Txt mg) (k__law_neutral : Keep P w K mg base 1 "_law_neutral" ["table"] spLNeuG) (a : At K mg "_law_inverses" s__law_inverses ["table"]) : Keep P w K mg base 2 "_law_inverses" ["table"] spLInv := by
  refine Keep.of a sc__law_inverses (fun vs H Q E h => ?_) (fun fa cdv A outer s H vs Q E hr h => ?_)
  · obtain ⟨_, _, _, _, _, rfl, _⟩ := h
    rfl
  · obtain ⟨a, n, e, m, inv, rfl, gl, hn, g, he, iv, kk⟩ := h
    obtain ⟨L, hL, len, rL⟩ := gl.get
    refine ⟨_, (pss_cons (ps_set (i := 1) sc__law_inverses.nd rfl (by first | exact Or.inl rfl | exact Or.inr rfl) (pe_k k__law_neutral (hr.mono (by decide)) (by rfl) (pa_cons (pv 0) pa_nil)))
    (pss_one (ps_ret (pe_lc (own := [("row", 2)]) rfl sc__law_inverses.nd (i_list K (pv 0)) (blkOk_by (N := ["table", "e", "row"]) (sc := defScope s__law_inverses) (by decide +kernel)) (fun _ _ _ _ _ => (pg_name (i := 2) sc__law_inverses.nd rfl (by first | exact Or.inl rfl | exact Or.inr rfl))) (fun _ _ _ _ _ => pts_nil) (fun _ _ _ _ _ => (e_bm K PySem.F.plainAttrs_list PySem.F.slot_list_index PySem.F.type_list_index (m_index K) (pv 2) (pa_cons (pv 1) pa_nil))))))), ?_⟩
    walk_at "rd"
    refine ⟨a, n, e, m, rfl, gl, hn, g, he, ?_⟩
    walk_at "rd"
    refine lc_lst (fun i v _ => v = V.int ((inv i : Nat) : Int)) (SqL.of hL) (by omega) (fun R' h => ?_) (fun i => mut_val) (fun i y H2 Q' hy s2 k2 => ?_) (fun D L2 H2 hD s2 hL2 len2 r => ?_)
    · walk_at "rd"
      exact h
    · have hi : i < n := by have := (List.getElem?_eq_some_iff.mp hy).1; omega
      obtain ⟨b, e1, e2⟩ := rL i hi
      rw [e1] at hy
      cases hy
      have hb := s2 _ _ e2
      have il := (iv i hi).1
      walk_at "rd"
      refine ⟨b, _, .int (e : Int), inv i, .int (e : Int), rfl, rfl, SqL.of hb, rfl, ?_, ?_, ?_, ?_, ?_⟩
      · exact List.all_eq_true.mpr fun v hv => by
          obtain ⟨k, hk⟩ := List.mem_iff_getElem?.mp hv
          have hk2 : k < n := by have := (List.getElem?_eq_some_iff.mp hk).1; rw [rowV_len] at this; exact this
          rw [rowV_get hk2] at hk
          cases hk
          rfl
      · rw [rowV_get il, (iv i hi).2.1]
      · simp [eqV]
      · intro k z hk hz
        have hk2 : k < n := by omega
        rw [rowV_get hk2] at hz
        cases hz
        simp only [eqV]
        refine decide_eq_false fun q => ?_
        have q : m i k = e := by omega
        have := G.inv_uniq g he hi hk2 il q (iv i hi).2.2
        omega
      · exact k2 _ _ (Same.refl _) rfl
    · have eL : L2 = natsV n inv := list_const (by rw [len2, len]) r
      rw [eL] at hL2
      exact kk _ D s2 hD hL2
end
end Wk
end
section
set_option Elab.async false
set_option linter.all false
set_option maxRecDepth 100000
set_option exponentiation.threshold 3000
namespace Wk
open PySem PySem.Spec PyProof.Rows L2
local macro_rules | `(tactic| walk_at "hp") => `(tactic| first | assumption | exact upd_same | exact (upd_ne (ne_of_none (by assumption) (by assumption))).trans (by assumption) | (rw [upd_ne (by first | assumption | exact Ne.symm (by assumption))]; walk_at "hp"))
local macro_rules | `(tactic| walk_at "sq") => `(tactic| first | assumption | exact SqL.of (by assumption) | exact SqT.of (by assumption) | exact SqL.of (by walk_at "hp") | exact SqT.of (by walk_at "hp") | (refine Same.seq ?_ ?_ <;> assumption))
local macro_rules | `(tactic| walk_at "cmul") => `(tactic| first | exact .inr ⟨by decide, by decide⟩ | exact .inl ⟨by decide, by decide⟩ | exact .inr ⟨by omega, by omega⟩ | exact .inl ⟨by omega, by omega⟩)
local macro_rules | `(tactic| walk_at "cdiv") => `(tactic| first | exact ⟨by decide, by decide⟩ | exact wide_div (b := 64) (by omega) (by omega) (by decide) (by decide) | exact wide_div (b := 128) (by omega) (by omega) (by decide) (by decide))
local macro_rules | `(tactic| walk_at "rd1") => `(tactic| first
  | ((with_reducible show tVar _ _ _ _); refine Wk.r_var rfl ?_)
  | (with_reducible first
    | refine Wk.r_c ?_ | refine Wk.r_op ?_ | refine Wk.r_cons ?_ | refine Wk.r_nil ?_
    | refine Wk.r_seq ?_ | refine Wk.r_next ?_ | refine Wk.r_set ?_ | refine Wk.r_asgS ?_ | refine Wk.r_ret ?_ | refine Wk.r_drop ?_ | refine Wk.r_if ?_
    | refine Wk.r_asgG ?_ | refine Wk.r_gName ?_ | refine Wk.r_gCons ?_ | refine Wk.r_gNil ?_ | refine Wk.r_par ?_ | refine Wk.r_par3 ?_ | refine Wk.r_lstRg1 ?_ | refine Wk.r_tupRg1 ?_ | refine ⟨_, _, _, rfl, ?_⟩ | refine Wk.r_un ?_ | refine Wk.r_I0 ?_ | refine Wk.r_U ?_
    | refine Wk.r_test ?_ | refine Wk.r_B ?_ | refine Wk.r_k ?_ | refine Wk.r_not ?_ | refine Wk.r_and ?_ | refine Wk.r_or ?_ | refine Wk.r_andV ?_ | refine Wk.r_orV ?_ | refine Wk.r_notV ?_
    | refine Wk.r_CB ?_ | refine Wk.r_chain ?_ | refine Wk.r_fld ?_ | refine Wk.r_sfld ?_ | refine Wk.r_lst ?_ | refine Wk.r_tup ?_ | refine Wk.r_call ?_ | refine Wk.r_BM ?_ | refine Wk.r_BM0 ?_ | refine Wk.r_T ?_ | refine Wk.r_nT ?_ | refine Wk.r_nF ?_ | refine Wk.r_F ?_
    | refine Or.inl ⟨_, rfl, ?_⟩ | refine Or.inr ⟨_, rfl, ?_⟩ | refine ⟨_, rfl, ?_⟩ | refine ⟨_, _, rfl, ?_⟩)
  | ((with_reducible refine Wk.r_eq ?c0 ?_); (case c0 => rfl)) | ((with_reducible refine Wk.r_ne ?c0 ?_); (case c0 => rfl))
  | ((with_reducible refine Wk.r_pow ?c0 ?_); (case c0 => exact ⟨by decide, by decide, by decide⟩))
  | ((with_reducible refine Wk.r_mul ?c0 ?_); (case c0 => walk_at "cmul")) | ((with_reducible refine Wk.r_mod ?c0 ?_); (case c0 => first | decide | omega)) | ((with_reducible refine Wk.r_div ?c0 ?_); (case c0 => walk_at "cdiv"))
  | ((with_reducible refine Wk.r_new ?c0 ?_); (case c0 => (simp only [List.length_cons, List.length_nil]; omega)))
  | ((with_reducible show gTup _ _ _ _ _ _ _); refine Wk.r_gTup (by walk_at "sq") (by rfl) ?_)
  | (refine Wk.r_tyL (by walk_at "hp") ?_)
  | ((with_reducible show rSetL _ _ _ _ _); refine Wk.r_setL (by walk_at "hp") (by rfl) ?_)
  | ((with_reducible show rIxL _ _ _ _ _); refine Wk.r_ixL (by walk_at "sq") (by rfl) ?_) | ((with_reducible show rIxT _ _ _ _ _); refine Wk.r_ixT (by walk_at "sq") (by rfl) ?_)
  | ((with_reducible show rLenOf _ _ _ _); first | refine Wk.n_lenL (by walk_at "sq") ?_ | refine Wk.n_lenT (by walk_at "sq") ?_)
  | ((with_reducible show rListOf _ _ _ _); first | refine Wk.n_listL (by walk_at "sq") ?_ | refine Wk.n_listT (by walk_at "sq") ?_)
  | ((with_reducible show rTupZ _ _ _ _); first | refine Wk.z_tupL (by walk_at "sq") ?_ | refine Wk.z_tupT (by walk_at "sq") ?_)
  | ((with_reducible show rTupOf _ _ _ _); first | refine Wk.n_tupL (by walk_at "sq") ?_ | refine Wk.n_tupT (by walk_at "sq") ?_))
local macro_rules | `(tactic| walk_at "rd") => `(tactic| repeat (walk_at "rd1"))
local macro_rules | `(tactic| walk_at "rd1") => `(tactic| (with_reducible first | refine Wk.r_dget ?_ | refine Wk.r_din ?_ | refine Wk.r_dnotin ?_ | refine Wk.r_dput ?_ | refine Wk.r_pairs ?_ | refine Wk.r_pairs0 ?_ | refine Wk.r_sl ?_ | refine Wk.r_part ?_ | refine Wk.r_nopart ?_ | refine Wk.r_augS ?_ | refine Wk.r_ipI ?_ | refine Wk.r_aug rfl ?_ | refine Wk.r_revT ?_))

section
variable {P : Program} {w : World} {K : PySem.W.Frag} {mg : Str → Option Value} {base : Heap}
structure TxSh (K : PySem.W.Frag) (mg : Str → Option Value) (S : Addr) : Prop extends Txt mg where
  n_gcd : mg "gcd" = some (.builtin "math.gcd")
  n_Share : mg "Share" = some (.ref S)
  cs : Cls K S
  sT : NoAttr K S "top"
  sB : NoAttr K S "bottom"
  sA : PySem.W.findIn K (.ref S) "__class__" = some (some (.builtin "object.__class__"))
  sD : PySem.W.mroIn K S (.type "object") = some true
  iB : PySem.W.specialIn K (.builtin "object.__class__") "__get__" = some (some (.builtin "getset_descriptor.__get__"))
  iC : PySem.W.takesIn K (.builtin "object.__class__") = some true
/-- a share of t to b, in lowest terms -/
def ShL (S : Addr) (H : Hp) (a : Addr) (t : Int) (b : Nat) : Prop := ∃ (dx : Addr) (fs : List (Str × V)), H a = some (.ins S dx fs) ∧ fs.lookup ("top" : Str) = some (.int (t / ((Nat.gcd t.natAbs b : Nat) : Int))) ∧ fs.lookup ("bottom" : Str) = some (.int ((b / Nat.gcd t.natAbs b : Nat) : Int))
theorem ShL.mono {S : Addr} {H H' : Hp} {a : Addr} {t : Int} {b : Nat} (s : Same H H') (h : ShL S H a t b) : ShL S H' a t b := let ⟨dx, fs, e, h⟩ := h; ⟨dx, fs, s _ _ e, h⟩
theorem ShL.mut {S p : Addr} {H H' : Hp} {a : Addr} {t : Int} {b : Nat} {L : List V} (hp : H p = some (.lst L)) (s : ExP p H H') (h : ShL S H a t b) : ShL S H' a t b := let ⟨dx, fs, e, h⟩ := h; ⟨dx, fs, s _ _ (fun q => by rw [q, hp] at e; cases e) e, h⟩
theorem ne_tb : ¬ (("top" : Str) = "bottom") := by decide +kernel
def spShI (S : Addr) : Sp := fun vs H Q _ => ∃ (p dx : Addr) (t : Int) (b : Nat), vs = [.ref p, .int t, .int (b : Int)] ∧ H p = some (.ins S dx []) ∧ 0 < b ∧ b < 2 ^ 2000 ∧ ∀ H', ExP p H H' → ShL S H' p t b → Q .non H'
theorem ok_shinit {S f : Addr} {fd : FuncData} (T : TxSh K mg S) (k_is_whole : Keep P w K mg base 1 "is_whole" ["value"] spWhole) (F : Fun K "__init__" "Share.__init__" s_Share___init__ f fd) : FnOk P w K mg base CX0 2 f fd ["self", "top", "bottom"] (spShI S) := by
  refine F.okG sc_Share___init__ (fun vs H Q E h => ?_) (fun cdv A outer s H vs Q E hr h => ?_)
  · obtain ⟨_, _, _, _, rfl, _⟩ := h
    rfl
  · obtain ⟨p, dx, t, b, rfl, hp, hb, hb2, kk⟩ := h
    have g0 : 0 < Nat.gcd t.natAbs b := Nat.gcd_pos_of_pos_right _ hb
    have gb : Nat.gcd t.natAbs b ≤ b := Nat.gcd_le_right _ hb
    refine ⟨_, (pss_cons (ps_if (pt_not (pt_val (pe_k k_is_whole (hr.mono (by decide)) (by rfl) (pa_cons (pv 1) pa_nil)))) (pss_one ps_never) pss_nil)
    (pss_cons (ps_if (PW.pt (pw_or (pt_not (pt_val (pe_k k_is_whole (hr.mono (by decide)) (by rfl) (pa_cons (pv 2) pa_nil)))) (pw_or1 (pt_cmpR op_lt (pv 2) pe_int (nomark _))))) (pss_one ps_never) pss_nil)
    (pss_cons (ps_set (i := 3) sc_Share___init__.nd rfl (by first | exact Or.inl rfl | exact Or.inr rfl) (pe_callBfun cr_gcd (by rfl) T.n_gcd (pa_cons (pv 1) (pa_cons (pv 2) pa_nil))))
    (pss_cons (ps_fld (pv 0) (pe_op op_fdivW (pv 1) (pv 3)) rfl)
    (pss_one (ps_fld (pv 0) (pe_op op_fdivW (pv 2) (pv 3)) rfl)))))), ?_⟩
    walk_at "rd"
    refine ⟨_, rfl, ?_⟩
    walk_at "rd"
    refine ⟨_, rfl, ?_⟩
    walk_at "rd"
    refine r_if1 (fun c => absurd c (by omega)) (fun _ => ?_)
    walk_at "rd"
    refine ⟨_, _, rfl, ?_⟩
    rw [Int.natAbs_natCast]
    unfold ShL at kk
    generalize hg : Nat.gcd t.natAbs b = g at g0 gb kk ⊢
    have gl : ∀ z : Int, CDivW z ((g : Nat) : Int) := fun z => wide_div (b := 2000) (by omega) (by rw [Int.natAbs_natCast]; exact Nat.lt_of_le_of_lt gb hb2) (by decide) (by decide)
    walk_at "rd"
    refine Wk.r_div (gl _) ?_
    walk_at "rd"
    refine ⟨_, _, _, _, rfl, hp, T.cs, T.sT, by show 0 < 1000; decide, ?_⟩
    generalize hf1 : putF "top" (V.int (t / (g : Int))) [] = f1
    have l1 : f1.length ≤ 1 := by rw [← hf1]; exact putF_len (Nat.le_refl 0)
    have t1 : f1.lookup ("top" : Str) = some (.int (t / (g : Int))) := by rw [← hf1, lookup_putF, if_pos rfl]
    walk_at "rd"
    refine Wk.r_div (gl _) ?_
    walk_at "rd"
    refine ⟨_, _, _, _, rfl, upd_same, T.cs, T.sB, by omega, ?_⟩
    rw [upd_upd]
    walk_at "rd"
    refine kk _ ExP.upd ⟨_, _, upd_same, ?_, ?_⟩
    · rw [lookup_putF, if_neg ne_tb, t1]
    · rw [lookup_putF, if_pos rfl, Int.natCast_ediv]
def spOf (S : Addr) : Sp := fun vs H Q _ => ∃ (t : Int) (b : Nat), vs = [.ref S, .int t, .int (b : Int)] ∧ 0 < b ∧ b < 2 ^ 2000 ∧ ∀ H' p, Same H H' → H p = none → ShL S H' p t b → Q (.ref p) H'
theorem ok_of {S f : Addr} {fd : FuncData} (T : TxSh K mg S) (k_Share : KeepC0 P w K mg base 2 S ["self", "top", "bottom"] (spShI S)) (F : Fun K "of" "Share.of" s_Share_of f fd) : FnOk P w K mg base CX0 4 f fd ["cls", "part", "whole"] (spOf S) := by
  refine F.okG sc_Share_of (fun vs H Q E h => ?_) (fun cdv A outer s H vs Q E hr h => ?_)
  · obtain ⟨_, _, rfl, _⟩ := h
    rfl
  · obtain ⟨t, b, rfl, hb, hb2, kk⟩ := h
    refine ⟨_, (pss_one (ps_ret (e_makeL (i := 0) k_Share (hr.mono (by decide)) (pa_cons (pv 1) (pa_cons (pv 2) pa_nil))))), ?_⟩
    walk_at "rd"
    refine ⟨rfl, r_make ?_⟩
    walk_at "rd"
    intro p dx np nd ne
    refine ⟨p, dx, t, b, rfl, upd_same, hb, hb2, fun H2 x2 o2 => ⟨rfl, ?_⟩⟩
    have sN := (same_new (o := HO.own p) nd).trans (same_new (o := HO.ins S dx []) (show upd H dx (.own p) p = none by rw [upd_ne ne.symm]; exact np))
    exact kk _ p (fun b o e => x2 b o (ne_of_none e np) (sN b o e)) np o2
end
end Wk
end
section
set_option Elab.async false
set_option linter.all false
set_option maxRecDepth 100000
namespace Wk
open PySem PySem.Spec PyProof.Rows L2
local macro_rules | `(tactic| walk_at "hp") => `(tactic| first | assumption | exact upd_same | exact (upd_ne (ne_of_none (by assumption) (by assumption))).trans (by assumption) | (rw [upd_ne (by first | assumption | exact Ne.symm (by assumption))]; walk_at "hp"))
local macro_rules | `(tactic| walk_at "sq") => `(tactic| first | assumption | exact SqL.of (by assumption) | exact SqT.of (by assumption) | exact SqL.of (by walk_at "hp") | exact SqT.of (by walk_at "hp") | (refine Same.seq ?_ ?_ <;> assumption))
local macro_rules | `(tactic| walk_at "cmul") => `(tactic| first | exact .inr ⟨by decide, by decide⟩ | exact .inl ⟨by decide, by decide⟩ | exact .inr ⟨by omega, by omega⟩ | exact .inl ⟨by omega, by omega⟩)
local macro_rules | `(tactic| walk_at "cdiv") => `(tactic| first | exact ⟨by decide, by decide⟩ | exact wide_div (b := 64) (by omega) (by omega) (by decide) (by decide) | exact wide_div (b := 128) (by omega) (by omega) (by decide) (by decide))
local macro_rules | `(tactic| walk_at "rd1") => `(tactic| first
  | ((with_reducible show tVar _ _ _ _); refine Wk.r_var rfl ?_)
  | (with_reducible first
    | refine Wk.r_c ?_ | refine Wk.r_op ?_ | refine Wk.r_cons ?_ | refine Wk.r_nil ?_
    | refine Wk.r_seq ?_ | refine Wk.r_next ?_ | refine Wk.r_set ?_ | refine Wk.r_asgS ?_ | refine Wk.r_ret ?_ | refine Wk.r_drop ?_ | refine Wk.r_if ?_
    | refine Wk.r_asgG ?_ | refine Wk.r_gName ?_ | refine Wk.r_gCons ?_ | refine Wk.r_gNil ?_ | refine Wk.r_par ?_ | refine Wk.r_par3 ?_ | refine Wk.r_lstRg1 ?_ | refine Wk.r_tupRg1 ?_ | refine ⟨_, _, _, rfl, ?_⟩ | refine Wk.r_un ?_ | refine Wk.r_I0 ?_ | refine Wk.r_U ?_
    | refine Wk.r_test ?_ | refine Wk.r_B ?_ | refine Wk.r_k ?_ | refine Wk.r_not ?_ | refine Wk.r_and ?_ | refine Wk.r_or ?_ | refine Wk.r_andV ?_ | refine Wk.r_orV ?_ | refine Wk.r_notV ?_
    | refine Wk.r_CB ?_ | refine Wk.r_chain ?_ | refine Wk.r_fld ?_ | refine Wk.r_sfld ?_ | refine Wk.r_lst ?_ | refine Wk.r_tup ?_ | refine Wk.r_call ?_ | refine Wk.r_BM ?_ | refine Wk.r_BM0 ?_ | refine Wk.r_T ?_ | refine Wk.r_nT ?_ | refine Wk.r_nF ?_ | refine Wk.r_F ?_
    | refine Or.inl ⟨_, rfl, ?_⟩ | refine Or.inr ⟨_, rfl, ?_⟩ | refine ⟨_, rfl, ?_⟩ | refine ⟨_, _, rfl, ?_⟩)
  | ((with_reducible refine Wk.r_eq ?c0 ?_); (case c0 => rfl)) | ((with_reducible refine Wk.r_ne ?c0 ?_); (case c0 => rfl))
  | ((with_reducible refine Wk.r_pow ?c0 ?_); (case c0 => exact ⟨by decide, by decide, by decide⟩))
  | ((with_reducible refine Wk.r_mul ?c0 ?_); (case c0 => walk_at "cmul")) | ((with_reducible refine Wk.r_mod ?c0 ?_); (case c0 => first | decide | omega)) | ((with_reducible refine Wk.r_div ?c0 ?_); (case c0 => walk_at "cdiv"))
  | ((with_reducible refine Wk.r_new ?c0 ?_); (case c0 => (simp only [List.length_cons, List.length_nil]; omega)))
  | ((with_reducible show gTup _ _ _ _ _ _ _); refine Wk.r_gTup (by walk_at "sq") (by rfl) ?_)
  | (refine Wk.r_tyL (by walk_at "hp") ?_)
  | ((with_reducible show rSetL _ _ _ _ _); refine Wk.r_setL (by walk_at "hp") (by rfl) ?_)
  | ((with_reducible show rIxL _ _ _ _ _); refine Wk.r_ixL (by walk_at "sq") (by rfl) ?_) | ((with_reducible show rIxT _ _ _ _ _); refine Wk.r_ixT (by walk_at "sq") (by rfl) ?_)
  | ((with_reducible show rLenOf _ _ _ _); first | refine Wk.n_lenL (by walk_at "sq") ?_ | refine Wk.n_lenT (by walk_at "sq") ?_)
  | ((with_reducible show rListOf _ _ _ _); first | refine Wk.n_listL (by walk_at "sq") ?_ | refine Wk.n_listT (by walk_at "sq") ?_)
  | ((with_reducible show rTupZ _ _ _ _); first | refine Wk.z_tupL (by walk_at "sq") ?_ | refine Wk.z_tupT (by walk_at "sq") ?_)
  | ((with_reducible show rTupOf _ _ _ _); first | refine Wk.n_tupL (by walk_at "sq") ?_ | refine Wk.n_tupT (by walk_at "sq") ?_))
local macro_rules | `(tactic| walk_at "rd") => `(tactic| repeat (walk_at "rd1"))
local macro_rules | `(tactic| walk_at "rd1") => `(tactic| (with_reducible first | refine Wk.r_dget ?_ | refine Wk.r_din ?_ | refine Wk.r_dnotin ?_ | refine Wk.r_dput ?_ | refine Wk.r_pairs ?_ | refine Wk.r_pairs0 ?_ | refine Wk.r_sl ?_ | refine Wk.r_part ?_ | refine Wk.r_nopart ?_ | refine Wk.r_augS ?_ | refine Wk.r_ipI ?_ | refine Wk.r_aug rfl ?_ | refine Wk.r_revT ?_))

section
variable {P : Program} {w : World} {K : PySem.W.Frag} {mg : Str → Option Value} {base : Heap}
def spFb (K : PySem.W.Frag) (C : Addr) : Sp := fun vs H Q _ => ∃ (g1 g2 t n k : Nat) (m1 m2 : Nat → Nat → Nat) (f : Nat → Nat), vs = [.ref g1, .ref g2, .ref t] ∧ GrpO K C H g1 n m1 ∧ GrpO K C H g2 k m2 ∧ MapT K H t n k f ∧ (G.Hom n m1 m2 f → ∀ H', Same H H' → Q .non H') ∧ (¬ G.Hom n m1 m2 f → ∀ H' u, Same H H' → Q (.ref u) H')
theorem k_first_broken {C : Addr} (T : TxG K mg C) (k_require_map : Keep P w K mg base 6 "require_map" ["one", "other", "value"] (spMap K C .non)) (a : At K mg "first_broken" s_first_broken ["one", "other", "f"]) : Keep P w K mg base 7 "first_broken" ["one", "other", "f"] (spFb K C) := by
  refine Keep.of a sc_first_broken (fun vs H Q E h => ?_) (fun fa cdv A outer s H vs Q E hr h => ?_)
  · obtain ⟨_, _, _, _, _, _, _, _, rfl, _⟩ := h
    rfl
  · obtain ⟨g1, g2, t, n, k, m1, m2, f, rfl, h1, h2, mt, kk, kk2⟩ := h
    refine ⟨_, (pss_cons (ps_expr (pe_k k_require_map (hr.mono (by decide)) (by rfl) (pa_cons (pv 0) (pa_cons (pv 1) (pa_cons (pv 2) pa_nil)))))
    (pss_cons (ps_for PassesOwn.never rfl (i_enumT K (by rfl) T.n_enumerate (pa_cons (e_fld K (pv 0) rfl) pa_nil)) (pg_tup rfl (pgs_cons (pg_name (i := 3) sc_first_broken.nd rfl (by first | exact Or.inl rfl | exact Or.inr rfl)) (pgs_cons (pg_name (i := 4) sc_first_broken.nd rfl (by first | exact Or.inl rfl | exact Or.inr rfl)) pgs_nil))) (pss_one (ps_for PassesOwn.never rfl (i_enumT K (by rfl) T.n_enumerate (pa_cons (pv 4) pa_nil)) (pg_tup rfl (pgs_cons (pg_name (i := 5) sc_first_broken.nd rfl (by first | exact Or.inl rfl | exact Or.inr rfl)) (pgs_cons (pg_name (i := 6) sc_first_broken.nd rfl (by first | exact Or.inl rfl | exact Or.inr rfl)) pgs_nil))) (pss_one (ps_if (pt_cmpR op_ne (pe_ix (x_tup K) (pe_ix (x_tup K) (e_fld K (pv 1) rfl) (pe_ix (x_tup K) (pv 2) (pv 3) (fun _ _ => rfl)) (fun _ _ => rfl)) (pe_ix (x_tup K) (pv 2) (pv 5) (fun _ _ => rfl)) (fun _ _ => rfl)) (pe_ix (x_tup K) (pv 2) (pv 6) (fun _ _ => rfl)) (nomark _)) (pss_one (ps_ret (pe_tup (pa_cons (pv 3) (pa_cons (pv 5) pa_nil))))) pss_nil)))))
    (pss_one (ps_ret pe_non)))), ?_⟩
    walk_at "rd"
    refine ⟨g1, g2, t, n, k, m1, m2, f, rfl, h1, h2, mt, fun H1 s1 => ?_⟩
    obtain ⟨dx1, t1, iv1, e1, inv1, o1⟩ := h1.mono s1
    obtain ⟨dx2, t2, iv2, e2, inv2, o2⟩ := h2.mono s1
    have mt1 := mt.mono s1
    obtain ⟨L1, hL1, hR1⟩ := id o1.tab
    obtain ⟨L2', hL2, hR2⟩ := id o2.tab
    have hn := o1.le
    walk_at "rd"
    refine f_enumT (fun i σ' H' => ∃ v3 v4 v5 v6 : Option V, σ' = [some (.ref g1), some (.ref g2), some (.ref t), v3, v4, v5, v6] ∧ Same H1 H' ∧ ∀ x y, x < i → y < n → f (m1 x y) = m2 (f x) (f y)) hL1 (fun R' h => ?_) ⟨_, _, _, _, rfl, Same.refl _, fun x y hx => absurd hx (by omega)⟩ (fun i σ' H' ⟨_, _, _, _, _, s, _⟩ => s.sqT hL1) ?_ ?_ (fun v σ H R R' h q => g2_mono v σ H R R' h q)
    · walk_at "rd"
      refine ⟨_, _, _, _, _, rfl, o1.ins, T.cl, T.nT, gf_table, ?_⟩
      exact h
    · rintro x y σ' H' Tp hy ⟨v3, v4, v5, v6, rfl, s2, ho⟩ hTp
      obtain ⟨hx, b, rfl, hb⟩ := Rows.row hR1 hy
      have sT := same_new (o := .tup [.int (x : Int), .ref b]) hTp
      have hT3 : upd H' Tp (.tup [.int (x : Int), .ref b]) Tp = some (.tup [.int (x : Int), .ref b]) := upd_same
      have s3 := s2.trans sT
      generalize upd H' Tp (.tup [.int (x : Int), .ref b]) = H3 at hT3 s3 ⊢
      obtain ⟨rb, eb, hrb⟩ := hR2.get (mt.lt x hx)
      walk_at "rd"
      intro N B R hN hB hRt
      walk_at "rd"
      refine f_enumT (fun j σ'' H'' => ∃ v5 v6 : Option V, σ'' = [some (.ref g1), some (.ref g2), some (.ref t), some (.int (x : Int)), some (.ref b), v5, v6] ∧ Same H3 H'' ∧ ∀ y, y < j → f (m1 x y) = m2 (f x) (f y)) (s3.sqT hb) (fun R' h => ?_) ⟨_, _, rfl, Same.refl _, fun y hy => absurd hy (by omega)⟩ (fun i σ' H' ⟨_, _, _, s, _⟩ => s.sqT (s3.sqT hb)) ?_ ?_ (fun v σ H R R' h q => g2_mono v σ H R R' h q)
      · walk_at "rd"
        exact h
      · rintro y z σ'' H4 Tq hz ⟨v5, v6, rfl, s4, hi⟩ hTq
        have hy : y < n := by have := (List.getElem?_eq_some_iff.mp hz).1; rw [rowV_len] at this; exact this
        rw [rowV_get hy] at hz
        cases hz
        have sT2 := same_new (o := .tup [.int (y : Int), .int ((m1 x y : Nat) : Int)]) hTq
        have hT5 : upd H4 Tq (.tup [.int (y : Int), .int ((m1 x y : Nat) : Int)]) Tq = some (.tup [.int (y : Int), .int ((m1 x y : Nat) : Int)]) := upd_same
        have s35 := s4.trans sT2
        generalize upd H4 Tq (.tup [.int (y : Int), .int ((m1 x y : Nat) : Int)]) = H5 at hT5 s35 ⊢
        have s5 := s3.trans s35
        walk_at "rd"
        intro N' B' R' hN' hB' hRt'
        walk_at "rd"
        refine ⟨_, _, _, _, _, rfl, s5 _ _ o2.ins, T.cl, T.nT, gf_table, ?_⟩
        walk_at "rd"
        refine Wk.r_ixT (s5.sqT mt1.tup) (at_n (natsV_get hx)) ?_
        refine Wk.r_ixT (s5.sqT hL2) (at_n eb) ?_
        walk_at "rd"
        refine Wk.r_ixT (s5.sqT mt1.tup) (at_n (natsV_get hy)) ?_
        refine Wk.r_ixT (s35.sqT (s3.sqT hrb)) (at_n (rowV_get (mt.lt y hy))) ?_
        walk_at "rd"
        refine Wk.r_ixT (s5.sqT mt1.tup) (at_n (natsV_get (o1.grp.cl _ _ hx hy))) ?_
        walk_at "rd"
        refine r_ifNI (fun c => ?_) (fun c => ?_)
        · walk_at "rd"
          intro u nu
          exact hRt' _ _ (hRt _ _ (kk2 (fun hom => c (by have := hom x y hx hy; omega)) _ u ((s1.trans s5).trans (same_new nu))))
        · refine hN' _ _ ⟨_, _, rfl, s35, fun y' hy' => ?_⟩
          by_cases e : y' = y
          · subst e; omega
          · exact hi y' (by omega)
      · rintro σ'' H4 ⟨v5, v6, rfl, s4, hi⟩
        rw [rowV_len] at hi
        refine hN _ _ ⟨_, _, _, _, rfl, s3.trans s4, fun x' y' hx' hy' => ?_⟩
        by_cases e : x' = x
        · subst e; exact hi y' hy'
        · exact ho x' y' (by omega) hy'
    · rintro σ' H' ⟨v3, v4, v5, v6, rfl, s2, ho⟩
      rw [hR1.1] at ho
      walk_at "rd"
      exact kk (fun x y hx hy => ho x y hx hy) _ (s1.trans s2)

def spIsHom (K : PySem.W.Frag) (C : Addr) : Sp := fun vs H Q _ => ∃ (g1 g2 t n k : Nat) (m1 m2 : Nat → Nat → Nat) (f : Nat → Nat) (b : Bool), vs = [.ref g1, .ref g2, .ref t] ∧ GrpO K C H g1 n m1 ∧ GrpO K C H g2 k m2 ∧ MapT K H t n k f ∧ (b = true ↔ G.Hom n m1 m2 f) ∧ ∀ H', Same H H' → Q (.bl b) H'
theorem k_is_hom {C : Addr} (T : TxG K mg C) (k_first_broken : Keep P w K mg base 7 "first_broken" ["one", "other", "f"] (spFb K C)) (a : At K mg "is_hom" s_is_hom ["one", "other", "f"]) : Keep P w K mg base 8 "is_hom" ["one", "other", "f"] (spIsHom K C) := by
  refine Keep.of a sc_is_hom (fun vs H Q E h => ?_) (fun fa cdv A outer s H vs Q E hr h => ?_)
  · obtain ⟨_, _, _, _, _, _, _, _, _, rfl, _⟩ := h
    rfl
  · obtain ⟨g1, g2, t, n, k, m1, m2, f, b, rfl, h1, h2, mt, hb, kk⟩ := h
    refine ⟨_, (pss_one (ps_ret (pe_cmpR op_isN (pe_k k_first_broken (hr.mono (by decide)) (by rfl) (pa_cons (pv 0) (pa_cons (pv 1) (pa_cons (pv 2) pa_nil)))) pe_non (nomark _)))), ?_⟩
    walk_at "rd"
    refine ⟨g1, g2, t, n, k, m1, m2, f, rfl, h1, h2, mt, fun hom H1 s1 => ?_, fun hom H1 u s1 => ?_⟩
    · have e : b = true := hb.mpr hom
      subst e
      walk_at "rd"
      refine ⟨rfl, ?_⟩
      exact kk _ s1
    · have e : b = false := by
        cases b with
        | false => rfl
        | true => exact absurd (hb.mp rfl) hom
      subst e
      walk_at "rd"
      refine ⟨rfl, ?_⟩
      exact kk _ s1
def wrv (n : Nat) (f g : Nat → Nat) : List V := Evl.given n (fun i => !decide (f i = g i)) fun i => V.int (i : Int)
theorem wrv_len {n : Nat} {f g : Nat → Nat} : (wrv n f g).length = G.sm n (G.dif f g) := by
  unfold wrv Evl.given
  rw [List.length_map]
  induction n with
  | zero => rfl
  | succ n ih =>
    have e : G.sm (n + 1) (G.dif f g) = G.sm n (G.dif f g) + G.dif f g n := rfl
    rw [List.range_succ, List.filter_append, List.length_append, ih, e]
    congr 1
    unfold G.dif G.ind
    by_cases c : f n = g n
    · rw [if_neg (fun q => q c)]; simp [c]
    · rw [if_pos c]; simp [c]
def spWrong (K : PySem.W.Frag) : Sp := fun vs H Q _ => ∃ (a b n : Nat) (f g : Nat → Nat), vs = [.ref a, .ref b] ∧ n ≤ 60 ∧ SqT K H a (natsV n f) ∧ SqT K H b (natsV n g) ∧ ∀ H' u, Same H H' → SqT K H' u (wrv n f g) → Q (.ref u) H'
theorem k_wrong_places (T : Txt mg) (a : At K mg "wrong_places" s_wrong_places ["f", "g"]) : Keep P w K mg base 1 "wrong_places" ["f", "g"] (spWrong K) := by
  refine Keep.of a sc_wrong_places (fun vs H Q E h => ?_) (fun fa cdv A outer s H vs Q E hr h => ?_)
  · obtain ⟨_, _, _, _, _, rfl, _⟩ := h
    rfl
  · obtain ⟨a, b, n, f, g, rfl, hn, ha, hb, kk⟩ := h
    refine ⟨_, (pss_one (ps_ret (pe_callTy (c_tup K) (by rfl) T.n_tuple (by decide +kernel) (pa_cons (pe_lc (own := [("place", 2)]) rfl sc_wrong_places.nd (pi_range1 (by rfl) T.n_range (pa_cons (pe_callB (c_len K) (by rfl) T.n_len (by decide +kernel) (pa_cons (pv 0) pa_nil)) pa_nil)) (blkOk_by (N := ["f", "g", "place"]) (sc := defScope s_wrong_places) (by decide +kernel)) (fun _ _ _ _ _ => (pg_name (i := 2) sc_wrong_places.nd rfl (by first | exact Or.inl rfl | exact Or.inr rfl))) (fun _ _ _ _ _ => (pts_one (pt_cmpR op_ne (pe_ix (x_tup K) (pv 0) (pv 2) (fun _ _ => rfl)) (pe_ix (x_tup K) (pv 1) (pv 2) (fun _ _ => rfl)) (nomark _)))) (fun _ _ _ _ _ => (pv 2))) pa_nil)))), ?_⟩
    walk_at "rd"
    refine lc_rngF (n := n) (fun i => !decide (f i = g i)) (fun i => V.int (i : Int)) (by omega) (fun R' h => ?_) ?_ ?_ ?_
    · walk_at "rd"
      rw [natsV_len]
      exact h
    · intro y H4 QT hy s4 k4
      walk_at "rd"
      refine Wk.r_ixT (s4.sqT ha) (at_n (natsV_get hy)) ?_
      walk_at "rd"
      refine Wk.r_ixT (s4.sqT hb) (at_n (natsV_get hy)) ?_
      walk_at "rd"
      have e : (!decide ((f y : Int) = (g y : Int))) = !decide (f y = g y) := by rw [decide_eq_decide.mpr Int.ofNat_inj]
      first | rw [e] | rw [int_dec]
      exact k4 _ (Same.refl _)
    · intro y H4 Q' hy hp s4 k4
      walk_at "rd"
      exact k4 _ (Same.refl _)
    · intro D H4 hD s4 hL4
      walk_at "rd"
      intro u nu
      exact kk _ u (s4.trans (same_new nu)) (SqT.of upd_same)
def spClose (K : PySem.W.Frag) (C : Addr) : Sp := fun vs H Q _ => ∃ (g1 g2 t n k : Nat) (m1 m2 : Nat → Nat → Nat) (e2 : Nat) (inv f V : Nat → Nat), vs = [.ref g1, .ref g2, .ref t] ∧ Mp K C H g1 g2 t n k m1 m2 e2 inv f ∧ Vtd n k m1 m2 inv f V ∧
  ((4 * G.sm n (G.dif f V) < n ∧ G.Hom n m1 m2 V) → ∀ H' u, Same H H' → MapT K H' u n k V → Q (.ref u) H') ∧ (¬ (4 * G.sm n (G.dif f V) < n ∧ G.Hom n m1 m2 V) → ∀ H', Same H H' → Q .non H')
theorem k_close_hom {C : Addr} (T : TxG K mg C) (k_voted : Keep P w K mg base 7 "voted" ["one", "other", "f"] (spVoted K C)) (k_wrong_places : Keep P w K mg base 1 "wrong_places" ["f", "g"] (spWrong K)) (k_is_hom : Keep P w K mg base 8 "is_hom" ["one", "other", "f"] (spIsHom K C)) (a : At K mg "close_hom" s_close_hom ["one", "other", "f"]) : Keep P w K mg base 9 "close_hom" ["one", "other", "f"] (spClose K C) := by
  refine Keep.of a sc_close_hom (fun vs H Q E h => ?_) (fun fa cdv A outer s H vs Q E hr h => ?_)
  · obtain ⟨_, _, _, _, _, _, _, _, _, _, _, rfl, _⟩ := h
    rfl
  · obtain ⟨g1, g2, t, n, k, m1, m2, e2, inv, f, V', rfl, mp, hV, kk, kk2⟩ := h
    obtain ⟨_, _, hn, hk⟩ := mp.gs
    refine ⟨_, (pss_cons (ps_set (i := 3) sc_close_hom.nd rfl (by first | exact Or.inl rfl | exact Or.inr rfl) (pe_k k_voted (hr.mono (by decide)) (by rfl) (pa_cons (pv 0) (pa_cons (pv 1) (pa_cons (pv 2) pa_nil)))))
    (pss_cons (ps_if (PW.pt (pw_and (pt_cmpR op_lt (pe_op op_mul pe_int (pe_callB (c_len K) (by rfl) T.n_len (by decide +kernel) (pa_cons (pe_k k_wrong_places (hr.mono (by decide)) (by rfl) (pa_cons (pv 2) (pa_cons (pv 3) pa_nil))) pa_nil))) (e_fld K (pv 0) rfl) (nomark _)) (pw_and1 (pt_val (pe_k k_is_hom (hr.mono (by decide)) (by rfl) (pa_cons (pv 0) (pa_cons (pv 1) (pa_cons (pv 3) pa_nil)))))))) (pss_one (ps_ret (pv 3))) pss_nil)
    (pss_one (ps_ret pe_non)))), ?_⟩
    walk_at "rd"
    refine ⟨g1, g2, t, n, k, m1, m2, e2, inv, f, V', rfl, mp, hV, fun H1 u s1 mu => ?_⟩
    have mp1 := mp.mono s1
    walk_at "rd"
    refine ⟨t, u, n, f, V', rfl, by omega, mp1.mt.tup, mu.tup, fun H2 wr s2 hwr => ?_⟩
    have mp2 := mp1.mono s2
    have mu2 := mu.mono s2
    obtain ⟨dx, tt, iv, e', inv', gg⟩ := id mp2.o1
    have dl : G.sm n (G.dif f V') ≤ n := by
      have := G.sm_le (n := n) (g := G.dif f V') (h := fun _ => 1) fun i _ => G.ind_le _
      rw [G.sm_const, Nat.mul_one] at this
      exact this
    walk_at "rd"
    rw [wrv_len]
    walk_at "rd"
    refine ⟨_, _, _, _, _, rfl, gg.ins, T.cl, T.nS, gf_size, ?_⟩
    walk_at "rd"
    refine r_if1 (fun c => ?_) (fun c => ?_)
    · walk_at "rd"
      by_cases hom : G.Hom n m1 m2 V'
      · refine ⟨g1, g2, u, n, k, m1, m2, V', true, rfl, mp2.o1, mp2.o2, mu2, ⟨fun _ => hom, fun _ => rfl⟩, fun H3 s3 => ?_⟩
        walk_at "rd"
        exact kk ⟨by omega, hom⟩ _ u ((s1.trans s2).trans s3) (mu2.mono s3)
      · refine ⟨g1, g2, u, n, k, m1, m2, V', false, rfl, mp2.o1, mp2.o2, mu2, ⟨fun q => (nomatch q), fun q => absurd q hom⟩, fun H3 s3 => ?_⟩
        walk_at "rd"
        exact kk2 (fun q => hom q.2) _ ((s1.trans s2).trans s3)
    · walk_at "rd"
      exact kk2 (fun q => c (by omega)) _ (s1.trans s2)
def spVotes (K : PySem.W.Frag) (C : Addr) : Sp := fun vs H Q _ => ∃ (g1 g2 t n k x : Nat) (m1 m2 : Nat → Nat → Nat) (e2 : Nat) (inv f : Nat → Nat), vs = [.ref g1, .ref g2, .ref t, .int (x : Int)] ∧ Mp K C H g1 g2 t n k m1 m2 e2 inv f ∧ x < n ∧ ∀ H' u, Same H H' → SqT K H' u (natsV k (G.vts m1 m2 inv f x n)) → Q (.ref u) H'
theorem k_votes {C : Addr} (T : TxG K mg C) (k_require_map : Keep P w K mg base 6 "require_map" ["one", "other", "value"] (spMap K C .non)) (k_require_member : Keep P w K mg base 4 "require_member" ["group", "value"] (spMember K C .non)) (k__inverted : Keep P w K mg base 6 "_inverted" ["other", "f"] (spInvd K C)) (k__counted : Keep P w K mg base 1 "_counted" ["one", "other", "f", "inverses", "x"] (spCnt K C))
    (a : At K mg "votes" s_votes ["one", "other", "f", "x"]) : Keep P w K mg base 7 "votes" ["one", "other", "f", "x"] (spVotes K C) := by
  refine Keep.of a sc_votes (fun vs H Q E h => ?_) (fun fa cdv A outer s H vs Q E hr h => ?_)
  · obtain ⟨_, _, _, _, _, _, _, _, _, _, _, rfl, _⟩ := h
    rfl
  · obtain ⟨g1, g2, t, n, k, x, m1, m2, e2, inv, f, rfl, mp, hx, kk⟩ := h
    refine ⟨_, (pss_cons (ps_expr (pe_k k_require_map (hr.mono (by decide)) (by rfl) (pa_cons (pv 0) (pa_cons (pv 1) (pa_cons (pv 2) pa_nil)))))
    (pss_cons (ps_expr (pe_k k_require_member (hr.mono (by decide)) (by rfl) (pa_cons (pv 0) (pa_cons (pv 3) pa_nil))))
    (pss_one (ps_ret (pe_k k__counted (hr.mono (by decide)) (by rfl) (pa_cons (pv 0) (pa_cons (pv 1) (pa_cons (pv 2) (pa_cons (pe_k k__inverted (hr.mono (by decide)) (by rfl) (pa_cons (pv 1) (pa_cons (pv 2) pa_nil))) (pa_cons (pv 3) pa_nil)))))))))), ?_⟩
    walk_at "rd"
    refine ⟨g1, g2, t, n, k, m1, m2, f, rfl, mp.o1, mp.o2, mp.mt, fun H1 s1 => ?_⟩
    have mp1 := mp.mono s1
    obtain ⟨dx, tt, iv, e', inv', gg⟩ := id mp1.o1
    walk_at "rd"
    refine ⟨g1, dx, tt, iv, n, e', x, rfl, gg.ins, hx, ?_⟩
    walk_at "rd"
    refine ⟨g1, g2, t, n, k, m1, m2, e2, inv, f, rfl, mp1, fun H2 c s2 nc hc => ?_⟩
    walk_at "rd"
    exact ⟨g1, g2, t, c, n, k, x, m1, m2, e2, inv, f, rfl, mp1.mono s2, hc, hx, fun H3 u s3 hu => kk _ u ((s1.trans s2).trans s3) hu.sqT⟩
end
end Wk
end
section
set_option Elab.async false
set_option linter.all false
set_option maxRecDepth 100000
set_option exponentiation.threshold 3000
namespace Wk
open PySem PySem.Spec PyProof.Rows L2
local macro_rules | `(tactic| walk_at "hp") => `(tactic| first | assumption | exact upd_same | exact (upd_ne (ne_of_none (by assumption) (by assumption))).trans (by assumption) | (rw [upd_ne (by first | assumption | exact Ne.symm (by assumption))]; walk_at "hp"))
local macro_rules | `(tactic| walk_at "sq") => `(tactic| first | assumption | exact SqL.of (by assumption) | exact SqT.of (by assumption) | exact SqL.of (by walk_at "hp") | exact SqT.of (by walk_at "hp") | (refine Same.seq ?_ ?_ <;> assumption))
local macro_rules | `(tactic| walk_at "cmul") => `(tactic| first | exact .inr ⟨by decide, by decide⟩ | exact .inl ⟨by decide, by decide⟩ | exact .inr ⟨by omega, by omega⟩ | exact .inl ⟨by omega, by omega⟩)
local macro_rules | `(tactic| walk_at "cdiv") => `(tactic| first | exact ⟨by decide, by decide⟩ | exact wide_div (b := 64) (by omega) (by omega) (by decide) (by decide) | exact wide_div (b := 128) (by omega) (by omega) (by decide) (by decide))
local macro_rules | `(tactic| walk_at "rd1") => `(tactic| first
  | ((with_reducible show tVar _ _ _ _); refine Wk.r_var rfl ?_)
  | (with_reducible first
    | refine Wk.r_c ?_ | refine Wk.r_op ?_ | refine Wk.r_cons ?_ | refine Wk.r_nil ?_
    | refine Wk.r_seq ?_ | refine Wk.r_next ?_ | refine Wk.r_set ?_ | refine Wk.r_asgS ?_ | refine Wk.r_ret ?_ | refine Wk.r_drop ?_ | refine Wk.r_if ?_
    | refine Wk.r_asgG ?_ | refine Wk.r_gName ?_ | refine Wk.r_gCons ?_ | refine Wk.r_gNil ?_ | refine Wk.r_par ?_ | refine Wk.r_par3 ?_ | refine Wk.r_lstRg1 ?_ | refine Wk.r_tupRg1 ?_ | refine ⟨_, _, _, rfl, ?_⟩ | refine Wk.r_un ?_ | refine Wk.r_I0 ?_ | refine Wk.r_U ?_
    | refine Wk.r_test ?_ | refine Wk.r_B ?_ | refine Wk.r_k ?_ | refine Wk.r_not ?_ | refine Wk.r_and ?_ | refine Wk.r_or ?_ | refine Wk.r_andV ?_ | refine Wk.r_orV ?_ | refine Wk.r_notV ?_
    | refine Wk.r_CB ?_ | refine Wk.r_chain ?_ | refine Wk.r_fld ?_ | refine Wk.r_sfld ?_ | refine Wk.r_lst ?_ | refine Wk.r_tup ?_ | refine Wk.r_call ?_ | refine Wk.r_BM ?_ | refine Wk.r_BM0 ?_ | refine Wk.r_T ?_ | refine Wk.r_nT ?_ | refine Wk.r_nF ?_ | refine Wk.r_F ?_
    | refine Or.inl ⟨_, rfl, ?_⟩ | refine Or.inr ⟨_, rfl, ?_⟩ | refine ⟨_, rfl, ?_⟩ | refine ⟨_, _, rfl, ?_⟩)
  | ((with_reducible refine Wk.r_eq ?c0 ?_); (case c0 => rfl)) | ((with_reducible refine Wk.r_ne ?c0 ?_); (case c0 => rfl))
  | ((with_reducible refine Wk.r_pow ?c0 ?_); (case c0 => exact ⟨by decide, by decide, by decide⟩))
  | ((with_reducible refine Wk.r_mul ?c0 ?_); (case c0 => walk_at "cmul")) | ((with_reducible refine Wk.r_mod ?c0 ?_); (case c0 => first | decide | omega)) | ((with_reducible refine Wk.r_div ?c0 ?_); (case c0 => walk_at "cdiv"))
  | ((with_reducible refine Wk.r_new ?c0 ?_); (case c0 => (simp only [List.length_cons, List.length_nil]; omega)))
  | ((with_reducible show gTup _ _ _ _ _ _ _); refine Wk.r_gTup (by walk_at "sq") (by rfl) ?_)
  | (refine Wk.r_tyL (by walk_at "hp") ?_)
  | ((with_reducible show rSetL _ _ _ _ _); refine Wk.r_setL (by walk_at "hp") (by rfl) ?_)
  | ((with_reducible show rIxL _ _ _ _ _); refine Wk.r_ixL (by walk_at "sq") (by rfl) ?_) | ((with_reducible show rIxT _ _ _ _ _); refine Wk.r_ixT (by walk_at "sq") (by rfl) ?_)
  | ((with_reducible show rLenOf _ _ _ _); first | refine Wk.n_lenL (by walk_at "sq") ?_ | refine Wk.n_lenT (by walk_at "sq") ?_)
  | ((with_reducible show rListOf _ _ _ _); first | refine Wk.n_listL (by walk_at "sq") ?_ | refine Wk.n_listT (by walk_at "sq") ?_)
  | ((with_reducible show rTupZ _ _ _ _); first | refine Wk.z_tupL (by walk_at "sq") ?_ | refine Wk.z_tupT (by walk_at "sq") ?_)
  | ((with_reducible show rTupOf _ _ _ _); first | refine Wk.n_tupL (by walk_at "sq") ?_ | refine Wk.n_tupT (by walk_at "sq") ?_))
local macro_rules | `(tactic| walk_at "rd") => `(tactic| repeat (walk_at "rd1"))
local macro_rules | `(tactic| walk_at "rd1") => `(tactic| (with_reducible first | refine Wk.r_dget ?_ | refine Wk.r_din ?_ | refine Wk.r_dnotin ?_ | refine Wk.r_dput ?_ | refine Wk.r_pairs ?_ | refine Wk.r_pairs0 ?_ | refine Wk.r_sl ?_ | refine Wk.r_part ?_ | refine Wk.r_nopart ?_ | refine Wk.r_augS ?_ | refine Wk.r_ipI ?_ | refine Wk.r_aug rfl ?_ | refine Wk.r_revT ?_))

section
variable {K : PySem.W.Frag} {j : Nat} {tl te : TE} {vs : List Nat} {σ : L2.St} {H : Hp} {Q : VK} {xs : List V}
/-- over a tuple that is made first: the items told by R -/
theorem lc_tplN (R : Nat → V → Hp → Prop) (hz : xs.length ≤ 50000) (hta : ∀ R' : V → Hp → Prop, (∀ a H1, Same H H1 → SqT K H1 a xs → R' (.ref a) H1) → tl σ H R') (mono : ∀ i, Mut (R i))
    (step : ∀ (i : Nat) x H1 (Q' : VK), xs[i]? = some x → Same H H1 → (∀ v H2, Same H1 H2 → R i v H2 → Q' v H2) → te ((wipe σ vs).set j (some x)) H1 Q')
    (done : ∀ D L H1, H D = none → Same H H1 → H1 D = some (.lst L) → L.length = xs.length → (∀ i v, L[i]? = some v → R i v H1) → Q (.ref D) H1) (hw : ∀ x, wipe ((wipe σ vs).set j (some x)) vs = wipe σ vs := by intro _; rfl) : tLc (iTup K tl) (gName j) tYes te vs σ H Q :=
  hta _ fun a H1 s1 hx => lc_tpl (tl := fun _ H Q => Q (.ref a) H) R hx hz (fun _ h => h) mono (fun i x H2 Q' ex s2 k => step i x H2 Q' ex (s1.trans s2) k) (fun D L H2 hD s2 hL len r => done D L H2 (Same.free s1 hD) (s1.trans s2) hL len r) hw
end
theorem ww_list {a b i : Nat} : natsV (i + 1) (G.ww a b i) ++ [V.int 0] = natsV (i + 2) (G.ww a b i) := by
  unfold natsV
  rw [List.range_succ (n := i + 1), List.map_append]
  show _ = _ ++ [V.int ((G.ww a b i (i + 1) : Nat) : Int)]
  rw [G.ww_out i (i + 1) (by omega)]
  rfl
theorem ww_shift {a b i : Nat} : V.int 0 :: natsV (i + 1) (G.ww a b i) = natsV (i + 2) (fun j => if j = 0 then 0 else G.ww a b i (j - 1)) := by
  unfold natsV
  rw [List.range_succ_eq_map (n := i + 1), List.map_cons, List.map_map]
  congr 1
theorem ww_sz {c n i j : Nat} (hn : c + (n - c) ≤ 48) (hi : i ≤ 15) : G.ww c (n - c) i j < 2 ^ 2000 :=
  Nat.lt_of_le_of_lt (G.ww_le i j) (Nat.lt_trans (G.pow_bits hn (by omega)) (Nat.pow_lt_pow_right (by decide) (by decide)))
theorem small_sz {x : Nat} (h : x ≤ 48) : x < 2 ^ 2000 := Nat.lt_of_le_of_lt h (Nat.lt_trans (show 48 < 2 ^ 6 by decide) (Nat.pow_lt_pow_right (by decide) (by decide)))
section
variable {P : Program} {w : World} {K : PySem.W.Frag} {mg : Str → Option Value} {base : Heap}
def spMS (S : Addr) : Sp := fun vs H Q _ => ∃ (c n k : Nat), vs = [.int (c : Int), .int (n : Int), .int (k : Int)] ∧ c ≤ n ∧ 1 ≤ n ∧ n ≤ 48 ∧ k ≤ 15 ∧ ∀ H' p, Same H H' → H p = none → ShL S H' p ((G.mh c (n - c) k : Nat) : Int) (n ^ k) → Q (.ref p) H'
set_option maxHeartbeats 4000000 in
theorem k__majority_share {S : Addr} (T : TxSh K mg S) (k_Share_of : KeepCM P w K mg base 4 S "of" ["cls", "part", "whole"] (spOf S)) (a : At K mg "_majority_share" s__majority_share ["part", "whole", "k"]) : Keep P w K mg base 5 "_majority_share" ["part", "whole", "k"] (spMS S) := by
  refine Keep.of a sc__majority_share (fun vs H Q E h => ?_) (fun fa cdv A outer s H vs Q E hr h => ?_)
  · obtain ⟨_, _, _, rfl, _⟩ := h
    rfl
  · obtain ⟨c, n, k, rfl, hc, n1, hn, hk, kk⟩ := h
    have cn : c + (n - c) = n := by omega
    refine ⟨_, (pss_cons (ps_set (i := 3) sc__majority_share.nd rfl (by first | exact Or.inl rfl | exact Or.inr rfl) (pe_lst (pa_cons pe_int pa_nil)))
    (pss_cons (ps_for PassesOwn.never rfl (pi_range1 (by rfl) T.n_range (pa_cons (pv 2) pa_nil)) (pg_name (i := 4) sc__majority_share.nd rfl (by first | exact Or.inl rfl | exact Or.inr rfl)) (pss_one (ps_setLc (i := 3) (own := [("less", 5), ("same", 6)]) rfl sc__majority_share.nd rfl rfl (sw_true rfl rfl rfl (by decide +kernel)) (i_zip K (by rfl) T.n_zip (pa_cons (pe_op op_cat (pe_lst (pa_cons pe_int pa_nil)) (pv 3)) (pa_cons (pe_op op_cat (pv 3) (pe_lst (pa_cons pe_int pa_nil))) pa_nil))) (blkOk_by (N := ["part", "whole", "k", "ways", "_", "less", "same"]) (sc := defScope s__majority_share) (by decide +kernel)) (fun _ _ _ _ _ => (g_tupK K 2 rfl (pgs_cons (pg_name (i := 5) sc__majority_share.nd rfl (by first | exact Or.inl rfl | exact Or.inr rfl)) (pgs_cons (pg_name (i := 6) sc__majority_share.nd rfl (by first | exact Or.inl rfl | exact Or.inr rfl)) pgs_nil)))) (fun _ _ _ _ _ => pts_nil) (fun _ _ _ _ _ => (pe_op op_add (pe_op op_mulW (pv 5) (pv 0)) (pe_op op_mulW (pv 6) (pe_op op_sub (pv 1) (pv 0))))))))
    (pss_one (ps_ret (e_cm k_Share_of (hr.mono (by decide)) (pe_glob (v := .ref _) rfl T.n_Share rfl) (pa_cons (pe_callB (c_sumL K rfl) (by rfl) T.n_sum (by decide +kernel) (pa_cons (pe_slice (sl_listK K) (pv 3) (po_some (pe_op op_add (pe_op op_fdivW (pv 2) pe_int) pe_int)) po_none) pa_nil)) (pa_cons (pe_callB (c_sumL K rfl) (by rfl) T.n_sum (by decide +kernel) (pa_cons (pv 3) pa_nil)) pa_nil))))))), ?_⟩
    walk_at "rd"
    intro w0 nw0
    have s0 := same_new (o := .lst [V.int 1]) nw0
    have h0 : (upd H w0 (.lst [V.int 1])) w0 = some (.lst (natsV (0 + 1) (G.ww c (n - c) 0))) := upd_same
    walk_at "rd"
    refine f_rng (n := k) (fun i σ' H' => ∃ (w : Nat) (v4 : Option V), σ' = [some (.int (c : Int)), some (.int (n : Int)), some (.int (k : Int)), some (.ref w), v4, none, none] ∧ Same H H' ∧ H' w = some (.lst (natsV (i + 1) (G.ww c (n - c) i)))) (by omega) (fun R' h => ?_) ⟨w0, _, rfl, s0, h0⟩ ?_ ?_
    · walk_at "rd"
      exact h
    · rintro i σ' H1 hi ⟨w, v4, rfl, s1, hw⟩ N B R hN hB hRt
      walk_at "rd"
      refine lc_zipS (xs := V.int 0 :: natsV (i + 1) (G.ww c (n - c) i)) (ys := natsV (i + 1) (G.ww c (n - c) i) ++ [V.int 0]) (fun j => .int ((G.ww c (n - c) (i + 1) j : Nat) : Int)) (by simp) (by rw [List.length_cons, natsV_len]; omega) (fun R' h => ?_) (fun j x y H2 Q' ex ey s2 k2 => ?_) (fun D H2 hD s2 hL => ?_)
      · walk_at "rd"
        intro z nz
        have sz := same_new (o := .lst [V.int 0]) nz
        have hwz := sz _ _ hw
        walk_at "rd"
        refine ⟨z, w, _, _, rfl, rfl, upd_same, hwz, szl (by rw [List.length_singleton, natsV_len]; omega), fun p np => ?_⟩
        have sp := same_new (o := .lst ([V.int 0] ++ natsV (i + 1) (G.ww c (n - c) i))) np
        have hp : (upd (upd H1 z (.lst [V.int 0])) p (.lst ([V.int 0] ++ natsV (i + 1) (G.ww c (n - c) i)))) p = some (.lst (V.int 0 :: natsV (i + 1) (G.ww c (n - c) i))) := upd_same
        generalize upd (upd H1 z (.lst [V.int 0])) p (.lst ([V.int 0] ++ natsV (i + 1) (G.ww c (n - c) i))) = H2 at sp hp ⊢
        have s12 := sz.trans sp
        walk_at "rd"
        intro z2 nz2
        have sz2 := same_new (o := .lst [V.int 0]) nz2
        refine ⟨w, z2, _, _, rfl, rfl, sz2 _ _ (s12 _ _ hw), upd_same, szl (by rw [List.length_singleton, natsV_len]; omega), fun p2 np2 => ?_⟩
        have sp2 := same_new (o := .lst (natsV (i + 1) (G.ww c (n - c) i) ++ [V.int 0])) np2
        exact h p p2 _ ((s12.trans sz2).trans sp2) (SqL.of ((sz2.trans sp2) _ _ hp)) (SqL.of upd_same)
      · rw [ww_shift] at ex
        rw [ww_list] at ey
        have hj : j < i + 2 := by have := (List.getElem?_eq_some_iff.mp ex).1; rw [natsV_len] at this; exact this
        rw [natsV_get hj] at ex ey
        cases ex
        cases ey
        have z1 : (if j = 0 then 0 else G.ww c (n - c) i (j - 1)) < 2 ^ 2000 := by
          split
          · exact Nat.pow_pos (by decide)
          · exact ww_sz (by omega) (by omega)
        have e : (n : Int) - (c : Int) = ((n - c : Nat) : Int) := by omega
        walk_at "rd"
        refine Wk.r_I (mulV z1 (small_sz (by omega))) ?_
        walk_at "rd"
        rw [e]
        refine Wk.r_I (mulV (ww_sz (by omega) (by omega)) (small_sz (by omega))) ?_
        have e2 : ((if j = 0 then 0 else G.ww c (n - c) i (j - 1) : Nat) : Int) * (c : Int) + ((G.ww c (n - c) i j : Nat) : Int) * ((n - c : Nat) : Int) = ((G.ww c (n - c) (i + 1) j : Nat) : Int) := by
          rw [← Int.natCast_mul, ← Int.natCast_mul, ← Int.natCast_add]
          rfl
        walk_at "rd"
        rw [e2]
        exact k2 _ (Same.refl _)
      · have el : (V.int 0 :: natsV (i + 1) (G.ww c (n - c) i)).length = i + 2 := by rw [List.length_cons, natsV_len]
        rw [el] at hL
        exact hN _ _ ⟨D, _, rfl, s1.trans s2, hL⟩
    · rintro σ' H1 ⟨w, v4, rfl, s1, hw⟩
      have ek : (k : Int) / 2 + 1 = ((k / 2 + 1 : Nat) : Int) := by omega
      have hw' := hw
      rw [natsV_ints] at hw'
      walk_at "rd"
      refine r_cm ?_
      walk_at "rd"
      refine ⟨rfl, ?_⟩
      walk_at "rd"
      rw [ek]
      refine r_slL (SqL.of hw) fun p np => ?_
      rw [cut_drop, natsV_ints, ← List.map_drop]
      have s2 := same_new (o := .lst ((((List.range (k + 1)).map fun h => ((G.ww c (n - c) k h : Nat) : Int)).drop (k / 2 + 1)).map V.int)) np
      have hp : (upd H1 p (.lst ((((List.range (k + 1)).map fun h => ((G.ww c (n - c) k h : Nat) : Int)).drop (k / 2 + 1)).map V.int))) p = some (.lst ((((List.range (k + 1)).map fun h => ((G.ww c (n - c) k h : Nat) : Int)).drop (k / 2 + 1)).map V.int)) := upd_same
      generalize upd H1 p (.lst ((((List.range (k + 1)).map fun h => ((G.ww c (n - c) k h : Nat) : Int)).drop (k / 2 + 1)).map V.int)) = H2 at s2 hp ⊢
      walk_at "rd"
      refine ⟨p, _, rfl, SqL.of hp, ?_⟩
      rw [G.drop_sum]
      walk_at "rd"
      refine ⟨w, _, rfl, SqL.of (s2 _ _ hw'), ?_⟩
      rw [G.sm_list, G.ww_sum, cn]
      walk_at "rd"
      exact ⟨_, n ^ k, rfl, Nat.pow_pos (by omega), Nat.lt_trans (G.pow_bits hn (by omega)) (Nat.pow_lt_pow_right (by decide) (by decide)), fun H3 p3 s3 np3 sh => kk _ p3 ((s1.trans s2).trans s3) ((s1.trans s2).free np3) sh⟩
def spJs (K : PySem.W.Frag) (C S : Addr) : Sp := fun vs H Q _ => ∃ (g1 g2 t n k x s : Nat) (m1 m2 : Nat → Nat → Nat) (e2 : Nat) (inv f V : Nat → Nat), vs = [.ref g1, .ref g2, .ref t, .int (x : Int), .int (s : Int)] ∧ Mp K C H g1 g2 t n k m1 m2 e2 inv f ∧ Vtd n k m1 m2 inv f V ∧ 4 * G.sm n (G.dif f V) < n ∧ G.Hom n m1 m2 V ∧ x < n ∧ s % 2 = 1 ∧ s ≤ 15 ∧
  ∀ H' tu l L, Same H H' → SqT K H' tu [.int ((V x : Nat) : Int), .ref l] → H' l = some (.lst L) → L.length = k → (∀ j v, L[j]? = some v → ∃ p, v = .ref p ∧ ShL S H' p ((G.mh (G.vts m1 m2 inv f x n j) (n - G.vts m1 m2 inv f x n j) s : Nat) : Int) (n ^ s)) → Q (.ref tu) H'
structure TxJ (mg : Str → Option Value) : Prop extends Txt mg where
  n__MOST_SAMPLES : ∃ t, mg "_MOST_SAMPLES" = some (.int 15 t)
set_option maxHeartbeats 4000000 in
theorem k__judged_shares {C S : Addr} (T : TxJ mg) (TG : TxG K mg C) (k_close_hom : Keep P w K mg base 9 "close_hom" ["one", "other", "f"] (spClose K C)) (k_require_member : Keep P w K mg base 4 "require_member" ["group", "value"] (spMember K C .non)) (k_is_within : Keep P w K mg base 2 "is_within" ["value", "least", "most"] spWithin) (k_votes : Keep P w K mg base 7 "votes" ["one", "other", "f", "x"] (spVotes K C)) (k__majority_share : Keep P w K mg base 5 "_majority_share" ["part", "whole", "k"] (spMS S))
    (a : At K mg "_judged_shares" s__judged_shares ["one", "other", "f", "x", "k"]) : Keep P w K mg base 10 "_judged_shares" ["one", "other", "f", "x", "k"] (spJs K C S) := by
  refine Keep.of a sc__judged_shares (fun vs H Q E h => ?_) (fun fa cdv A outer s_ H vs Q E hr h => ?_)
  · obtain ⟨_, _, _, _, _, _, _, _, _, _, _, _, _, rfl, _⟩ := h
    rfl
  · obtain ⟨g1, g2, t, n, k, x, s, m1, m2, e2, inv, f, V', rfl, mp, hV, hd, hom, hx, odd, le, kk⟩ := h
    obtain ⟨_, _, hn, hk⟩ := mp.gs
    refine ⟨_, (pss_cons (ps_set (i := 5) sc__judged_shares.nd rfl (by first | exact Or.inl rfl | exact Or.inr rfl) (pe_k k_close_hom (hr.mono (by decide)) (by rfl) (pa_cons (pv 0) (pa_cons (pv 1) (pa_cons (pv 2) pa_nil)))))
    (pss_cons (ps_if (pt_cmpR op_isN (pv 5) pe_non (nomark _)) (pss_one ps_never) pss_nil)
    (pss_cons (ps_expr (pe_k k_require_member (hr.mono (by decide)) (by rfl) (pa_cons (pv 0) (pa_cons (pv 3) pa_nil))))
    (pss_cons (ps_if (PW.pt (pw_or (pt_not (pt_val (pe_k k_is_within (hr.mono (by decide)) (by rfl) (pa_cons (pv 4) (pa_cons pe_int (pa_cons (e_num (by rfl) T.n__MOST_SAMPLES) pa_nil)))))) (pw_or1 (pt_cmpR op_eq (pe_op op_mod (pv 4) pe_int) pe_int (nomark _))))) (pss_one ps_never) pss_nil)
    (pss_cons (ps_setLc (i := 7) (own := [("count", 6)]) rfl sc__judged_shares.nd rfl rfl (sw_true rfl rfl rfl (by decide +kernel)) (i_tup K (pe_k k_votes (hr.mono (by decide)) (by rfl) (pa_cons (pv 0) (pa_cons (pv 1) (pa_cons (pv 2) (pa_cons (pv 3) pa_nil)))))) (blkOk_by (N := ["one", "other", "f", "x", "k", "hom", "count", "shares"]) (sc := defScope s__judged_shares) (by decide +kernel)) (fun _ _ _ _ _ => (pg_name (i := 6) sc__judged_shares.nd rfl (by first | exact Or.inl rfl | exact Or.inr rfl))) (fun _ _ _ _ _ => pts_nil) (fun _ _ _ _ _ => (pe_k k__majority_share (hr.mono (by decide)) (by rfl) (pa_cons (pv 6) (pa_cons (e_fld K (pv 0) rfl) (pa_cons (pv 4) pa_nil))))))
    (pss_one (ps_ret (pe_tup (pa_cons (pe_ix (x_tup K) (pv 5) (pv 3) (fun _ _ => rfl)) (pa_cons (pv 7) pa_nil)))))))))), ?_⟩
    walk_at "rd"
    refine ⟨g1, g2, t, n, k, m1, m2, e2, inv, f, V', rfl, mp, hV, fun _ H1 u s1 mu => ?_, fun q => absurd ⟨hd, hom⟩ q⟩
    have mp1 := mp.mono s1
    obtain ⟨dx, tt, iv, e', inv', gg⟩ := id mp1.o1
    walk_at "rd"
    refine ⟨rfl, ?_⟩
    walk_at "rd"
    refine r_if1 (fun c => by cases c) (fun _ => ?_)
    walk_at "rd"
    refine ⟨g1, dx, tt, iv, n, e', x, rfl, gg.ins, hx, ?_⟩
    walk_at "rd"
    refine ⟨_, _, _, rfl, ?_⟩
    rw [decide_eq_true (show (1 : Int) ≤ (s : Int) by omega), decide_eq_true (show (s : Int) ≤ 15 by omega)]
    walk_at "rd"
    rw [if_neg (by decide)]
    walk_at "rd"
    refine r_ifI (fun c => absurd c (by omega)) (fun _ => ?_)
    have vle : ∀ j, G.vts m1 m2 inv f x n j ≤ n := fun j => G.vts_le
    walk_at "rd"
    refine lc_tplN (xs := natsV k (G.vts m1 m2 inv f x n)) (fun j v H => ∃ p, v = .ref p ∧ ShL S H p ((G.mh (G.vts m1 m2 inv f x n j) (n - G.vts m1 m2 inv f x n j) s : Nat) : Int) (n ^ s)) (by rw [natsV_len]; omega) (fun R' h => ?_) (fun j v H1 H2 D L hD x ⟨p, e, h⟩ => ⟨p, e, h.mut hD x⟩) (fun j y H2 Q' hy s2 k2 => ?_) (fun D L H2 hD s2 hL len r => ?_)
    · walk_at "rd"
      exact ⟨g1, g2, t, n, k, x, m1, m2, e2, inv, f, rfl, mp1, hx, fun H2 a s2 ha => h a _ s2 ha⟩
    · have hj : j < k := by have := (List.getElem?_eq_some_iff.mp hy).1; rw [natsV_len] at this; exact this
      rw [natsV_get hj] at hy
      cases hy
      walk_at "rd"
      refine ⟨_, _, _, _, _, rfl, s2 _ _ gg.ins, TG.cl, TG.nS, gf_size, ?_⟩
      walk_at "rd"
      exact ⟨_, n, s, rfl, vle j, by omega, hn, le, fun H3 p s3 np sh => k2 _ _ s3 ⟨p, rfl, sh⟩⟩
    · have mu2 := mu.mono s2
      walk_at "rd"
      refine Wk.r_ixT mu2.tup (at_n (natsV_get hx)) ?_
      walk_at "rd"
      intro tu ntu
      have s3 := same_new (o := .tup [V.int ((V' x : Nat) : Int), V.ref D]) ntu
      exact kk _ tu D L ((s1.trans s2).trans s3) (SqT.of upd_same) (s3 _ _ hL) (by rw [len, natsV_len]) fun j v e => let ⟨p, e1, sh⟩ := r j v e; ⟨p, e1, sh.mono s3⟩
def spRs (K : PySem.W.Frag) (C S : Addr) : Sp := fun vs H Q _ => ∃ (g1 g2 t n k x s : Nat) (m1 m2 : Nat → Nat → Nat) (e2 : Nat) (inv f V : Nat → Nat), vs = [.ref g1, .ref g2, .ref t, .int (x : Int), .int (s : Int)] ∧ Mp K C H g1 g2 t n k m1 m2 e2 inv f ∧ Vtd n k m1 m2 inv f V ∧ 4 * G.sm n (G.dif f V) < n ∧ G.Hom n m1 m2 V ∧ x < n ∧ s % 2 = 1 ∧ s ≤ 15 ∧
  ∀ H' p, Same H H' → ShL S H' p ((G.mh (G.vts m1 m2 inv f x n (V x)) (n - G.vts m1 m2 inv f x n (V x)) s : Nat) : Int) (n ^ s) → Q (.ref p) H'
theorem k_right_share {C S : Addr} (T : Txt mg) (k__judged_shares : Keep P w K mg base 10 "_judged_shares" ["one", "other", "f", "x", "k"] (spJs K C S)) (a : At K mg "right_share" s_right_share ["one", "other", "f", "x", "k"]) : Keep P w K mg base 11 "right_share" ["one", "other", "f", "x", "k"] (spRs K C S) := by
  refine Keep.of a sc_right_share (fun vs H Q E h => ?_) (fun fa cdv A outer s_ H vs Q E hr h => ?_)
  · obtain ⟨_, _, _, _, _, _, _, _, _, _, _, _, _, rfl, _⟩ := h
    rfl
  · obtain ⟨g1, g2, t, n, k, x, s, m1, m2, e2, inv, f, V', rfl, mp, hV, hd, hom, hx, odd, le, kk⟩ := h
    refine ⟨_, (pss_cons (ps_asg (pe_k k__judged_shares (hr.mono (by decide)) (by rfl) (pa_cons (pv 0) (pa_cons (pv 1) (pa_cons (pv 2) (pa_cons (pv 3) (pa_cons (pv 4) pa_nil)))))) (pg_tup rfl (pgs_cons (pg_name (i := 5) sc_right_share.nd rfl (by first | exact Or.inl rfl | exact Or.inr rfl)) (pgs_cons (pg_name (i := 6) sc_right_share.nd rfl (by first | exact Or.inl rfl | exact Or.inr rfl)) pgs_nil))))
    (pss_one (ps_ret (pe_ix (x_list K) (pv 6) (pv 5) (fun _ _ => rfl))))), ?_⟩
    walk_at "rd"
    refine ⟨g1, g2, t, n, k, x, s, m1, m2, e2, inv, f, V', rfl, mp, hV, hd, hom, hx, odd, le, fun H1 tu l L s1 htu hl len r => ?_⟩
    have hj : V' x < L.length := by rw [len]; exact (hV x hx).lt
    obtain ⟨p, e1, sh⟩ := r _ _ (List.getElem?_eq_getElem hj)
    have e := List.getElem?_eq_getElem hj
    rw [e1] at e
    walk_at "rd"
    refine Wk.r_ixL (SqL.of hl) (at_n e) ?_
    exact kk _ p s1 sh
end
end Wk
end
section
set_option Elab.async false
set_option linter.all false
set_option maxRecDepth 100000
set_option exponentiation.threshold 5000
namespace Wk
open PySem PySem.Spec PyProof.Rows L2
local macro_rules | `(tactic| walk_at "hp") => `(tactic| first | assumption | exact upd_same | exact (upd_ne (ne_of_none (by assumption) (by assumption))).trans (by assumption) | (rw [upd_ne (by first | assumption | exact Ne.symm (by assumption))]; walk_at "hp"))
local macro_rules | `(tactic| walk_at "sq") => `(tactic| first | assumption | exact SqL.of (by assumption) | exact SqT.of (by assumption) | exact SqL.of (by walk_at "hp") | exact SqT.of (by walk_at "hp") | (refine Same.seq ?_ ?_ <;> assumption))
local macro_rules | `(tactic| walk_at "cmul") => `(tactic| first | exact .inr ⟨by decide, by decide⟩ | exact .inl ⟨by decide, by decide⟩ | exact .inr ⟨by omega, by omega⟩ | exact .inl ⟨by omega, by omega⟩)
local macro_rules | `(tactic| walk_at "cdiv") => `(tactic| first | exact ⟨by decide, by decide⟩ | exact wide_div (b := 64) (by omega) (by omega) (by decide) (by decide) | exact wide_div (b := 128) (by omega) (by omega) (by decide) (by decide))
local macro_rules | `(tactic| walk_at "rd1") => `(tactic| first
  | ((with_reducible show tVar _ _ _ _); refine Wk.r_var rfl ?_)
  | (with_reducible first
    | refine Wk.r_c ?_ | refine Wk.r_op ?_ | refine Wk.r_cons ?_ | refine Wk.r_nil ?_
    | refine Wk.r_seq ?_ | refine Wk.r_next ?_ | refine Wk.r_set ?_ | refine Wk.r_asgS ?_ | refine Wk.r_ret ?_ | refine Wk.r_drop ?_ | refine Wk.r_if ?_
    | refine Wk.r_asgG ?_ | refine Wk.r_gName ?_ | refine Wk.r_gCons ?_ | refine Wk.r_gNil ?_ | refine Wk.r_par ?_ | refine Wk.r_par3 ?_ | refine Wk.r_lstRg1 ?_ | refine Wk.r_tupRg1 ?_ | refine ⟨_, _, _, rfl, ?_⟩ | refine Wk.r_un ?_ | refine Wk.r_I0 ?_ | refine Wk.r_U ?_
    | refine Wk.r_test ?_ | refine Wk.r_B ?_ | refine Wk.r_k ?_ | refine Wk.r_not ?_ | refine Wk.r_and ?_ | refine Wk.r_or ?_ | refine Wk.r_andV ?_ | refine Wk.r_orV ?_ | refine Wk.r_notV ?_
    | refine Wk.r_CB ?_ | refine Wk.r_chain ?_ | refine Wk.r_fld ?_ | refine Wk.r_sfld ?_ | refine Wk.r_lst ?_ | refine Wk.r_tup ?_ | refine Wk.r_call ?_ | refine Wk.r_BM ?_ | refine Wk.r_BM0 ?_ | refine Wk.r_T ?_ | refine Wk.r_nT ?_ | refine Wk.r_nF ?_ | refine Wk.r_F ?_
    | refine Or.inl ⟨_, rfl, ?_⟩ | refine Or.inr ⟨_, rfl, ?_⟩ | refine ⟨_, rfl, ?_⟩ | refine ⟨_, _, rfl, ?_⟩)
  | ((with_reducible refine Wk.r_eq ?c0 ?_); (case c0 => rfl)) | ((with_reducible refine Wk.r_ne ?c0 ?_); (case c0 => rfl))
  | ((with_reducible refine Wk.r_pow ?c0 ?_); (case c0 => exact ⟨by decide, by decide, by decide⟩))
  | ((with_reducible refine Wk.r_mul ?c0 ?_); (case c0 => walk_at "cmul")) | ((with_reducible refine Wk.r_mod ?c0 ?_); (case c0 => first | decide | omega)) | ((with_reducible refine Wk.r_div ?c0 ?_); (case c0 => walk_at "cdiv"))
  | ((with_reducible refine Wk.r_new ?c0 ?_); (case c0 => (simp only [List.length_cons, List.length_nil]; omega)))
  | ((with_reducible show gTup _ _ _ _ _ _ _); refine Wk.r_gTup (by walk_at "sq") (by rfl) ?_)
  | (refine Wk.r_tyL (by walk_at "hp") ?_)
  | ((with_reducible show rSetL _ _ _ _ _); refine Wk.r_setL (by walk_at "hp") (by rfl) ?_)
  | ((with_reducible show rIxL _ _ _ _ _); refine Wk.r_ixL (by walk_at "sq") (by rfl) ?_) | ((with_reducible show rIxT _ _ _ _ _); refine Wk.r_ixT (by walk_at "sq") (by rfl) ?_)
  | ((with_reducible show rLenOf _ _ _ _); first | refine Wk.n_lenL (by walk_at "sq") ?_ | refine Wk.n_lenT (by walk_at "sq") ?_)
  | ((with_reducible show rListOf _ _ _ _); first | refine Wk.n_listL (by walk_at "sq") ?_ | refine Wk.n_listT (by walk_at "sq") ?_)
  | ((with_reducible show rTupZ _ _ _ _); first | refine Wk.z_tupL (by walk_at "sq") ?_ | refine Wk.z_tupT (by walk_at "sq") ?_)
  | ((with_reducible show rTupOf _ _ _ _); first | refine Wk.n_tupL (by walk_at "sq") ?_ | refine Wk.n_tupT (by walk_at "sq") ?_))
local macro_rules | `(tactic| walk_at "rd") => `(tactic| repeat (walk_at "rd1"))
local macro_rules | `(tactic| walk_at "rd1") => `(tactic| (with_reducible first | refine Wk.r_dget ?_ | refine Wk.r_din ?_ | refine Wk.r_dnotin ?_ | refine Wk.r_dput ?_ | refine Wk.r_pairs ?_ | refine Wk.r_pairs0 ?_ | refine Wk.r_sl ?_ | refine Wk.r_part ?_ | refine Wk.r_nopart ?_ | refine Wk.r_augS ?_ | refine Wk.r_ipI ?_ | refine Wk.r_aug rfl ?_ | refine Wk.r_revT ?_))

theorem atI_m1 {xs : List V} {n : Nat} {v : V} (hn : xs.length = n + 1) (h : xs[n]? = some v) : atI xs (-1) = some v := by
  unfold atI ixN
  rw [if_neg (by decide), if_pos (by omega)]
  show xs[_]? = some v
  rw [show ((-1 : Int) + ((xs.length : Nat) : Int)).toNat = n by omega]
  exact h
/-- a, b after i turns of dividing with rest -/
structure Eu (P g i a b : Nat) : Prop where
  gc : Nat.gcd a b = g
  p0 : i = 0 → a * b ≤ P
  pr : a * b * 2 ^ i ≤ 2 * P
  lt : 1 ≤ i → b < a
  sa : a < 2 ^ 1500
  sb : b < 2 ^ 1500
theorem Eu.step {P g i a b : Nat} (h : Eu P g i a b) (hb : 0 < b) : Eu P g (i + 1) b (a % b) := by
  have r := Nat.mod_lt a hb
  refine ⟨?_, fun q => absurd q (by omega), ?_, fun _ => r, h.sb, Nat.lt_trans r h.sb⟩
  · rw [← h.gc, Nat.gcd_comm a b, Nat.gcd_rec b a, Nat.gcd_comm]
  · rw [Nat.pow_succ]
    by_cases c : i = 0
    · subst c
      have h2 : b * (a % b) ≤ b * a := Nat.mul_le_mul_left b (Nat.mod_le a b)
      have h3 := h.p0 rfl
      rw [Nat.mul_comm a b] at h3
      rw [Nat.pow_zero, Nat.one_mul]
      omega
    · have lt := h.lt (by omega)
      have e := Nat.div_add_mod a b
      have q : 1 ≤ a / b := Nat.div_pos (by omega) hb
      have h1 : b ≤ b * (a / b) := Nat.le_mul_of_pos_right b q
      have h2 : 2 * (a % b) ≤ a := by omega
      have h3 : b * (2 * (a % b)) ≤ b * a := Nat.mul_le_mul_left b h2
      have h4 : b * (a % b) * (2 ^ i * 2) = b * (2 * (a % b)) * 2 ^ i := by
        rw [Nat.mul_comm (2 ^ i) 2, ← Nat.mul_assoc, Nat.mul_assoc b (a % b) 2, Nat.mul_comm (a % b) 2]
      rw [h4]
      refine Nat.le_trans (Nat.mul_le_mul_right _ h3) ?_
      rw [Nat.mul_comm b a]
      exact h.pr
theorem Eu.done {P g a b : Nat} (h : Eu P g 4000 a b) (hP : P < 2 ^ 3000) : b = 0 := by
  apply Classical.byContradiction
  intro nb
  have lt := h.lt (by decide)
  have h1 : 1 ≤ a * b := Nat.mul_pos (by omega) (by omega)
  have h2 : 1 * 2 ^ 4000 ≤ a * b * 2 ^ 4000 := Nat.mul_le_mul_right _ h1
  have h3 := h.pr
  have h4 : 2 * 2 ^ 3000 < 2 ^ 4000 := by
    rw [← Nat.pow_succ']
    exact Nat.pow_lt_pow_right (by decide) (by decide)
  rw [Nat.one_mul] at h2
  generalize 2 ^ 4000 = X at *
  generalize 2 ^ 3000 = Y at *
  omega
section
variable {P : Program} {w : World} {K : PySem.W.Frag} {mg : Str → Option Value} {base : Heap}
def spFrac (K : PySem.W.Frag) : Sp := fun vs H Q _ => ∃ (t b : Nat), vs = [.int (t : Int), .int (b : Int)] ∧ 0 < b ∧ t < 2 ^ 1500 ∧ b < 2 ^ 1500 ∧ ∀ H' u, Same H H' → SqT K H' u [.int ((t / Nat.gcd t b : Nat) : Int), .int ((b / Nat.gcd t b : Nat) : Int)] → Q (.ref u) H'
theorem k__law_fraction (T : Txt mg) (a : At K mg "_law_fraction" s__law_fraction ["top", "bottom"]) : Keep P w K mg base 1 "_law_fraction" ["top", "bottom"] (spFrac K) := by
  refine Keep.of a sc__law_fraction (fun vs H Q E h => ?_) (fun fa cdv A outer s H vs Q E hr h => ?_)
  · obtain ⟨_, _, rfl, _⟩ := h
    rfl
  · obtain ⟨t, b, rfl, hb, ht2, hb2, kk⟩ := h
    have g0 : 0 < Nat.gcd t b := Nat.gcd_pos_of_pos_right _ hb
    have gb : Nat.gcd t b ≤ b := Nat.gcd_le_right _ hb
    have dv : ∀ z : Int, CDivW z ((Nat.gcd t b : Nat) : Int) := fun z => wide_div (b := 1500) (by omega) (by rw [Int.natAbs_natCast]; exact Nat.lt_of_le_of_lt gb hb2) (by decide) (by decide)
    have hP : t * b < 2 ^ 3000 := by
      have := Nat.mul_lt_mul'' ht2 hb2
      rw [← Nat.pow_add] at this
      exact this
    refine ⟨_, (pss_cons (ps_par (i := 2) (j := 3) (by rfl) sc__law_fraction.nd rfl rfl (by decide) rfl rfl (pa_cons (pe_callB call_abs (by rfl) T.n_abs (by decide +kernel) (pa_cons (pe_callTy call_int1 (by rfl) T.n_int (by decide +kernel) (pa_cons (pv 0) pa_nil)) pa_nil)) (pa_cons (pv 1) pa_nil)) (by rfl))
    (pss_cons (ps_for PassesOwn.never rfl (pi_range1 (by rfl) T.n_range (pa_cons pe_int pa_nil)) (pg_name (i := 4) sc__law_fraction.nd rfl (by first | exact Or.inl rfl | exact Or.inr rfl)) (pss_cons (ps_if (pt_cmpR op_eq (pv 3) pe_int (nomark _)) (pss_one ps_break) pss_nil)
    (pss_one (ps_par (i := 2) (j := 3) (by rfl) sc__law_fraction.nd rfl rfl (by decide) rfl rfl (pa_cons (pv 3) (pa_cons (pe_op op_mod (pe_callTy call_int1 (by rfl) T.n_int (by decide +kernel) (pa_cons (pv 2) pa_nil)) (pv 3)) pa_nil)) (by rfl)))))
    (pss_one (ps_ret (pe_tup (pa_cons (pe_op op_fdivW (pv 0) (pv 2)) (pa_cons (pe_op op_fdivW (pv 1) (pv 2)) pa_nil))))))), ?_⟩
    walk_at "rd"
    refine f_rng (n := 4000) (fun i σ' H' => ∃ (x y : Nat) (v4 : Option V), σ' = [some (.int (t : Int)), some (.int (b : Int)), some (.int (x : Int)), some (.int (y : Int)), v4] ∧ H' = H ∧ Eu (t * b) (Nat.gcd t b) i x y) (by decide) (fun R' h => ?_) ⟨t, b, _, rfl, rfl, ⟨rfl, fun _ => Nat.le_refl _, by rw [Nat.pow_zero, Nat.mul_one]; omega, fun q => absurd q (by omega), ht2, hb2⟩⟩ ?_ ?_
    · walk_at "rd"
      exact h
    · rintro i σ' H' hi ⟨x, y, v4, rfl, rfl, eu⟩ N B R hN hB hRt
      walk_at "rd"
      refine r_ifI (fun c => ?_) (fun c => ?_)
      · walk_at "rd"
        have y0 : y = 0 := by omega
        subst y0
        have e := eu.gc
        rw [Nat.gcd_zero_right] at e
        subst e
        refine hB _ _ ?_
        walk_at "rd"
        refine Wk.r_div (dv _) ?_
        walk_at "rd"
        refine Wk.r_div (dv _) ?_
        walk_at "rd"
        intro u nu
        rw [← Int.natCast_ediv, ← Int.natCast_ediv]
        exact kk _ u (same_new nu) (SqT.of upd_same)
      · walk_at "rd"
        rw [← Int.natCast_emod]
        exact hN _ _ ⟨y, x % y, _, rfl, rfl, eu.step (by omega)⟩
    · rintro σ' H' ⟨x, y, v4, rfl, rfl, eu⟩
      have y0 := eu.done hP
      subst y0
      have e := eu.gc
      rw [Nat.gcd_zero_right] at e
      subst e
      walk_at "rd"
      refine Wk.r_div (dv _) ?_
      walk_at "rd"
      refine Wk.r_div (dv _) ?_
      walk_at "rd"
      intro u nu
      rw [← Int.natCast_ediv, ← Int.natCast_ediv]
      exact kk _ u (same_new nu) (SqT.of upd_same)
def spIsSh (S : Addr) : Sp := fun vs H Q _ => ∃ (p t b : Nat), vs = [.ref p, .int (t : Int), .int (b : Int)] ∧ ShL S H p (t : Int) b ∧ 0 < b ∧ t < 10 ^ 40 ∧ b < 10 ^ 40 ∧ ∀ H', Same H H' → Q (.bl true) H'
theorem k__law_is_share {S : Addr} (T : TxSh K mg S) (k__law_fraction : Keep P w K mg base 1 "_law_fraction" ["top", "bottom"] (spFrac K)) (a : At K mg "_law_is_share" s__law_is_share ["share", "top", "bottom"]) : Keep P w K mg base 2 "_law_is_share" ["share", "top", "bottom"] (spIsSh S) := by
  refine Keep.of a sc__law_is_share (fun vs H Q E h => ?_) (fun fa cdv A outer s H vs Q E hr h => ?_)
  · obtain ⟨_, _, _, rfl, _⟩ := h
    rfl
  · obtain ⟨p, t, b, rfl, ⟨dx, fs, hi, ft, fb⟩, hb, ht2, hb2, kk⟩ := h
    rw [Int.natAbs_natCast] at ft fb
    rw [← Int.natCast_ediv] at ft
    have l1 := Nat.div_le_self t (Nat.gcd t b)
    have l2 := Nat.div_le_self b (Nat.gcd t b)
    have fw : ∀ z ∈ [((t / Nat.gcd t b : Nat) : Int), ((b / Nat.gcd t b : Nat) : Int)], Few z := fun z hz => by
      simp only [List.mem_cons, List.not_mem_nil, or_false] at hz
      clear ft fb
      generalize t / Nat.gcd t b = X at l1 hz
      generalize b / Nat.gcd t b = Y at l2 hz
      rcases hz with rfl | rfl <;> exact few_of (by omega) (by omega)
    have big : (10 : Nat) ^ 40 ≤ 2 ^ 1500 := Nat.le_trans (show (10 : Nat) ^ 40 ≤ 2 ^ 200 by decide) (Nat.pow_le_pow_right (by decide) (by decide))
    refine ⟨_, (pss_one (ps_ret (pe_and (pe_callB call_isi (by rfl) T.n_isinstance (by decide +kernel) (pa_cons (pv 0) (pa_cons (pe_glob (v := .ref _) rfl T.n_Share rfl) pa_nil))) (pe_one (pe_cmpR op_eq (pe_callB (c_repr K hr) (by rfl) T.n_repr (by decide +kernel) (pa_cons (pe_tup (pa_cons (e_fld K (pv 0) rfl) (pa_cons (e_fld K (pv 0) rfl) pa_nil))) pa_nil)) (pe_callB (c_repr K hr) (by rfl) T.n_repr (by decide +kernel) (pa_cons (pe_k k__law_fraction (hr.mono (by decide)) (by rfl) (pa_cons (pv 1) (pa_cons (pv 2) pa_nil))) pa_nil)) (nomark _)))))), ?_⟩
    walk_at "rd"
    refine n_isi (.own S) (.base (.ins hi T.cs T.sA T.iB T.iC T.sD)) kit_own ?_
    walk_at "rd"
    refine ⟨_, _, _, _, _, rfl, hi, T.cs, T.sT, ft, ?_⟩
    walk_at "rd"
    refine ⟨_, _, _, _, _, rfl, hi, T.cs, T.sB, fb, ?_⟩
    walk_at "rd"
    intro u nu
    have s1 := same_new (o := .tup [V.int ((t / Nat.gcd t b : Nat) : Int), V.int ((b / Nat.gcd t b : Nat) : Int)]) nu
    walk_at "rd"
    refine r_reprT (ns := [((t / Nat.gcd t b : Nat) : Int), ((b / Nat.gcd t b : Nat) : Int)]) (SqT.of upd_same) fw (by show 2 ≤ 10000; decide) ?_
    walk_at "rd"
    refine ⟨t, b, rfl, hb, Nat.lt_of_lt_of_le ht2 big, Nat.lt_of_lt_of_le hb2 big, fun H2 u2 s2 hu2 => ?_⟩
    walk_at "rd"
    refine r_reprT (ns := [((t / Nat.gcd t b : Nat) : Int), ((b / Nat.gcd t b : Nat) : Int)]) hu2 fw (by show 2 ≤ 10000; decide) ?_
    walk_at "rd"
    rw [decide_eq_true rfl]
    exact kk _ (s1.trans s2)
/-- the votes at x -/
def spLVot (K : PySem.W.Frag) : Sp := fun vs H Q _ => ∃ (a1 a2 t x n k e2 : Nat) (m1 m2 : Nat → Nat → Nat) (inv f : Nat → Nat), vs = [.ref a1, .ref a2, .ref t, .int (x : Int)] ∧ GL H a1 n m1 ∧ GL H a2 k m2 ∧ n ≤ 48 ∧ k ≤ 48 ∧ G.Grp n m1 ∧ G.Grp k m2 ∧ G.IsNe k m2 e2 ∧ G.InvOf k m2 e2 inv ∧ MapT K H t n k f ∧ x < n ∧
  ∀ H' c, Same H H' → H' c = some (.lst (natsV k (G.vts m1 m2 inv f x n))) → Q (.ref c) H'
set_option maxHeartbeats 4000000 in
theorem k__law_votes (T : Txt mg) (k__law_inverses : Keep P w K mg base 2 "_law_inverses" ["table"] spLInv) (a : At K mg "_law_votes" s__law_votes ["one", "other", "f", "x"]) : Keep P w K mg base 3 "_law_votes" ["one", "other", "f", "x"] (spLVot K) := by
  refine Keep.of a sc__law_votes (fun vs H Q E h => ?_) (fun fa cdv A outer s_ H vs Q E hr h => ?_)
  · obtain ⟨_, _, _, _, _, _, _, _, _, _, _, rfl, _⟩ := h
    rfl
  · obtain ⟨a1, a2, t, x, n, k, e2, m1, m2, inv, f, rfl, gl1, gl2, hn, hk, g1, g2, he, iv, mt, hx, kk⟩ := h
    refine ⟨_, (pss_cons (ps_set (i := 4) sc__law_votes.nd rfl (by first | exact Or.inl rfl | exact Or.inr rfl) (pe_k k__law_inverses (hr.mono (by decide)) (by rfl) (pa_cons (pv 1) pa_nil)))
    (pss_cons (ps_setLc (i := 6) (own := [("h", 5)]) rfl sc__law_votes.nd rfl rfl (sw_true rfl rfl rfl (by decide +kernel)) (i_list K (pv 1)) (blkOk_by (N := ["one", "other", "f", "x", "back", "h", "found", "y"]) (sc := defScope s__law_votes) (by decide +kernel)) (fun _ _ _ _ _ => (pg_name (i := 5) sc__law_votes.nd rfl (by first | exact Or.inl rfl | exact Or.inr rfl))) (fun _ _ _ _ _ => pts_nil) (fun _ _ _ _ _ => pe_int))
    (pss_cons (ps_for PassesOwn.never rfl (pi_range1 (by rfl) T.n_range (pa_cons (pe_callB (c_len K) (by rfl) T.n_len (by decide +kernel) (pa_cons (pv 0) pa_nil)) pa_nil)) (pg_name (i := 7) sc__law_votes.nd rfl (by first | exact Or.inl rfl | exact Or.inr rfl)) (pss_cons (ps_set (i := 5) sc__law_votes.nd rfl (by first | exact Or.inl rfl | exact Or.inr rfl) (pe_ix (x_list K) (pe_ix (x_list K) (pv 1) (pe_ix (x_tup K) (pv 2) (pe_ix (x_list K) (pe_ix (x_list K) (pv 0) (pv 3) (fun _ _ => rfl)) (pv 7) (fun _ _ => rfl)) (fun _ _ => rfl)) (fun _ _ => rfl)) (pe_ix (x_list K) (pv 4) (pe_ix (x_tup K) (pv 2) (pv 7) (fun _ _ => rfl)) (fun _ _ => rfl)) (fun _ _ => rfl)))
    (pss_one (ps_asg (pe_op op_add (pe_ix (x_list K) (pv 6) (pv 5) (fun _ _ => rfl)) pe_int) (pg_sub (pv 6) (pv 5) set_list)))))
    (pss_one (ps_ret (pv 6)))))), ?_⟩
    walk_at "rd"
    refine ⟨a2, k, e2, m2, inv, rfl, gl2, hk, g2, he, iv, fun H1 c s1 nc hc => ?_⟩
    have mt1 := mt.mono s1
    obtain ⟨L1, hL1, len1, r1⟩ := (gl1.mono s1).get
    obtain ⟨L2', hL2, len2, r2⟩ := (gl2.mono s1).get
    walk_at "rd"
    refine lc_lst (fun i v _ => v = V.int ((0 : Nat) : Int)) (SqL.of hL2) (by omega) (fun R' h => ?_) (fun i => mut_val) (fun i y H2 Q' hy s2 k2 => ?_) (fun D L H2 hD s2 hL len r => ?_)
    · walk_at "rd"
      exact h
    · walk_at "rd"
      exact k2 _ _ (Same.refl _) rfl
    have e0 : L = natsV k (G.vts m1 m2 inv f x 0) := list_const (v := fun _ => V.int ((0 : Nat) : Int)) (by omega) r
    rw [e0] at hL
    have s12 := s1.trans s2
    have D0 : H D = none := s1.free hD
    walk_at "rd"
    refine f_rng (n := n) (fun i σ' H' => ∃ (v5 v7 : Option V), σ' = [some (.ref a1), some (.ref a2), some (.ref t), some (.int (x : Int)), some (.ref c), v5, some (.ref D), v7] ∧ Same H H' ∧ Same H1 H' ∧ H' D = some (.lst (natsV k (G.vts m1 m2 inv f x i)))) (by omega) (fun R' h => ?_) ⟨_, _, rfl, s12, s2, hL⟩ ?_ ?_
    · have hL1 := s2 _ _ hL1
      walk_at "rd"
      rw [len1]
      exact h
    · rintro i σ' H3 hi ⟨v5, v7, rfl, s3, s13, hD3⟩ N B R hN hB hRt
      have pl := g1.cl _ _ hx hi
      obtain ⟨b1, e1, h1⟩ := r1 x hx
      obtain ⟨b2, e2', h2⟩ := r2 _ (mt.lt _ pl)
      have mt2 := mt1.mono s13
      have vl : G.vote m1 m2 inv f x i < k := G.vote_lt g1 g2 iv mt.lt hx hi
      walk_at "rd"
      refine Wk.r_ixL (SqL.of (s13 _ _ hL1)) (at_n e1) ?_
      walk_at "rd"
      refine Wk.r_ixL (SqL.of (s13 _ _ h1)) (at_n (rowV_get hi)) ?_
      walk_at "rd"
      refine Wk.r_ixT mt2.tup (at_n (natsV_get pl)) ?_
      walk_at "rd"
      refine Wk.r_ixL (SqL.of (s13 _ _ hL2)) (at_n e2') ?_
      walk_at "rd"
      refine Wk.r_ixT mt2.tup (at_n (natsV_get hi)) ?_
      walk_at "rd"
      refine Wk.r_ixL (SqL.of (s13 _ _ hc)) (at_n (natsV_get (mt.lt _ hi))) ?_
      walk_at "rd"
      refine Wk.r_ixL (SqL.of (s13 _ _ h2)) (at_n (rowV_get (iv _ (mt.lt _ hi)).1)) ?_
      walk_at "rd"
      rw [show m2 (f (m1 x i)) (inv (f i)) = G.vote m1 m2 inv f x i from rfl]
      refine Wk.r_ixL (SqL.of hD3) (at_n (natsV_get vl)) ?_
      walk_at "rd"
      refine Wk.r_setL (j := G.vote m1 m2 inv f x i) hD3 (ix_ok (by omega) (by rw [natsV_len]; omega)) ?_
      refine hN _ _ ⟨_, _, rfl, same_upd s3 D0, same_upd s13 hD, ?_⟩
      rw [upd_same]
      have e1 : ((G.vts m1 m2 inv f x i (G.vote m1 m2 inv f x i) : Nat) : Int) + 1 = ((G.vts m1 m2 inv f x i (G.vote m1 m2 inv f x i) + 1 : Nat) : Int) := by omega
      rw [e1, natsV_set]
      congr 3
      funext h
      rw [G.vts_succ]
      by_cases q : h = G.vote m1 m2 inv f x i
      · rw [if_pos q, if_pos q, ← q]
      · rw [if_neg q, if_neg q]
    · rintro σ' H3 ⟨v5, v7, rfl, s3, s13, hD3⟩
      walk_at "rd"
      exact kk _ D s3 hD3
def spLPow : Sp := fun vs H Q _ => ∃ (n k : Nat), vs = [.int (n : Int), .int (k : Int)] ∧ n ≤ 48 ∧ k ≤ 100 ∧ Q (.int ((n ^ k : Nat) : Int)) H
def spLMh : Sp := fun vs H Q _ => ∃ (n c k : Nat), vs = [.int (n : Int), .int (c : Int), .int (k : Int)] ∧ c ≤ n ∧ n ≤ 48 ∧ k ≤ 15 ∧ ∀ H', Same H H' → Q (.int ((G.mh c (n - c) k : Nat) : Int)) H'
end
end Wk
end
section
set_option Elab.async false
set_option linter.all false
set_option maxRecDepth 100000
/-! more than half of so many things: how it rises, and how parts add up -/
namespace G
def cc : Nat → Nat → Nat
  | 0, 0 => 1
  | 0, _ + 1 => 0
  | k + 1, 0 => cc k 0
  | k + 1, j + 1 => cc k j + cc k (j + 1)
theorem cc_out : ∀ k j, k < j → cc k j = 0
  | 0, j + 1, _ => rfl
  | k + 1, j + 1, h => by
    show cc k j + cc k (j + 1) = 0
    rw [cc_out k j (by omega), cc_out k (j + 1) (by omega)]
theorem cc_zero : ∀ k, cc k 0 = 1
  | 0 => rfl
  | k + 1 => cc_zero k
theorem cc_self : ∀ k, cc k k = 1
  | 0 => rfl
  | k + 1 => by
    show cc k k + cc k (k + 1) = 1
    rw [cc_self k, cc_out k (k + 1) (by omega)]
theorem cc_sym : ∀ k j, j ≤ k → cc k j = cc k (k - j)
  | 0, 0, _ => rfl
  | k + 1, 0, _ => by rw [cc_zero, Nat.sub_zero, cc_self]
  | k + 1, j + 1, h => by
    by_cases c : j = k
    · subst c
      rw [cc_self, show j + 1 - (j + 1) = 0 by omega, cc_zero]
    · obtain ⟨i, hi⟩ : ∃ i, k - j = i + 1 := ⟨k - j - 1, by omega⟩
      show cc k j + cc k (j + 1) = cc (k + 1) (k + 1 - (j + 1))
      rw [show k + 1 - (j + 1) = i + 1 by omega]
      show _ = cc k i + cc k (i + 1)
      rw [cc_sym k j (by omega), cc_sym k (j + 1) (by omega), hi, show k - (j + 1) = i by omega, Nat.add_comm]
theorem ww_cc {a b : Nat} : ∀ k j, j ≤ k → ww a b k j = cc k j * (a ^ j * b ^ (k - j))
  | 0, 0, _ => rfl
  | k + 1, 0, _ => by
    show (if 0 = 0 then 0 else _) * a + ww a b k 0 * b = cc k 0 * (a ^ 0 * b ^ (k + 1 - 0))
    rw [if_pos rfl, ww_cc k 0 (by omega), cc_zero]
    simp [Nat.pow_succ]
  | k + 1, j + 1, h => by
    show (if j + 1 = 0 then 0 else ww a b k (j + 1 - 1)) * a + ww a b k (j + 1) * b = (cc k j + cc k (j + 1)) * (a ^ (j + 1) * b ^ (k + 1 - (j + 1)))
    rw [if_neg (by omega), Nat.add_sub_cancel, ww_cc k j (by omega), show k + 1 - (j + 1) = k - j by omega]
    by_cases c : j = k
    · subst c
      rw [ww_out j (j + 1) (by omega), cc_out j (j + 1) (by omega), Nat.pow_succ]
      grind
    · rw [ww_cc k (j + 1) (by omega)]
      obtain ⟨i, hi⟩ : ∃ i, k - j = i + 1 := ⟨k - j - 1, by omega⟩
      rw [hi, show k - (j + 1) = i by omega, Nat.pow_succ, Nat.pow_succ]
      grind
theorem ww_mid {a b m : Nat} : ww a b (2 * m + 1) m * a = ww a b (2 * m + 1) (m + 1) * b := by
  rw [ww_cc _ _ (by omega), ww_cc _ _ (by omega), cc_sym (2 * m + 1) (m + 1) (by omega), show 2 * m + 1 - (m + 1) = m by omega, show 2 * m + 1 - m = m + 1 by omega, Nat.pow_succ, Nat.pow_succ]
  grind
/-- from d on -/
def tl (a b k d : Nat) : Nat := sm (k + 1) fun j => if d ≤ j then ww a b k j else 0
theorem tl_at {a b k d : Nat} : tl a b k d = ww a b k d + tl a b k (d + 1) := by
  unfold tl
  by_cases c : d < k + 1
  · rw [← sm_one (ww a b k d) c, ← sm_add]
    refine sm_congr fun j _ => ?_
    by_cases e : j = d
    · subst e; rw [if_pos (Nat.le_refl _), if_pos rfl, if_neg (by omega)]; omega
    · rw [if_neg e]
      by_cases q : d ≤ j
      · rw [if_pos q, if_pos (by omega)]; omega
      · rw [if_neg q, if_neg (by omega)]
  · rw [ww_out k d (by omega), Nat.zero_add]
    refine sm_congr fun j hj => ?_
    rw [if_neg (by omega), if_neg (by omega)]
theorem tl_succ {a b k d : Nat} : tl a b (k + 1) (d + 1) = tl a b k d * a + tl a b k (d + 1) * b := by
  unfold tl
  rw [← sm_shift (fun j => if d ≤ j then ww a b k j else 0) (k + 1), ← sm_mulR, ← sm_mulR]
  have e : sm (k + 1) (fun j => (if d + 1 ≤ j then ww a b k j else 0) * b) = sm (k + 2) (fun j => (if d + 1 ≤ j then ww a b k j else 0) * b) := by
    show _ = sm (k + 1) (fun j => (if d + 1 ≤ j then ww a b k j else 0) * b) + (if d + 1 ≤ k + 1 then ww a b k (k + 1) else 0) * b
    rw [ww_out k (k + 1) (by omega)]
    simp
  rw [e, ← sm_add]
  refine sm_congr fun j _ => ?_
  show (if d + 1 ≤ j then (if j = 0 then 0 else ww a b k (j - 1)) * a + ww a b k j * b else 0) = _
  by_cases c : d + 1 ≤ j
  · rw [if_pos c, if_pos c, if_neg (by omega), if_neg (by omega), if_pos (by omega)]
  · rw [if_neg c, if_neg c]
    by_cases z : j = 0
    · rw [if_pos z]; simp
    · rw [if_neg z, if_neg (by omega)]; simp
theorem mh_tl {a b k : Nat} : mh a b k = tl a b k (k / 2 + 1) := rfl
/-- two more, of which more are from the part than not: it does not fall -/
theorem mh_rise {a b m : Nat} (h : b ≤ a) : (a + b) * (a + b) * mh a b (2 * m + 1) ≤ mh a b (2 * m + 3) := by
  rw [mh_tl, mh_tl, show (2 * m + 1) / 2 + 1 = m + 1 by omega, show (2 * m + 3) / 2 + 1 = m + 2 by omega]
  have e1 : tl a b (2 * m + 3) (m + 2) = tl a b (2 * m + 2) (m + 1) * a + tl a b (2 * m + 2) (m + 2) * b := tl_succ
  have e2 : tl a b (2 * m + 2) (m + 1) = tl a b (2 * m + 1) m * a + tl a b (2 * m + 1) (m + 1) * b := tl_succ
  have e3 : tl a b (2 * m + 2) (m + 2) = tl a b (2 * m + 1) (m + 1) * a + tl a b (2 * m + 1) (m + 2) * b := tl_succ
  have e4 : tl a b (2 * m + 1) m = ww a b (2 * m + 1) m + tl a b (2 * m + 1) (m + 1) := tl_at
  have e5 : tl a b (2 * m + 1) (m + 1) = ww a b (2 * m + 1) (m + 1) + tl a b (2 * m + 1) (m + 2) := tl_at
  have e6 := ww_mid (a := a) (b := b) (m := m)
  rw [e1, e2, e3, e4]
  generalize tl a b (2 * m + 1) (m + 1) = T at *
  generalize tl a b (2 * m + 1) (m + 2) = U at *
  generalize ww a b (2 * m + 1) m = X at *
  generalize ww a b (2 * m + 1) (m + 1) = Y at *
  have l : Y * b * b ≤ Y * b * a := Nat.mul_le_mul_left _ h
  have k1 : ((X + T) * a + T * b) * a + (T * a + U * b) * b + Y * b * b = (a + b) * (a + b) * T + Y * b * a := by
    rw [← e6]
    subst e5
    grind
  omega
theorem mh_one {a b : Nat} : mh a b 1 = a := by
  show sm 2 (fun j => if 1 ≤ j then ww a b 1 j else 0) = a
  show (0 + (if 1 ≤ 0 then ww a b 1 0 else 0)) + (if 1 ≤ 1 then ww a b 1 1 else 0) = a
  rw [if_neg (by omega), if_pos (by omega)]
  show 0 + 0 + ((if 1 = 0 then 0 else ww a b 0 (1 - 1)) * a + ww a b 0 1 * b) = a
  rw [if_neg (by omega)]
  show 0 + 0 + ((if 0 = 0 then 1 else 0) * a + (if 1 = 0 then 1 else 0) * b) = a
  simp
/-- above p to q from one on -/
theorem mh_above {a b p q : Nat} (h : b ≤ a) (h1 : p * (a + b) < q * a) (n0 : 0 < a + b) : ∀ m, p * (a + b) ^ (2 * m + 1) < q * mh a b (2 * m + 1)
  | 0 => by
    show p * (a + b) ^ 1 < q * mh a b 1
    rw [mh_one, Nat.pow_one]
    exact h1
  | m + 1 => by
    have ih := mh_above h h1 n0 m
    have r := mh_rise (m := m) h
    have e : (a + b) ^ (2 * (m + 1) + 1) = (a + b) * (a + b) * (a + b) ^ (2 * m + 1) := by
      rw [show 2 * (m + 1) + 1 = 2 * m + 1 + 1 + 1 by omega, Nat.pow_succ, Nat.pow_succ]
      grind
    rw [e]
    have s1 : (a + b) * (a + b) * (p * (a + b) ^ (2 * m + 1)) < (a + b) * (a + b) * (q * mh a b (2 * m + 1)) := Nat.mul_lt_mul_of_pos_left ih (Nat.mul_pos n0 n0)
    have s2 : q * ((a + b) * (a + b) * mh a b (2 * m + 1)) ≤ q * mh a b (2 * m + 3) := Nat.mul_le_mul_left q r
    have e1 : p * ((a + b) * (a + b) * (a + b) ^ (2 * m + 1)) = (a + b) * (a + b) * (p * (a + b) ^ (2 * m + 1)) := by grind
    have e2 : q * ((a + b) * (a + b) * mh a b (2 * m + 1)) = (a + b) * (a + b) * (q * mh a b (2 * m + 1)) := by grind
    rw [e1]
    rw [e2] at s2
    exact Nat.lt_of_lt_of_le s1 s2
/-! ### parts -/
def e1 (a b : Nat) : Nat → (Nat → Nat) → Nat
  | 0, F => F 0
  | k + 1, F => a * e1 a b k (fun i => F (i + 1)) + b * e1 a b k F
def e2 (a b c : Nat) : Nat → (Nat → Nat → Nat) → Nat
  | 0, F => F 0 0
  | k + 1, F => a * e2 a b c k (fun i j => F (i + 1) j) + b * e2 a b c k (fun i j => F i (j + 1)) + c * e2 a b c k F
theorem e1_ww {a b : Nat} : ∀ k F, e1 a b k F = sm (k + 1) fun j => ww a b k j * F j
  | 0, F => by show F 0 = 0 + (if 0 = 0 then 1 else 0) * F 0; simp
  | k + 1, F => by
    show a * e1 a b k (fun i => F (i + 1)) + b * e1 a b k F = sm (k + 2) fun j => ((if j = 0 then 0 else ww a b k (j - 1)) * a + ww a b k j * b) * F j
    rw [e1_ww k, e1_ww k, ← sm_shift (fun j => ww a b k j * F (j + 1)) (k + 1), ← sm_mul, ← sm_mul]
    have e : sm (k + 1) (fun j => b * (ww a b k j * F j)) = sm (k + 2) (fun j => b * (ww a b k j * F j)) := by
      show _ = sm (k + 1) (fun j => b * (ww a b k j * F j)) + b * (ww a b k (k + 1) * F (k + 1))
      rw [ww_out k (k + 1) (by omega)]
      simp
    rw [e, ← sm_add]
    refine sm_congr fun j _ => ?_
    by_cases z : j = 0
    · subst z; simp; grind
    · rw [if_neg z, if_neg z, Nat.sub_add_cancel (by omega)]; grind
theorem e2_mono {a b c : Nat} : ∀ k F H, (∀ i j, i + j ≤ k → F i j ≤ H i j) → e2 a b c k F ≤ e2 a b c k H
  | 0, F, H, h => h 0 0 (by omega)
  | k + 1, F, H, h => by
    show a * e2 a b c k _ + b * e2 a b c k _ + c * e2 a b c k F ≤ a * e2 a b c k _ + b * e2 a b c k _ + c * e2 a b c k H
    have h1 := e2_mono (a := a) (b := b) (c := c) k (fun i j => F (i + 1) j) (fun i j => H (i + 1) j) fun i j q => h _ _ (by omega)
    have h2 := e2_mono (a := a) (b := b) (c := c) k (fun i j => F i (j + 1)) (fun i j => H i (j + 1)) fun i j q => h _ _ (by omega)
    have h3 := e2_mono (a := a) (b := b) (c := c) k F H fun i j q => h _ _ (by omega)
    exact Nat.add_le_add (Nat.add_le_add (Nat.mul_le_mul_left a h1) (Nat.mul_le_mul_left b h2)) (Nat.mul_le_mul_left c h3)
theorem e2_add {a b c : Nat} : ∀ k F H, e2 a b c k (fun i j => F i j + H i j) = e2 a b c k F + e2 a b c k H
  | 0, F, H => rfl
  | k + 1, F, H => by
    show a * e2 a b c k (fun i j => F (i + 1) j + H (i + 1) j) + b * e2 a b c k (fun i j => F i (j + 1) + H i (j + 1)) + c * e2 a b c k (fun i j => F i j + H i j) = (a * e2 a b c k _ + b * e2 a b c k _ + c * e2 a b c k F) + (a * e2 a b c k _ + b * e2 a b c k _ + c * e2 a b c k H)
    rw [e2_add k (fun i j => F (i + 1) j) (fun i j => H (i + 1) j), e2_add k (fun i j => F i (j + 1)) (fun i j => H i (j + 1)), e2_add k F H]
    grind
theorem e2_i {a b c : Nat} : ∀ k F, e2 a b c k (fun i _ => F i) = e1 a (b + c) k F
  | 0, F => rfl
  | k + 1, F => by
    show a * e2 a b c k (fun i _ => F (i + 1)) + b * e2 a b c k (fun i _ => F i) + c * e2 a b c k (fun i _ => F i) = a * e1 a (b + c) k _ + (b + c) * e1 a (b + c) k F
    rw [e2_i k (fun i => F (i + 1)), e2_i k F]
    grind
theorem e2_j {a b c : Nat} : ∀ k F, e2 a b c k (fun _ j => F j) = e1 b (a + c) k F
  | 0, F => rfl
  | k + 1, F => by
    show a * e2 a b c k (fun _ j => F j) + b * e2 a b c k (fun _ j => F (j + 1)) + c * e2 a b c k (fun _ j => F j) = b * e1 b (a + c) k _ + (a + c) * e1 b (a + c) k F
    rw [e2_j k (fun i => F (i + 1)), e2_j k F]
    grind
theorem e2_s {a b c : Nat} : ∀ k F, e2 a b c k (fun i j => F (i + j)) = e1 (a + b) c k F
  | 0, F => rfl
  | k + 1, F => by
    show a * e2 a b c k (fun i j => F (i + 1 + j)) + b * e2 a b c k (fun i j => F (i + (j + 1))) + c * e2 a b c k (fun i j => F (i + j)) = (a + b) * e1 (a + b) c k (fun i => F (i + 1)) + c * e1 (a + b) c k F
    have h1 : (fun i j => F (i + 1 + j)) = fun i j => (fun z => F (z + 1)) (i + j) := by funext i j; show F _ = F _; congr 1; omega
    have h2 : (fun i j => F (i + (j + 1))) = fun i j => (fun z => F (z + 1)) (i + j) := by funext i j; show F _ = F _; congr 1
    rw [h1, h2, e2_s k (fun z => F (z + 1)), e2_s k F]
    grind
theorem mh_e1 {a b k : Nat} : mh a b k = e1 a b k fun j => if k / 2 + 1 ≤ j then 1 else 0 := by
  rw [e1_ww]
  refine sm_congr fun j _ => ?_
  by_cases c : k / 2 + 1 ≤ j
  · rw [if_pos c, if_pos c, Nat.mul_one]
  · rw [if_neg c, if_neg c, Nat.mul_zero]
/-- the parts' halves together are no more than the whole's -/
theorem mh_super {a b c k : Nat} : mh a (b + c) k + mh b (a + c) k ≤ mh (a + b) c k := by
  rw [mh_e1, mh_e1, mh_e1, ← e2_i, ← e2_j, ← e2_s, ← e2_add]
  refine e2_mono k _ _ fun i j h => ?_
  by_cases c1 : k / 2 + 1 ≤ i <;> by_cases c2 : k / 2 + 1 ≤ j
  · omega
  · rw [if_pos c1, if_neg c2, if_pos (by omega)]; omega
  · rw [if_neg c1, if_pos c2, if_pos (by omega)]; omega
  · rw [if_neg c1, if_neg c2]; exact Nat.zero_le _
theorem mh_sum {n k : Nat} (c : Nat → Nat) : ∀ m, sm m c ≤ n → sm m (fun h => mh (c h) (n - c h) k) ≤ mh (sm m c) (n - sm m c) k
  | 0, _ => Nat.zero_le _
  | m + 1, h => by
    have h' : sm m c + c m ≤ n := h
    have ih := mh_sum (n := n) (k := k) c m (by omega)
    show sm m (fun h => mh (c h) (n - c h) k) + mh (c m) (n - c m) k ≤ mh (sm m c + c m) (n - (sm m c + c m)) k
    have s := mh_super (a := sm m c) (b := c m) (c := n - (sm m c + c m)) (k := k)
    rw [show c m + (n - (sm m c + c m)) = n - sm m c by omega, show sm m c + (n - (sm m c + c m)) = n - c m by omega] at s
    omega
end G
end
section
set_option Elab.async false
set_option linter.all false
set_option maxRecDepth 100000
set_option exponentiation.threshold 5000
namespace Wk
open PySem PySem.Spec PyProof.Rows L2
local macro_rules | `(tactic| walk_at "hp") => `(tactic| first | assumption | exact upd_same | exact (upd_ne (ne_of_none (by assumption) (by assumption))).trans (by assumption) | (rw [upd_ne (by first | assumption | exact Ne.symm (by assumption))]; walk_at "hp"))
local macro_rules | `(tactic| walk_at "sq") => `(tactic| first | assumption | exact SqL.of (by assumption) | exact SqT.of (by assumption) | exact SqL.of (by walk_at "hp") | exact SqT.of (by walk_at "hp") | (refine Same.seq ?_ ?_ <;> assumption))
local macro_rules | `(tactic| walk_at "cmul") => `(tactic| first | exact .inr ⟨by decide, by decide⟩ | exact .inl ⟨by decide, by decide⟩ | exact .inr ⟨by omega, by omega⟩ | exact .inl ⟨by omega, by omega⟩)
local macro_rules | `(tactic| walk_at "cdiv") => `(tactic| first | exact ⟨by decide, by decide⟩ | exact wide_div (b := 64) (by omega) (by omega) (by decide) (by decide) | exact wide_div (b := 128) (by omega) (by omega) (by decide) (by decide))
local macro_rules | `(tactic| walk_at "rd1") => `(tactic| first
  | ((with_reducible show tVar _ _ _ _); refine Wk.r_var rfl ?_)
  | (with_reducible first
    | refine Wk.r_c ?_ | refine Wk.r_op ?_ | refine Wk.r_cons ?_ | refine Wk.r_nil ?_
    | refine Wk.r_seq ?_ | refine Wk.r_next ?_ | refine Wk.r_set ?_ | refine Wk.r_asgS ?_ | refine Wk.r_ret ?_ | refine Wk.r_drop ?_ | refine Wk.r_if ?_
    | refine Wk.r_asgG ?_ | refine Wk.r_gName ?_ | refine Wk.r_gCons ?_ | refine Wk.r_gNil ?_ | refine Wk.r_par ?_ | refine Wk.r_par3 ?_ | refine Wk.r_lstRg1 ?_ | refine Wk.r_tupRg1 ?_ | refine ⟨_, _, _, rfl, ?_⟩ | refine Wk.r_un ?_ | refine Wk.r_I0 ?_ | refine Wk.r_U ?_
    | refine Wk.r_test ?_ | refine Wk.r_B ?_ | refine Wk.r_k ?_ | refine Wk.r_not ?_ | refine Wk.r_and ?_ | refine Wk.r_or ?_ | refine Wk.r_andV ?_ | refine Wk.r_orV ?_ | refine Wk.r_notV ?_
    | refine Wk.r_CB ?_ | refine Wk.r_chain ?_ | refine Wk.r_fld ?_ | refine Wk.r_sfld ?_ | refine Wk.r_lst ?_ | refine Wk.r_tup ?_ | refine Wk.r_call ?_ | refine Wk.r_BM ?_ | refine Wk.r_BM0 ?_ | refine Wk.r_T ?_ | refine Wk.r_nT ?_ | refine Wk.r_nF ?_ | refine Wk.r_F ?_
    | refine Or.inl ⟨_, rfl, ?_⟩ | refine Or.inr ⟨_, rfl, ?_⟩ | refine ⟨_, rfl, ?_⟩ | refine ⟨_, _, rfl, ?_⟩)
  | ((with_reducible refine Wk.r_eq ?c0 ?_); (case c0 => rfl)) | ((with_reducible refine Wk.r_ne ?c0 ?_); (case c0 => rfl))
  | ((with_reducible refine Wk.r_pow ?c0 ?_); (case c0 => exact ⟨by decide, by decide, by decide⟩))
  | ((with_reducible refine Wk.r_mul ?c0 ?_); (case c0 => walk_at "cmul")) | ((with_reducible refine Wk.r_mod ?c0 ?_); (case c0 => first | decide | omega)) | ((with_reducible refine Wk.r_div ?c0 ?_); (case c0 => walk_at "cdiv"))
  | ((with_reducible refine Wk.r_new ?c0 ?_); (case c0 => (simp only [List.length_cons, List.length_nil]; omega)))
  | ((with_reducible show gTup _ _ _ _ _ _ _); refine Wk.r_gTup (by walk_at "sq") (by rfl) ?_)
  | (refine Wk.r_tyL (by walk_at "hp") ?_)
  | ((with_reducible show rSetL _ _ _ _ _); refine Wk.r_setL (by walk_at "hp") (by rfl) ?_)
  | ((with_reducible show rIxL _ _ _ _ _); refine Wk.r_ixL (by walk_at "sq") (by rfl) ?_) | ((with_reducible show rIxT _ _ _ _ _); refine Wk.r_ixT (by walk_at "sq") (by rfl) ?_)
  | ((with_reducible show rLenOf _ _ _ _); first | refine Wk.n_lenL (by walk_at "sq") ?_ | refine Wk.n_lenT (by walk_at "sq") ?_)
  | ((with_reducible show rListOf _ _ _ _); first | refine Wk.n_listL (by walk_at "sq") ?_ | refine Wk.n_listT (by walk_at "sq") ?_)
  | ((with_reducible show rTupZ _ _ _ _); first | refine Wk.z_tupL (by walk_at "sq") ?_ | refine Wk.z_tupT (by walk_at "sq") ?_)
  | ((with_reducible show rTupOf _ _ _ _); first | refine Wk.n_tupL (by walk_at "sq") ?_ | refine Wk.n_tupT (by walk_at "sq") ?_))
local macro_rules | `(tactic| walk_at "rd") => `(tactic| repeat (walk_at "rd1"))
local macro_rules | `(tactic| walk_at "rd1") => `(tactic| (with_reducible first | refine Wk.r_dget ?_ | refine Wk.r_din ?_ | refine Wk.r_dnotin ?_ | refine Wk.r_dput ?_ | refine Wk.r_pairs ?_ | refine Wk.r_pairs0 ?_ | refine Wk.r_sl ?_ | refine Wk.r_part ?_ | refine Wk.r_nopart ?_ | refine Wk.r_augS ?_ | refine Wk.r_ipI ?_ | refine Wk.r_aug rfl ?_ | refine Wk.r_revT ?_))

/-- lowest terms are told by the fraction alone -/
theorem low_eq {t t' : Int} {b b' : Nat} (h0 : 0 < b) (h1 : 0 < b') (e : t * (b' : Int) = t' * (b : Int)) : t / ((Nat.gcd t.natAbs b : Nat) : Int) = t' / ((Nat.gcd t'.natAbs b' : Nat) : Int) ∧ b / Nat.gcd t.natAbs b = b' / Nat.gcd t'.natAbs b' := by
  have g0 : 0 < Nat.gcd t.natAbs b := Nat.gcd_pos_of_pos_right _ h0
  have g1 : 0 < Nat.gcd t'.natAbs b' := Nat.gcd_pos_of_pos_right _ h1
  have c0 : Nat.Coprime (t.natAbs / Nat.gcd t.natAbs b) (b / Nat.gcd t.natAbs b) := Nat.coprime_div_gcd_div_gcd g0
  have c1 : Nat.Coprime (t'.natAbs / Nat.gcd t'.natAbs b') (b' / Nat.gcd t'.natAbs b') := Nat.coprime_div_gcd_div_gcd g1
  have d1 : ((Nat.gcd t.natAbs b : Nat) : Int) * (t / ((Nat.gcd t.natAbs b : Nat) : Int)) = t := Int.mul_ediv_cancel' (Int.ofNat_dvd_left.mpr (Nat.gcd_dvd_left _ _))
  have d2 : Nat.gcd t.natAbs b * (b / Nat.gcd t.natAbs b) = b := Nat.mul_div_cancel' (Nat.gcd_dvd_right _ _)
  have d3 : ((Nat.gcd t'.natAbs b' : Nat) : Int) * (t' / ((Nat.gcd t'.natAbs b' : Nat) : Int)) = t' := Int.mul_ediv_cancel' (Int.ofNat_dvd_left.mpr (Nat.gcd_dvd_left _ _))
  have d4 : Nat.gcd t'.natAbs b' * (b' / Nat.gcd t'.natAbs b') = b' := Nat.mul_div_cancel' (Nat.gcd_dvd_right _ _)
  have d5 : Nat.gcd t.natAbs b * (t.natAbs / Nat.gcd t.natAbs b) = t.natAbs := Nat.mul_div_cancel' (Nat.gcd_dvd_left _ _)
  have d6 : Nat.gcd t'.natAbs b' * (t'.natAbs / Nat.gcd t'.natAbs b') = t'.natAbs := Nat.mul_div_cancel' (Nat.gcd_dvd_left _ _)
  have ea : t.natAbs * b' = t'.natAbs * b := by
    have := congrArg Int.natAbs e
    rw [Int.natAbs_mul, Int.natAbs_mul, Int.natAbs_natCast, Int.natAbs_natCast] at this
    exact this
  generalize Nat.gcd t.natAbs b = g at *
  generalize Nat.gcd t'.natAbs b' = g' at *
  generalize t.natAbs / g = x at *
  generalize t'.natAbs / g' = x' at *
  generalize hy : b / g = y at *
  generalize hy' : b' / g' = y' at *
  have y0 : 0 < y := Nat.pos_of_ne_zero fun q => by rw [q] at d2; omega
  have y1 : 0 < y' := Nat.pos_of_ne_zero fun q => by rw [q] at d4; omega
  have ex : x * y' = x' * y := by
    have : g * g' * (x * y') = g * g' * (x' * y) := by
      calc g * g' * (x * y') = (g * x) * (g' * y') := by grind
        _ = t.natAbs * b' := by rw [d5, d4]
        _ = t'.natAbs * b := ea
        _ = (g' * x') * (g * y) := by rw [d6, d2]
        _ = g * g' * (x' * y) := by grind
    exact Nat.eq_of_mul_eq_mul_left (Nat.mul_pos g0 g1) this
  have v1 : y ∣ y' := (Nat.Coprime.symm c0).dvd_of_dvd_mul_left (by rw [ex]; exact Nat.dvd_mul_left y x')
  have v2 : y' ∣ y := (Nat.Coprime.symm c1).dvd_of_dvd_mul_left (by rw [← ex]; exact Nat.dvd_mul_left y' x)
  have ey : y = y' := Nat.dvd_antisymm v1 v2
  refine ⟨?_, ey⟩
  subst ey
  generalize t / (g : Int) = z at *
  generalize t' / (g' : Int) = z' at *
  have ez : (g : Int) * (g' : Int) * (y : Int) * z = (g : Int) * (g' : Int) * (y : Int) * z' := by
    have e2 : (b : Int) = (g : Int) * (y : Int) := by rw [← d2, Int.natCast_mul]
    have e3 : (b' : Int) = (g' : Int) * (y : Int) := by rw [← d4, Int.natCast_mul]
    rw [← d1, ← d3, e2, e3] at e
    grind
  have p : (g : Int) * (g' : Int) * (y : Int) ≠ 0 := by
    have : 0 < g * g' * y := Nat.mul_pos (Nat.mul_pos g0 g1) y0
    rw [← Int.natCast_mul, ← Int.natCast_mul]
    omega
  exact Int.eq_of_mul_eq_mul_left p ez
theorem ShL.as {S : Addr} {H : Hp} {a : Addr} {t t' : Int} {b b' : Nat} (h : ShL S H a t b) (h0 : 0 < b) (h1 : 0 < b') (e : t * (b' : Int) = t' * (b : Int)) : ShL S H a t' b' := by
  obtain ⟨dx, fs, h2, h3, h4⟩ := h
  obtain ⟨a1, a2⟩ := low_eq h0 h1 e
  exact ⟨dx, fs, h2, by rw [← a1]; exact h3, by rw [← a2]; exact h4⟩
/-- top and bottom, as they stand -/
theorem ShL.parts {S : Addr} {H : Hp} {a : Addr} {t : Int} {b : Nat} (h : ShL S H a t b) (h0 : 0 < b) : ∃ (dx : Addr) (fs : List (Str × V)) (x : Int) (y g : Nat), H a = some (.ins S dx fs) ∧ fs.lookup ("top" : Str) = some (.int x) ∧ fs.lookup ("bottom" : Str) = some (.int (y : Int)) ∧ 0 < g ∧ 0 < y ∧ t = (g : Int) * x ∧ b = g * y := by
  obtain ⟨dx, fs, h2, h3, h4⟩ := h
  have g0 : 0 < Nat.gcd t.natAbs b := Nat.gcd_pos_of_pos_right _ h0
  have d1 : ((Nat.gcd t.natAbs b : Nat) : Int) * (t / ((Nat.gcd t.natAbs b : Nat) : Int)) = t := Int.mul_ediv_cancel' (Int.ofNat_dvd_left.mpr (Nat.gcd_dvd_left _ _))
  have d2 : Nat.gcd t.natAbs b * (b / Nat.gcd t.natAbs b) = b := Nat.mul_div_cancel' (Nat.gcd_dvd_right _ _)
  exact ⟨dx, fs, _, _, _, h2, h3, h4, g0, Nat.pos_of_ne_zero fun q => by rw [q] at d2; omega, d1.symm, d2.symm⟩
theorem abs_le_of {t x : Int} {g : Nat} (g0 : 0 < g) (ht : t = (g : Int) * x) : x.natAbs ≤ t.natAbs := by
  rw [ht, Int.natAbs_mul, Int.natAbs_natCast]
  exact Nat.le_mul_of_pos_left _ g0
section
variable {P : Program} {w : World} {K : PySem.W.Frag} {mg : Str → Option Value} {base : Heap}
structure TxO (K : PySem.W.Frag) (mg : Str → Option Value) (S : Addr) : Prop extends TxSh K mg S where
  sf : PySem.W.selfFirst K S = true
  ss : ∃ g : Addr, PySem.W.findIn K (.ref S) "__sub__" = some (some (.ref g))
  si : PySem.W.subIn K (.ref S) (.type "int") = some false
  kC : ((PySem.W.clsIn K S).isSome && PySem.W.typeIn K (.ref S) == some (.type "type")) = true
theorem TxO.kit_int {S : Addr} (X : TxO K mg S) : PySem.W.kitOne K (.type "int") (.ref S) = some false := by
  unfold PySem.W.kitOne
  rw [if_neg (by simp)]
  unfold PySem.W.kitCls
  show (if ((PySem.W.clsIn K S).isSome && PySem.W.typeIn K (.ref S) == some (.type "type")) = true then PySem.W.subIn K (.type "int") (.ref S) else none) = some false
  rw [if_pos X.kC, sub_ty (by decide +kernel)]
def spAsSh (S : Addr) : Sp := fun vs H Q _ => (∃ (q dx : Addr) (fs : List (Str × V)), vs = [.ref q] ∧ H q = some (.ins S dx fs) ∧ Q (.ref q) H) ∨ ∃ i : Int, vs = [.int i] ∧ ∀ H' r, Same H H' → H r = none → ShL S H' r i 1 → Q (.ref r) H'
theorem k__as_share {S : Addr} (T : TxO K mg S) (k_is_whole : Keep P w K mg base 1 "is_whole" ["value"] spWhole) (k_Share : KeepC0 P w K mg base 2 S ["self", "top", "bottom"] (spShI S)) (a : At K mg "_as_share" s__as_share ["value"]) : Keep P w K mg base 4 "_as_share" ["value"] (spAsSh S) := by
  refine Keep.of a sc__as_share (fun vs H Q E h => ?_) (fun fa cdv A outer s H vs Q E hr h => ?_)
  · rcases h with ⟨_, _, _, rfl, _⟩ | ⟨_, rfl, _⟩ <;> rfl
  · refine ⟨_, (pss_cons (ps_if (pt_val (pe_callB call_isi (by rfl) T.n_isinstance (by decide +kernel) (pa_cons (pv 0) (pa_cons (pe_glob (v := .ref _) rfl T.n_Share rfl) pa_nil)))) (pss_one (ps_ret (pv 0))) pss_nil)
    (pss_cons (ps_if (pt_val (pe_k k_is_whole (hr.mono (by decide)) (by rfl) (pa_cons (pv 0) pa_nil))) (pss_one (ps_ret (e_make0 k_Share (hr.mono (by decide)) (by rfl) T.n_Share (pa_cons (pv 0) (pa_cons pe_int pa_nil))))) pss_nil)
    (pss_one (ps_ret pe_non)))), ?_⟩
    rcases h with ⟨q, dx, fs, rfl, hi, kk⟩ | ⟨i, rfl, kk⟩
    · walk_at "rd"
      refine n_isi (.own S) (.base (.ins hi T.cs T.sA T.iB T.iC T.sD)) kit_own ?_
      walk_at "rd"
      exact kk
    · walk_at "rd"
      refine n_isi (.own S) (.base (.int _)) T.kit_int ?_
      walk_at "rd"
      refine ⟨_, rfl, ?_⟩
      walk_at "rd"
      refine r_make ?_
      walk_at "rd"
      intro p dx np nd ne
      have sN := (same_new (o := HO.own p) nd).trans (same_new (o := HO.ins S dx []) (show upd H dx (.own p) p = none by rw [upd_ne ne.symm]; exact np))
      exact ⟨p, dx, i, 1, rfl, upd_same, by decide, Nat.one_lt_two_pow (by decide), fun H2 x2 o2 => ⟨rfl, kk _ p (fun b o e => x2 b o (ne_of_none e np) (sN b o e)) np o2⟩⟩
def spAdd (S : Addr) : Sp := fun vs H Q _ => ∃ (p q : Addr) (t1 t2 : Int) (b1 b2 : Nat), vs = [.ref p, .ref q] ∧ ShL S H p t1 b1 ∧ ShL S H q t2 b2 ∧ 0 < b1 ∧ 0 < b2 ∧ t1.natAbs < 2 ^ 700 ∧ t2.natAbs < 2 ^ 700 ∧ b1 < 2 ^ 700 ∧ b2 < 2 ^ 700 ∧ ∀ H' r, Same H H' → H r = none → ShL S H' r (t1 * b2 + t2 * b1) (b1 * b2) → Q (.ref r) H'
def spSub (S : Addr) : Sp := fun vs H Q _ => ∃ (p q : Addr) (t1 t2 : Int) (b1 b2 : Nat), vs = [.ref p, .ref q] ∧ ShL S H p t1 b1 ∧ ShL S H q t2 b2 ∧ 0 < b1 ∧ 0 < b2 ∧ t1.natAbs < 2 ^ 700 ∧ t2.natAbs < 2 ^ 700 ∧ b1 < 2 ^ 700 ∧ b2 < 2 ^ 700 ∧ ∀ H' r, Same H H' → H r = none → ShL S H' r (t1 * b2 - t2 * b1) (b1 * b2) → Q (.ref r) H'
theorem mul7 {x y : Int} (hx : x.natAbs < 2 ^ 700) (hy : y.natAbs < 2 ^ 700) : CMulW x y := wide_mul (a := 700) (b := 700) hx hy (by decide) (by decide) (by decide)
theorem bot_lt {y1 y2 : Nat} (h1 : y1 < 2 ^ 700) (h2 : y2 < 2 ^ 700) : y1 * y2 < 2 ^ 2000 := by
  have := Nat.mul_lt_mul'' h1 h2
  rw [← Nat.pow_add] at this
  exact Nat.lt_trans this (Nat.pow_lt_pow_right (by decide) (by decide))
theorem ok_add {S f : Addr} {fd : FuncData} (T : TxO K mg S) (k__as_share : Keep P w K mg base 4 "_as_share" ["value"] (spAsSh S)) (k_Share : KeepC0 P w K mg base 2 S ["self", "top", "bottom"] (spShI S)) (F : Fun K "__add__" "Share.__add__" s_Share___add__ f fd) : FnOk P w K mg base CX0 5 f fd ["self", "other"] (spAdd S) := by
  refine F.okG sc_Share___add__ (fun vs H Q E h => ?_) (fun cdv A outer s H vs Q E hr h => ?_)
  · obtain ⟨_, _, _, _, _, _, rfl, _⟩ := h
    rfl
  · obtain ⟨p, q, t1, t2, b1, b2, rfl, h1, h2, z1, z2, s1, s2, s3, s4, kk⟩ := h
    obtain ⟨dx1, fs1, x1, y1, g1, i1, f1, f2, gp1, yp1, et1, eb1⟩ := h1.parts z1
    obtain ⟨dx2, fs2, x2, y2, g2, i2, f3, f4, gp2, yp2, et2, eb2⟩ := h2.parts z2
    have ax1 := Nat.lt_of_le_of_lt (abs_le_of gp1 et1) s1
    have ax2 := Nat.lt_of_le_of_lt (abs_le_of gp2 et2) s2
    have ay1 : y1 < 2 ^ 700 := Nat.lt_of_le_of_lt (by rw [eb1]; exact Nat.le_mul_of_pos_left _ gp1) s3
    have ay2 : y2 < 2 ^ 700 := Nat.lt_of_le_of_lt (by rw [eb2]; exact Nat.le_mul_of_pos_left _ gp2) s4
    refine ⟨_, (pss_cons (ps_set (i := 2) sc_Share___add__.nd rfl (by first | exact Or.inl rfl | exact Or.inr rfl) (pe_k k__as_share (hr.mono (by decide)) (by rfl) (pa_cons (pv 1) pa_nil)))
    (pss_cons (ps_if (pt_cmpR op_isN (pv 2) pe_non (nomark _)) (pss_one ps_never) pss_nil)
    (pss_one (ps_ret (e_make0 k_Share (hr.mono (by decide)) (by rfl) T.n_Share (pa_cons (pe_op op_add (pe_op op_mulW (e_fld K (pv 0) rfl) (e_fld K (pv 2) rfl)) (pe_op op_mulW (e_fld K (pv 2) rfl) (e_fld K (pv 0) rfl))) (pa_cons (pe_op op_mulW (e_fld K (pv 0) rfl) (e_fld K (pv 2) rfl)) pa_nil))))))), ?_⟩
    walk_at "rd"
    refine .inl ⟨q, dx2, fs2, rfl, i2, ?_⟩
    walk_at "rd"
    refine ⟨rfl, ?_⟩
    walk_at "rd"
    refine r_if1 (fun c => by cases c) (fun _ => ?_)
    walk_at "rd"
    refine r_make ?_
    walk_at "rd"
    refine ⟨_, _, _, _, _, rfl, i1, T.cs, T.sT, f1, ?_⟩
    walk_at "rd"
    refine ⟨_, _, _, _, _, rfl, i2, T.cs, T.sB, f4, ?_⟩
    walk_at "rd"
    refine Wk.r_I (mul7 ax1 (by rw [Int.natAbs_natCast]; exact ay2)) ?_
    walk_at "rd"
    refine ⟨_, _, _, _, _, rfl, i2, T.cs, T.sT, f3, ?_⟩
    walk_at "rd"
    refine ⟨_, _, _, _, _, rfl, i1, T.cs, T.sB, f2, ?_⟩
    walk_at "rd"
    refine Wk.r_I (mul7 ax2 (by rw [Int.natAbs_natCast]; exact ay1)) ?_
    walk_at "rd"
    refine ⟨_, _, _, _, _, rfl, i1, T.cs, T.sB, f2, ?_⟩
    walk_at "rd"
    refine ⟨_, _, _, _, _, rfl, i2, T.cs, T.sB, f4, ?_⟩
    walk_at "rd"
    refine Wk.r_I (mul7 (by rw [Int.natAbs_natCast]; exact ay1) (by rw [Int.natAbs_natCast]; exact ay2)) ?_
    walk_at "rd"
    intro r dx np nd ne
    have sN := (same_new (o := HO.own r) nd).trans (same_new (o := HO.ins S dx []) (show upd H dx (.own r) r = none by rw [upd_ne ne.symm]; exact np))
    refine ⟨r, dx, x1 * y2 + x2 * y1, y1 * y2, by rw [Int.natCast_mul]; rfl, upd_same, Nat.mul_pos yp1 yp2, bot_lt ay1 ay2, fun H2 xx o2 => ⟨rfl, kk _ r (fun b o e => xx b o (ne_of_none e np) (sN b o e)) np (o2.as (Nat.mul_pos yp1 yp2) (Nat.mul_pos z1 z2) ?_)⟩⟩
    subst eb1 eb2 et1 et2
    simp only [Int.natCast_mul]
    grind
theorem ok_sub {S f : Addr} {fd : FuncData} (T : TxO K mg S) (k__as_share : Keep P w K mg base 4 "_as_share" ["value"] (spAsSh S)) (k_Share : KeepC0 P w K mg base 2 S ["self", "top", "bottom"] (spShI S)) (F : Fun K "__sub__" "Share.__sub__" s_Share___sub__ f fd) : FnOk P w K mg base CX0 5 f fd ["self", "other"] (spSub S) := by
  refine F.okG sc_Share___sub__ (fun vs H Q E h => ?_) (fun cdv A outer s H vs Q E hr h => ?_)
  · obtain ⟨_, _, _, _, _, _, rfl, _⟩ := h
    rfl
  · obtain ⟨p, q, t1, t2, b1, b2, rfl, h1, h2, z1, z2, s1, s2, s3, s4, kk⟩ := h
    obtain ⟨dx1, fs1, x1, y1, g1, i1, f1, f2, gp1, yp1, et1, eb1⟩ := h1.parts z1
    obtain ⟨dx2, fs2, x2, y2, g2, i2, f3, f4, gp2, yp2, et2, eb2⟩ := h2.parts z2
    have ax1 := Nat.lt_of_le_of_lt (abs_le_of gp1 et1) s1
    have ax2 := Nat.lt_of_le_of_lt (abs_le_of gp2 et2) s2
    have ay1 : y1 < 2 ^ 700 := Nat.lt_of_le_of_lt (by rw [eb1]; exact Nat.le_mul_of_pos_left _ gp1) s3
    have ay2 : y2 < 2 ^ 700 := Nat.lt_of_le_of_lt (by rw [eb2]; exact Nat.le_mul_of_pos_left _ gp2) s4
    refine ⟨_, (pss_cons (ps_set (i := 2) sc_Share___sub__.nd rfl (by first | exact Or.inl rfl | exact Or.inr rfl) (pe_k k__as_share (hr.mono (by decide)) (by rfl) (pa_cons (pv 1) pa_nil)))
    (pss_cons (ps_if (pt_cmpR op_isN (pv 2) pe_non (nomark _)) (pss_one ps_never) pss_nil)
    (pss_one (ps_ret (e_make0 k_Share (hr.mono (by decide)) (by rfl) T.n_Share (pa_cons (pe_op op_sub (pe_op op_mulW (e_fld K (pv 0) rfl) (e_fld K (pv 2) rfl)) (pe_op op_mulW (e_fld K (pv 2) rfl) (e_fld K (pv 0) rfl))) (pa_cons (pe_op op_mulW (e_fld K (pv 0) rfl) (e_fld K (pv 2) rfl)) pa_nil))))))), ?_⟩
    walk_at "rd"
    refine .inl ⟨q, dx2, fs2, rfl, i2, ?_⟩
    walk_at "rd"
    refine ⟨rfl, ?_⟩
    walk_at "rd"
    refine r_if1 (fun c => by cases c) (fun _ => ?_)
    walk_at "rd"
    refine r_make ?_
    walk_at "rd"
    refine ⟨_, _, _, _, _, rfl, i1, T.cs, T.sT, f1, ?_⟩
    walk_at "rd"
    refine ⟨_, _, _, _, _, rfl, i2, T.cs, T.sB, f4, ?_⟩
    walk_at "rd"
    refine Wk.r_I (mul7 ax1 (by rw [Int.natAbs_natCast]; exact ay2)) ?_
    walk_at "rd"
    refine ⟨_, _, _, _, _, rfl, i2, T.cs, T.sT, f3, ?_⟩
    walk_at "rd"
    refine ⟨_, _, _, _, _, rfl, i1, T.cs, T.sB, f2, ?_⟩
    walk_at "rd"
    refine Wk.r_I (mul7 ax2 (by rw [Int.natAbs_natCast]; exact ay1)) ?_
    walk_at "rd"
    refine ⟨_, _, _, _, _, rfl, i1, T.cs, T.sB, f2, ?_⟩
    walk_at "rd"
    refine ⟨_, _, _, _, _, rfl, i2, T.cs, T.sB, f4, ?_⟩
    walk_at "rd"
    refine Wk.r_I (mul7 (by rw [Int.natAbs_natCast]; exact ay1) (by rw [Int.natAbs_natCast]; exact ay2)) ?_
    walk_at "rd"
    intro r dx np nd ne
    have sN := (same_new (o := HO.own r) nd).trans (same_new (o := HO.ins S dx []) (show upd H dx (.own r) r = none by rw [upd_ne ne.symm]; exact np))
    refine ⟨r, dx, x1 * y2 - x2 * y1, y1 * y2, by rw [Int.natCast_mul]; rfl, upd_same, Nat.mul_pos yp1 yp2, bot_lt ay1 ay2, fun H2 xx o2 => ⟨rfl, kk _ r (fun b o e => xx b o (ne_of_none e np) (sN b o e)) np (o2.as (Nat.mul_pos yp1 yp2) (Nat.mul_pos z1 z2) ?_)⟩⟩
    subst eb1 eb2 et1 et2
    simp only [Int.natCast_mul]
    grind
def spRsub (S : Addr) : Sp := fun vs H Q _ => ∃ (p : Addr) (i t : Int) (b : Nat), vs = [.ref p, .int i] ∧ ShL S H p t b ∧ 0 < b ∧ t.natAbs < 2 ^ 700 ∧ b < 2 ^ 700 ∧ i.natAbs < 2 ^ 700 ∧ ∀ H' r, Same H H' → H r = none → ShL S H' r (i * b - t) b → Q (.ref r) H'
theorem ok_rsub {S f : Addr} {fd : FuncData} (T : TxO K mg S) (k__as_share : Keep P w K mg base 4 "_as_share" ["value"] (spAsSh S)) (k_Share___sub__ : KeepM P w K mg base 5 S "__sub__" ["self", "other"] (spSub S)) (F : Fun K "__rsub__" "Share.__rsub__" s_Share___rsub__ f fd) : FnOk P w K mg base CX0 6 f fd ["self", "other"] (spRsub S) := by
  refine F.okG sc_Share___rsub__ (fun vs H Q E h => ?_) (fun cdv A outer s H vs Q E hr h => ?_)
  · obtain ⟨_, _, _, _, rfl, _⟩ := h
    rfl
  · obtain ⟨p, i, t, b, rfl, h1, z1, s1, s3, s5, kk⟩ := h
    refine ⟨_, (pss_cons (ps_set (i := 2) sc_Share___rsub__.nd rfl (by first | exact Or.inl rfl | exact Or.inr rfl) (pe_k k__as_share (hr.mono (by decide)) (by rfl) (pa_cons (pv 1) pa_nil)))
    (pss_cons (ps_if (pt_cmpR op_isN (pv 2) pe_non (nomark _)) (pss_one ps_never) pss_nil)
    (pss_one (ps_ret (pe_op (c_subO k_Share___sub__ T.sf (hr.mono (by decide))) (pv 2) (pv 0)))))), ?_⟩
    walk_at "rd"
    refine .inr ⟨i, rfl, fun H1 r s1' nr sh => ?_⟩
    obtain ⟨dx, fs, hi, hh⟩ := id sh
    obtain ⟨dx2, fs2, hi2, hh2⟩ := id h1
    walk_at "rd"
    refine ⟨rfl, ?_⟩
    walk_at "rd"
    refine r_if1 (fun c => by cases c) (fun _ => ?_)
    walk_at "rd"
    refine ⟨r, p, _, _, _, _, rfl, rfl, hi, s1' _ _ hi2, ⟨r, p, i, t, 1, b, rfl, sh, h1.mono s1', by decide, z1, s5, s1, Nat.one_lt_two_pow (by decide), s3, fun H2 r2 s2 nr2 sh2 => ?_⟩⟩
    refine kk _ r2 (s1'.trans s2) (s1'.free nr2) (sh2.as (by rw [Nat.one_mul]; exact z1) z1 ?_)
    rw [Nat.one_mul]
    simp
end
end Wk
end
section
set_option Elab.async false
set_option linter.all false
set_option maxRecDepth 100000
set_option exponentiation.threshold 5000
namespace Wk
open PySem PySem.Spec PyProof.Rows L2
local macro_rules | `(tactic| walk_at "hp") => `(tactic| first | assumption | exact upd_same | exact (upd_ne (ne_of_none (by assumption) (by assumption))).trans (by assumption) | (rw [upd_ne (by first | assumption | exact Ne.symm (by assumption))]; walk_at "hp"))
local macro_rules | `(tactic| walk_at "sq") => `(tactic| first | assumption | exact SqL.of (by assumption) | exact SqT.of (by assumption) | exact SqL.of (by walk_at "hp") | exact SqT.of (by walk_at "hp") | (refine Same.seq ?_ ?_ <;> assumption))
local macro_rules | `(tactic| walk_at "cmul") => `(tactic| first | exact .inr ⟨by decide, by decide⟩ | exact .inl ⟨by decide, by decide⟩ | exact .inr ⟨by omega, by omega⟩ | exact .inl ⟨by omega, by omega⟩)
local macro_rules | `(tactic| walk_at "cdiv") => `(tactic| first | exact ⟨by decide, by decide⟩ | exact wide_div (b := 64) (by omega) (by omega) (by decide) (by decide) | exact wide_div (b := 128) (by omega) (by omega) (by decide) (by decide))
local macro_rules | `(tactic| walk_at "rd1") => `(tactic| first
  | ((with_reducible show tVar _ _ _ _); refine Wk.r_var rfl ?_)
  | (with_reducible first
    | refine Wk.r_c ?_ | refine Wk.r_op ?_ | refine Wk.r_cons ?_ | refine Wk.r_nil ?_
    | refine Wk.r_seq ?_ | refine Wk.r_next ?_ | refine Wk.r_set ?_ | refine Wk.r_asgS ?_ | refine Wk.r_ret ?_ | refine Wk.r_drop ?_ | refine Wk.r_if ?_
    | refine Wk.r_asgG ?_ | refine Wk.r_gName ?_ | refine Wk.r_gCons ?_ | refine Wk.r_gNil ?_ | refine Wk.r_par ?_ | refine Wk.r_par3 ?_ | refine Wk.r_lstRg1 ?_ | refine Wk.r_tupRg1 ?_ | refine ⟨_, _, _, rfl, ?_⟩ | refine Wk.r_un ?_ | refine Wk.r_I0 ?_ | refine Wk.r_U ?_
    | refine Wk.r_test ?_ | refine Wk.r_B ?_ | refine Wk.r_k ?_ | refine Wk.r_not ?_ | refine Wk.r_and ?_ | refine Wk.r_or ?_ | refine Wk.r_andV ?_ | refine Wk.r_orV ?_ | refine Wk.r_notV ?_
    | refine Wk.r_CB ?_ | refine Wk.r_chain ?_ | refine Wk.r_fld ?_ | refine Wk.r_sfld ?_ | refine Wk.r_lst ?_ | refine Wk.r_tup ?_ | refine Wk.r_call ?_ | refine Wk.r_BM ?_ | refine Wk.r_BM0 ?_ | refine Wk.r_T ?_ | refine Wk.r_nT ?_ | refine Wk.r_nF ?_ | refine Wk.r_F ?_
    | refine Or.inl ⟨_, rfl, ?_⟩ | refine Or.inr ⟨_, rfl, ?_⟩ | refine ⟨_, rfl, ?_⟩ | refine ⟨_, _, rfl, ?_⟩)
  | ((with_reducible refine Wk.r_eq ?c0 ?_); (case c0 => rfl)) | ((with_reducible refine Wk.r_ne ?c0 ?_); (case c0 => rfl))
  | ((with_reducible refine Wk.r_pow ?c0 ?_); (case c0 => exact ⟨by decide, by decide, by decide⟩))
  | ((with_reducible refine Wk.r_mul ?c0 ?_); (case c0 => walk_at "cmul")) | ((with_reducible refine Wk.r_mod ?c0 ?_); (case c0 => first | decide | omega)) | ((with_reducible refine Wk.r_div ?c0 ?_); (case c0 => walk_at "cdiv"))
  | ((with_reducible refine Wk.r_new ?c0 ?_); (case c0 => (simp only [List.length_cons, List.length_nil]; omega)))
  | ((with_reducible show gTup _ _ _ _ _ _ _); refine Wk.r_gTup (by walk_at "sq") (by rfl) ?_)
  | (refine Wk.r_tyL (by walk_at "hp") ?_)
  | ((with_reducible show rSetL _ _ _ _ _); refine Wk.r_setL (by walk_at "hp") (by rfl) ?_)
  | ((with_reducible show rIxL _ _ _ _ _); refine Wk.r_ixL (by walk_at "sq") (by rfl) ?_) | ((with_reducible show rIxT _ _ _ _ _); refine Wk.r_ixT (by walk_at "sq") (by rfl) ?_)
  | ((with_reducible show rLenOf _ _ _ _); first | refine Wk.n_lenL (by walk_at "sq") ?_ | refine Wk.n_lenT (by walk_at "sq") ?_)
  | ((with_reducible show rListOf _ _ _ _); first | refine Wk.n_listL (by walk_at "sq") ?_ | refine Wk.n_listT (by walk_at "sq") ?_)
  | ((with_reducible show rTupZ _ _ _ _); first | refine Wk.z_tupL (by walk_at "sq") ?_ | refine Wk.z_tupT (by walk_at "sq") ?_)
  | ((with_reducible show rTupOf _ _ _ _); first | refine Wk.n_tupL (by walk_at "sq") ?_ | refine Wk.n_tupT (by walk_at "sq") ?_))
local macro_rules | `(tactic| walk_at "rd") => `(tactic| repeat (walk_at "rd1"))
local macro_rules | `(tactic| walk_at "rd1") => `(tactic| (with_reducible first | refine Wk.r_dget ?_ | refine Wk.r_din ?_ | refine Wk.r_dnotin ?_ | refine Wk.r_dput ?_ | refine Wk.r_pairs ?_ | refine Wk.r_pairs0 ?_ | refine Wk.r_sl ?_ | refine Wk.r_part ?_ | refine Wk.r_nopart ?_ | refine Wk.r_augS ?_ | refine Wk.r_ipI ?_ | refine Wk.r_aug rfl ?_ | refine Wk.r_revT ?_))

theorem vts_part {n k : Nat} {m1 m2 : Nat → Nat → Nat} {inv f : Nat → Nat} {x : Nat} (m : Nat) : G.sm m (G.vts m1 m2 inv f x n) ≤ n := by
  rw [G.sm_congr (h := fun h => G.sm n fun y => G.ind (G.vote m1 m2 inv f x y = h)) fun h _ => G.vts_sm h, G.sm_comm]
  have := G.sm_le (n := n) (g := fun y => G.sm m fun h => G.ind (G.vote m1 m2 inv f x y = h)) (h := fun _ => 1) fun y _ => by
    by_cases c : G.vote m1 m2 inv f x y < m
    · rw [← G.sm_one (n := m) (a := G.vote m1 m2 inv f x y) 1 c]
      refine G.sm_le fun h _ => ?_
      unfold G.ind
      by_cases e : G.vote m1 m2 inv f x y = h
      · rw [if_pos e, if_pos e.symm]; exact Nat.le_refl _
      · rw [if_neg e]; exact Nat.zero_le _
    · rw [G.sm_congr (h := fun _ => 0) fun h hh => by unfold G.ind; rw [if_neg (by omega)]]
      rw [G.sm_zero]
      exact Nat.zero_le _
  rw [G.sm_const, Nat.mul_one] at this
  exact this
/-- all shares together are no more than all -/
theorem mh_all {n s : Nat} {m1 m2 : Nat → Nat → Nat} {inv f : Nat → Nat} {x : Nat} (m : Nat) : G.sm m (fun h => G.mh (G.vts m1 m2 inv f x n h) (n - G.vts m1 m2 inv f x n h) s) ≤ n ^ s := by
  have v := vts_part (n := n) (k := 0) (m1 := m1) (m2 := m2) (inv := inv) (f := f) (x := x) m
  have a := G.mh_sum (n := n) (k := s) (G.vts m1 m2 inv f x n) m v
  have b := G.mh_le (a := G.sm m (G.vts m1 m2 inv f x n)) (b := n - G.sm m (G.vts m1 m2 inv f x n)) (k := s)
  rw [show G.sm m (G.vts m1 m2 inv f x n) + (n - G.sm m (G.vts m1 m2 inv f x n)) = n by omega] at b
  exact Nat.le_trans a b
theorem sm_pick {m h : Nat} (g : Nat → Nat) (hh : h < m) : g h ≤ G.sm m g := by
  have := G.sm_le (n := m) (g := fun i => if i = h then g h else 0) (h := g) fun i _ => by
    by_cases c : i = h
    · rw [if_pos c, c]; exact Nat.le_refl _
    · rw [if_neg c]; exact Nat.zero_le _
  rw [G.sm_one (g h) hh] at this
  exact this
section
variable {P : Program} {w : World} {K : PySem.W.Frag} {mg : Str → Option Value} {base : Heap}
def spTot (S : Addr) : Sp := fun vs H Q _ => ∃ (l : Addr) (L : List V) (k : Nat) (c : Nat → Nat) (N : Nat), vs = [.ref l] ∧ H l = some (.lst L) ∧ L.length = k ∧ k ≤ 48 ∧ (∀ j v, L[j]? = some v → ∃ p, v = .ref p ∧ ShL S H p ((c j : Nat) : Int) N) ∧ 0 < N ∧ N < 2 ^ 601 ∧ (∀ m, G.sm m c ≤ N) ∧ ∀ H' r, Same H H' → H r = none → ShL S H' r ((G.sm k c : Nat) : Int) N → Q (.ref r) H'
theorem n7 {N : Nat} (h : N < 2 ^ 601) : N < 2 ^ 700 := Nat.lt_trans h (Nat.pow_lt_pow_right (by decide) (by decide))
set_option maxHeartbeats 4000000 in
theorem k__total {S : Addr} (T : TxO K mg S) (SqK : True) (k_Share : KeepC0 P w K mg base 2 S ["self", "top", "bottom"] (spShI S)) (k_Share___add__ : KeepM P w K mg base 5 S "__add__" ["self", "other"] (spAdd S)) (a : At K mg "_total" s__total ["shares"]) : Keep P w K mg base 6 "_total" ["shares"] (spTot S) := by
  refine Keep.of a sc__total (fun vs H Q E h => ?_) (fun fa cdv A outer s H vs Q E hr h => ?_)
  · obtain ⟨_, _, _, _, _, rfl, _⟩ := h
    rfl
  · obtain ⟨l, L, k, c, N, rfl, hl, len, hk, rL, n0, nb, hs, kk⟩ := h
    refine ⟨_, (pss_cons (ps_set (i := 1) sc__total.nd rfl (by first | exact Or.inl rfl | exact Or.inr rfl) (e_make0 k_Share (hr.mono (by decide)) (by rfl) T.n_Share (pa_cons pe_int (pa_cons pe_int pa_nil))))
    (pss_cons (ps_for PassesOwn.never rfl (i_list K (pv 0)) (pg_name (i := 2) sc__total.nd rfl (by first | exact Or.inl rfl | exact Or.inr rfl)) (pss_one (ps_set (i := 1) sc__total.nd rfl (by first | exact Or.inl rfl | exact Or.inr rfl) (pe_op (c_addO k_Share___add__ T.sf (hr.mono (by decide))) (pv 1) (pv 2)))))
    (pss_one (ps_ret (pv 1))))), ?_⟩
    walk_at "rd"
    refine r_make ?_
    walk_at "rd"
    intro r0 dx np nd ne
    have sN := (same_new (o := HO.own r0) nd).trans (same_new (o := HO.ins S dx []) (show upd H dx (.own r0) r0 = none by rw [upd_ne ne.symm]; exact np))
    refine ⟨r0, dx, 0, 1, rfl, upd_same, by decide, Nat.one_lt_two_pow (by decide), fun H2 x2 o2 => ⟨rfl, ?_⟩⟩
    have s2 : Same H H2 := fun b o e => x2 b o (ne_of_none e np) (sN b o e)
    have o3 : ShL S H2 r0 ((G.sm 0 c : Nat) : Int) N := o2.as (by decide) n0 (by show (0 : Int) * _ = 0 * _; simp)
    clear sN x2 o2 nd ne
    walk_at "rd"
    refine f_lst (K := K) (xs := L) (fun i σ' H' => ∃ (r : Addr) (v2 : Option V), σ' = [some (.ref l), some (.ref r), v2] ∧ Same H H' ∧ H r = none ∧ ShL S H' r ((G.sm i c : Nat) : Int) N) (SqL.of (s2 _ _ hl)) (fun R' h => ?_) ⟨r0, _, rfl, s2, np, o3⟩ (fun i σ' H' ⟨_, _, _, s, _⟩ => SqL.of (s _ _ hl)) ?_ ?_
    · walk_at "rd"
      exact h
    · rintro i v σ' H3 hv ⟨r, v2, rfl, s3, nr, sh⟩ N' B R hN hB hRt
      obtain ⟨p, rfl, sp⟩ := rL i v hv
      have sp3 := sp.mono s3
      obtain ⟨dx1, fs1, i1, _⟩ := id sh
      obtain ⟨dx2, fs2, i2, _⟩ := id sp3
      have c1 := hs i
      have c2 : c i ≤ N := Nat.le_trans (sm_pick (m := i + 1) c (by omega)) (hs (i + 1))
      walk_at "rd"
      refine ⟨r, p, _, _, _, _, rfl, rfl, i1, i2, ⟨r, p, _, _, N, N, rfl, sh, sp3, n0, n0, by rw [Int.natAbs_natCast]; exact Nat.lt_of_le_of_lt c1 (n7 nb), by rw [Int.natAbs_natCast]; exact Nat.lt_of_le_of_lt c2 (n7 nb), n7 nb, n7 nb, fun H4 r4 s4 nr4 sh4 => ?_⟩⟩
      refine hN _ _ ⟨r4, _, rfl, s3.trans s4, s3.free nr4, sh4.as (Nat.mul_pos n0 n0) n0 ?_⟩
      have e : G.sm (i + 1) c = G.sm i c + c i := rfl
      rw [e]
      simp only [Int.natCast_mul, Int.natCast_add]
      grind
    · rintro σ' H3 ⟨r, v2, rfl, s3, nr, sh⟩
      rw [len] at sh
      walk_at "rd"
      exact kk _ r s3 nr sh
/-- all shares, told by the votes -/
def spWs (K : PySem.W.Frag) (C S : Addr) : Sp := fun vs H Q _ => ∃ (g1 g2 t n k x s : Nat) (m1 m2 : Nat → Nat → Nat) (e2 : Nat) (inv f V : Nat → Nat), vs = [.ref g1, .ref g2, .ref t, .int (x : Int), .int (s : Int)] ∧ Mp K C H g1 g2 t n k m1 m2 e2 inv f ∧ Vtd n k m1 m2 inv f V ∧ 4 * G.sm n (G.dif f V) < n ∧ G.Hom n m1 m2 V ∧ x < n ∧ s % 2 = 1 ∧ s ≤ 15 ∧
  ∀ H' p, Same H H' → H p = none → ShL S H' p (((G.sm k fun h => G.mh (G.vts m1 m2 inv f x n h) (n - G.vts m1 m2 inv f x n h) s : Nat) : Int) - ((G.mh (G.vts m1 m2 inv f x n (V x)) (n - G.vts m1 m2 inv f x n (V x)) s : Nat) : Int)) (n ^ s) → Q (.ref p) H'
def spSs (K : PySem.W.Frag) (C S : Addr) : Sp := fun vs H Q _ => ∃ (g1 g2 t n k x s : Nat) (m1 m2 : Nat → Nat → Nat) (e2 : Nat) (inv f V : Nat → Nat), vs = [.ref g1, .ref g2, .ref t, .int (x : Int), .int (s : Int)] ∧ Mp K C H g1 g2 t n k m1 m2 e2 inv f ∧ Vtd n k m1 m2 inv f V ∧ 4 * G.sm n (G.dif f V) < n ∧ G.Hom n m1 m2 V ∧ x < n ∧ s % 2 = 1 ∧ s ≤ 15 ∧
  ∀ H' p, Same H H' → H p = none → ShL S H' p (((n ^ s : Nat) : Int) - ((G.sm k fun h => G.mh (G.vts m1 m2 inv f x n h) (n - G.vts m1 m2 inv f x n h) s : Nat) : Int)) (n ^ s) → Q (.ref p) H'
set_option maxHeartbeats 4000000 in
theorem k_wrong_share {C S : Addr} (T : TxO K mg S) (k__judged_shares : Keep P w K mg base 10 "_judged_shares" ["one", "other", "f", "x", "k"] (spJs K C S)) (k__total : Keep P w K mg base 6 "_total" ["shares"] (spTot S)) (k_Share___sub__ : KeepM P w K mg base 5 S "__sub__" ["self", "other"] (spSub S)) (a : At K mg "wrong_share" s_wrong_share ["one", "other", "f", "x", "k"]) : Keep P w K mg base 11 "wrong_share" ["one", "other", "f", "x", "k"] (spWs K C S) := by
  refine Keep.of a sc_wrong_share (fun vs H Q E h => ?_) (fun fa cdv A outer s_ H vs Q E hr h => ?_)
  · obtain ⟨_, _, _, _, _, _, _, _, _, _, _, _, _, rfl, _⟩ := h
    rfl
  · obtain ⟨g1, g2, t, n, k, x, s, m1, m2, e2, inv, f, V', rfl, mp, hV, hd, hom, hx, odd, le, kk⟩ := h
    obtain ⟨gr1, gr2, hn, hk⟩ := mp.gs
    have n0 : 0 < n ^ s := Nat.pow_pos (G.Grp.pos gr1)
    have nb : n ^ s < 2 ^ 601 := G.pow_bits hn (by omega)
    refine ⟨_, (pss_cons (ps_asg (pe_k k__judged_shares (hr.mono (by decide)) (by rfl) (pa_cons (pv 0) (pa_cons (pv 1) (pa_cons (pv 2) (pa_cons (pv 3) (pa_cons (pv 4) pa_nil)))))) (pg_tup rfl (pgs_cons (pg_name (i := 5) sc_wrong_share.nd rfl (by first | exact Or.inl rfl | exact Or.inr rfl)) (pgs_cons (pg_name (i := 6) sc_wrong_share.nd rfl (by first | exact Or.inl rfl | exact Or.inr rfl)) pgs_nil))))
    (pss_one (ps_ret (pe_op (c_subO k_Share___sub__ T.sf (hr.mono (by decide))) (pe_k k__total (hr.mono (by decide)) (by rfl) (pa_cons (pv 6) pa_nil)) (pe_ix (x_list K) (pv 6) (pv 5) (fun _ _ => rfl)))))), ?_⟩
    walk_at "rd"
    refine ⟨g1, g2, t, n, k, x, s, m1, m2, e2, inv, f, V', rfl, mp, hV, hd, hom, hx, odd, le, fun H1 tu l L s1 htu hl len r => ?_⟩
    have hj : V' x < L.length := by rw [len]; exact (hV x hx).lt
    obtain ⟨p, e1, sh⟩ := r _ _ (List.getElem?_eq_getElem hj)
    have e := List.getElem?_eq_getElem hj
    rw [e1] at e
    walk_at "rd"
    refine ⟨l, L, k, fun h => G.mh (G.vts m1 m2 inv f x n h) (n - G.vts m1 m2 inv f x n h) s, n ^ s, rfl, hl, len, hk, r, n0, nb, fun m => mh_all m, fun H2 q s2 nq sq => ?_⟩
    have sh2 := sh.mono s2
    obtain ⟨dx1, fs1, i1, _⟩ := id sq
    obtain ⟨dx2, fs2, i2, _⟩ := id sh2
    have c1 := mh_all (n := n) (s := s) (m1 := m1) (m2 := m2) (inv := inv) (f := f) (x := x) k
    have c2 := Nat.le_trans (sm_pick (m := k) (fun h => G.mh (G.vts m1 m2 inv f x n h) (n - G.vts m1 m2 inv f x n h) s) (hV x hx).lt) c1
    walk_at "rd"
    refine Wk.r_ixL (SqL.of (s2 _ _ hl)) (at_n e) ?_
    refine ⟨q, p, _, _, _, _, rfl, rfl, i1, i2, ⟨q, p, _, _, n ^ s, n ^ s, rfl, sq, sh2, n0, n0, by rw [Int.natAbs_natCast]; exact Nat.lt_of_le_of_lt c1 (n7 nb), by rw [Int.natAbs_natCast]; exact Nat.lt_of_le_of_lt c2 (n7 nb), n7 nb, n7 nb, fun H4 r4 s4 nr4 sh4 => ?_⟩⟩
    refine kk _ r4 ((s1.trans s2).trans s4) ((s1.trans s2).free nr4) (sh4.as (Nat.mul_pos n0 n0) n0 ?_)
    simp only [Int.natCast_mul]
    generalize ((n ^ s : Nat) : Int) = N
    grind
set_option maxHeartbeats 4000000 in
theorem k_silent_share {C S : Addr} (T : TxO K mg S) (k__judged_shares : Keep P w K mg base 10 "_judged_shares" ["one", "other", "f", "x", "k"] (spJs K C S)) (k__total : Keep P w K mg base 6 "_total" ["shares"] (spTot S)) (k_Share___rsub__ : KeepM P w K mg base 6 S "__rsub__" ["self", "other"] (spRsub S)) (a : At K mg "silent_share" s_silent_share ["one", "other", "f", "x", "k"]) : Keep P w K mg base 11 "silent_share" ["one", "other", "f", "x", "k"] (spSs K C S) := by
  refine Keep.of a sc_silent_share (fun vs H Q E h => ?_) (fun fa cdv A outer s_ H vs Q E hr h => ?_)
  · obtain ⟨_, _, _, _, _, _, _, _, _, _, _, _, _, rfl, _⟩ := h
    rfl
  · obtain ⟨g1, g2, t, n, k, x, s, m1, m2, e2, inv, f, V', rfl, mp, hV, hd, hom, hx, odd, le, kk⟩ := h
    obtain ⟨gr1, gr2, hn, hk⟩ := mp.gs
    have n0 : 0 < n ^ s := Nat.pow_pos (G.Grp.pos gr1)
    have nb : n ^ s < 2 ^ 601 := G.pow_bits hn (by omega)
    refine ⟨_, (pss_cons (ps_asg (pe_k k__judged_shares (hr.mono (by decide)) (by rfl) (pa_cons (pv 0) (pa_cons (pv 1) (pa_cons (pv 2) (pa_cons (pv 3) (pa_cons (pv 4) pa_nil)))))) (pg_tup rfl (pgs_cons (pg_name (i := 5) sc_silent_share.nd rfl (by first | exact Or.inl rfl | exact Or.inr rfl)) (pgs_cons (pg_name (i := 6) sc_silent_share.nd rfl (by first | exact Or.inl rfl | exact Or.inr rfl)) pgs_nil))))
    (pss_one (ps_ret (pe_op (c_rsubO k_Share___rsub__ T.sf T.ss T.si (hr.mono (by decide))) pe_int (pe_k k__total (hr.mono (by decide)) (by rfl) (pa_cons (pv 6) pa_nil)))))), ?_⟩
    walk_at "rd"
    refine ⟨g1, g2, t, n, k, x, s, m1, m2, e2, inv, f, V', rfl, mp, hV, hd, hom, hx, odd, le, fun H1 tu l L s1 htu hl len r => ?_⟩
    have c1 := mh_all (n := n) (s := s) (m1 := m1) (m2 := m2) (inv := inv) (f := f) (x := x) k
    walk_at "rd"
    refine ⟨l, L, k, fun h => G.mh (G.vts m1 m2 inv f x n h) (n - G.vts m1 m2 inv f x n h) s, n ^ s, rfl, hl, len, hk, r, n0, nb, fun m => mh_all m, fun H2 q s2 nq sq => ?_⟩
    obtain ⟨dx1, fs1, i1, _⟩ := id sq
    walk_at "rd"
    refine ⟨_, q, _, _, rfl, rfl, i1, ⟨q, _, _, n ^ s, rfl, sq, n0, by rw [Int.natAbs_natCast]; exact Nat.lt_of_le_of_lt c1 (n7 nb), n7 nb, by show 1 < _; exact Nat.one_lt_two_pow (by decide), fun H4 r4 s4 nr4 sh4 => ?_⟩⟩
    refine kk _ r4 ((s1.trans s2).trans s4) ((s1.trans s2).free nr4) (sh4.as n0 n0 ?_)
    rw [Int.one_mul]
def spLBr (K : PySem.W.Frag) : Sp := fun vs H Q _ => ∃ (a1 a2 t n k : Nat) (m1 m2 : Nat → Nat → Nat) (f : Nat → Nat), vs = [.ref a1, .ref a2, .ref t] ∧ GL H a1 n m1 ∧ GL H a2 k m2 ∧ n ≤ 48 ∧ (∀ x y, x < n → y < n → m1 x y < n) ∧ MapT K H t n k f ∧ ∀ H', Same H H' → Q (.int ((G.brk n m1 m2 f : Nat) : Int)) H'
set_option maxHeartbeats 4000000 in
theorem k__law_broken (T : Txt mg) (a : At K mg "_law_broken" s__law_broken ["one", "other", "f"]) : Keep P w K mg base 1 "_law_broken" ["one", "other", "f"] (spLBr K) := by
  refine Keep.of a sc__law_broken (fun vs H Q E h => ?_) (fun fa cdv A outer s_ H vs Q E hr h => ?_)
  · obtain ⟨_, _, _, _, _, _, _, _, rfl, _⟩ := h
    rfl
  · obtain ⟨a1, a2, t, n, k, m1, m2, f, rfl, gl1, gl2, hn, cl, mt, kk⟩ := h
    obtain ⟨L1, hL1, len1, r1⟩ := gl1.get
    obtain ⟨L2', hL2, len2, r2⟩ := gl2.get
    refine ⟨_, (pss_cons (ps_set (i := 3) sc__law_broken.nd rfl (by first | exact Or.inl rfl | exact Or.inr rfl) pe_int)
    (pss_cons (ps_for PassesOwn.never rfl (pi_range1 (by rfl) T.n_range (pa_cons (pe_callB (c_len K) (by rfl) T.n_len (by decide +kernel) (pa_cons (pv 0) pa_nil)) pa_nil)) (pg_name (i := 4) sc__law_broken.nd rfl (by first | exact Or.inl rfl | exact Or.inr rfl)) (pss_cons (ps_set (i := 5) sc__law_broken.nd rfl (by first | exact Or.inl rfl | exact Or.inr rfl) (pe_ix (x_list K) (pv 1) (pe_ix (x_tup K) (pv 2) (pv 4) (fun _ _ => rfl)) (fun _ _ => rfl)))
    (pss_one (ps_set (i := 3) sc__law_broken.nd rfl (by first | exact Or.inl rfl | exact Or.inr rfl) (pe_op op_add (pv 3) (pe_callB (c_sumL K rfl) (by rfl) T.n_sum (by decide +kernel) (pa_cons (pe_lc (own := [("y", 6), ("z", 7)]) rfl sc__law_broken.nd (i_enumL K (by rfl) T.n_enumerate (pa_cons (pe_ix (x_list K) (pv 0) (pv 4) (fun _ _ => rfl)) pa_nil)) (blkOk_by (N := ["one", "other", "f", "total", "x", "row", "y", "z"]) (sc := defScope s__law_broken) (by decide +kernel)) (fun _ _ _ _ _ => (g_tupK K 2 rfl (pgs_cons (pg_name (i := 6) sc__law_broken.nd rfl (by first | exact Or.inl rfl | exact Or.inr rfl)) (pgs_cons (pg_name (i := 7) sc__law_broken.nd rfl (by first | exact Or.inl rfl | exact Or.inr rfl)) pgs_nil)))) (fun _ _ _ _ _ => pts_nil) (fun _ _ _ _ _ => (pe_callTy call_int1 (by rfl) T.n_int (by decide +kernel) (pa_cons (pe_cmpR op_ne (pe_ix (x_list K) (pv 5) (pe_ix (x_tup K) (pv 2) (pv 6) (fun _ _ => rfl)) (fun _ _ => rfl)) (pe_ix (x_tup K) (pv 2) (pv 7) (fun _ _ => rfl)) (nomark _)) pa_nil)))) pa_nil)))))))
    (pss_one (ps_ret (pv 3))))), ?_⟩
    walk_at "rd"
    refine f_rng (n := n) (fun i σ' H' => ∃ (v4 v5 v6 v7 : Option V), σ' = [some (.ref a1), some (.ref a2), some (.ref t), some (.int ((G.sm i (fun x => G.sm n fun y => G.ind (m2 (f x) (f y) ≠ f (m1 x y))) : Nat) : Int)), v4, v5, v6, v7] ∧ Same H H') (by omega) (fun R' h => ?_) ⟨_, _, _, _, rfl, Same.refl _⟩ ?_ ?_
    · walk_at "rd"
      rw [len1]
      exact h
    · rintro x σ' H1 hx ⟨v4, v5, v6, v7, rfl, s1⟩ N B R hN hB hRt
      obtain ⟨b1, e1, h1⟩ := r1 x hx
      obtain ⟨b2, e2, h2⟩ := r2 _ (mt.lt x hx)
      have mt1 := mt.mono s1
      walk_at "rd"
      refine Wk.r_ixT mt1.tup (at_n (natsV_get hx)) ?_
      walk_at "rd"
      refine Wk.r_ixL (SqL.of (s1 _ _ hL2)) (at_n e2) ?_
      walk_at "rd"
      refine lc_enumL (fun y => .int ((G.ind (m2 (f x) (f y) ≠ f (m1 x y)) : Nat) : Int)) (SqL.of (s1 _ _ h1)) (by rw [rowV_len]; omega) (fun R' h => ?_) (fun y z H2 Q' hz s2 k2 => ?_) (fun D H2 hD s2 hL => ?_)
      · walk_at "rd"
        refine Wk.r_ixL (SqL.of (s1 _ _ hL1)) (at_n e1) ?_
        exact h
      · have hy : y < n := by have := (List.getElem?_eq_some_iff.mp hz).1; rw [rowV_len] at this; exact this
        rw [rowV_get hy] at hz
        cases hz
        have s12 := s1.trans s2
        have mt2 := mt.mono s12
        walk_at "rd"
        refine Wk.r_ixT mt2.tup (at_n (natsV_get hy)) ?_
        walk_at "rd"
        refine Wk.r_ixL (SqL.of (s12 _ _ h2)) (at_n (rowV_get (mt.lt y hy))) ?_
        walk_at "rd"
        refine Wk.r_ixT mt2.tup (at_n (natsV_get (cl _ _ hx hy))) ?_
        walk_at "rd"
        have e : (V.int (if (!decide (V.int ((m2 (f x) (f y) : Nat) : Int) = V.int ((f (m1 x y) : Nat) : Int))) = true then 1 else 0)) = V.int ((G.ind (m2 (f x) (f y) ≠ f (m1 x y)) : Nat) : Int) := by
          rw [int_dec]
          unfold G.ind
          by_cases c : m2 (f x) (f y) = f (m1 x y)
          · rw [decide_eq_true c, if_neg (show ¬ (m2 (f x) (f y) ≠ f (m1 x y)) from fun q => q c)]; rfl
          · rw [decide_eq_false c, if_pos c]; rfl
        rw [e]
        exact k2 _ (Same.refl _)
      · rw [rowV_len] at hL
        have e : ((List.range n).map fun y => V.int ((G.ind (m2 (f x) (f y) ≠ f (m1 x y)) : Nat) : Int)) = ((List.range n).map fun y => ((G.ind (m2 (f x) (f y) ≠ f (m1 x y)) : Nat) : Int)).map V.int := by
          rw [List.map_map]
          rfl
        rw [e] at hL
        walk_at "rd"
        refine ⟨D, _, rfl, SqL.of hL, ?_⟩
        rw [G.sm_list]
        walk_at "rd"
        exact hN _ _ ⟨_, _, _, _, rfl, s1.trans s2⟩
    · rintro σ' H1 ⟨v4, v5, v6, v7, rfl, s1⟩
      walk_at "rd"
      exact kk _ s1
end
end Wk
end
section
set_option Elab.async false
set_option linter.all false
set_option maxRecDepth 100000
set_option exponentiation.threshold 5000
namespace Wk
open PySem PySem.Spec PyProof.Rows L2
local macro_rules | `(tactic| walk_at "hp") => `(tactic| first | assumption | exact upd_same | exact (upd_ne (ne_of_none (by assumption) (by assumption))).trans (by assumption) | (rw [upd_ne (by first | assumption | exact Ne.symm (by assumption))]; walk_at "hp"))
local macro_rules | `(tactic| walk_at "sq") => `(tactic| first | assumption | exact SqL.of (by assumption) | exact SqT.of (by assumption) | exact SqL.of (by walk_at "hp") | exact SqT.of (by walk_at "hp") | (refine Same.seq ?_ ?_ <;> assumption))
local macro_rules | `(tactic| walk_at "cmul") => `(tactic| first | exact .inr ⟨by decide, by decide⟩ | exact .inl ⟨by decide, by decide⟩ | exact .inr ⟨by omega, by omega⟩ | exact .inl ⟨by omega, by omega⟩)
local macro_rules | `(tactic| walk_at "cdiv") => `(tactic| first | exact ⟨by decide, by decide⟩ | exact wide_div (b := 64) (by omega) (by omega) (by decide) (by decide) | exact wide_div (b := 128) (by omega) (by omega) (by decide) (by decide))
local macro_rules | `(tactic| walk_at "rd1") => `(tactic| first
  | ((with_reducible show tVar _ _ _ _); refine Wk.r_var rfl ?_)
  | (with_reducible first
    | refine Wk.r_c ?_ | refine Wk.r_op ?_ | refine Wk.r_cons ?_ | refine Wk.r_nil ?_
    | refine Wk.r_seq ?_ | refine Wk.r_next ?_ | refine Wk.r_set ?_ | refine Wk.r_asgS ?_ | refine Wk.r_ret ?_ | refine Wk.r_drop ?_ | refine Wk.r_if ?_
    | refine Wk.r_asgG ?_ | refine Wk.r_gName ?_ | refine Wk.r_gCons ?_ | refine Wk.r_gNil ?_ | refine Wk.r_par ?_ | refine Wk.r_par3 ?_ | refine Wk.r_lstRg1 ?_ | refine Wk.r_tupRg1 ?_ | refine ⟨_, _, _, rfl, ?_⟩ | refine Wk.r_un ?_ | refine Wk.r_I0 ?_ | refine Wk.r_U ?_
    | refine Wk.r_test ?_ | refine Wk.r_B ?_ | refine Wk.r_k ?_ | refine Wk.r_not ?_ | refine Wk.r_and ?_ | refine Wk.r_or ?_ | refine Wk.r_andV ?_ | refine Wk.r_orV ?_ | refine Wk.r_notV ?_
    | refine Wk.r_CB ?_ | refine Wk.r_chain ?_ | refine Wk.r_fld ?_ | refine Wk.r_sfld ?_ | refine Wk.r_lst ?_ | refine Wk.r_tup ?_ | refine Wk.r_call ?_ | refine Wk.r_BM ?_ | refine Wk.r_BM0 ?_ | refine Wk.r_T ?_ | refine Wk.r_nT ?_ | refine Wk.r_nF ?_ | refine Wk.r_F ?_
    | refine Or.inl ⟨_, rfl, ?_⟩ | refine Or.inr ⟨_, rfl, ?_⟩ | refine ⟨_, rfl, ?_⟩ | refine ⟨_, _, rfl, ?_⟩)
  | ((with_reducible refine Wk.r_eq ?c0 ?_); (case c0 => rfl)) | ((with_reducible refine Wk.r_ne ?c0 ?_); (case c0 => rfl))
  | ((with_reducible refine Wk.r_pow ?c0 ?_); (case c0 => exact ⟨by decide, by decide, by decide⟩))
  | ((with_reducible refine Wk.r_mul ?c0 ?_); (case c0 => walk_at "cmul")) | ((with_reducible refine Wk.r_mod ?c0 ?_); (case c0 => first | decide | omega)) | ((with_reducible refine Wk.r_div ?c0 ?_); (case c0 => walk_at "cdiv"))
  | ((with_reducible refine Wk.r_new ?c0 ?_); (case c0 => (simp only [List.length_cons, List.length_nil]; omega)))
  | ((with_reducible show gTup _ _ _ _ _ _ _); refine Wk.r_gTup (by walk_at "sq") (by rfl) ?_)
  | (refine Wk.r_tyL (by walk_at "hp") ?_)
  | ((with_reducible show rSetL _ _ _ _ _); refine Wk.r_setL (by walk_at "hp") (by rfl) ?_)
  | ((with_reducible show rIxL _ _ _ _ _); refine Wk.r_ixL (by walk_at "sq") (by rfl) ?_) | ((with_reducible show rIxT _ _ _ _ _); refine Wk.r_ixT (by walk_at "sq") (by rfl) ?_)
  | ((with_reducible show rLenOf _ _ _ _); first | refine Wk.n_lenL (by walk_at "sq") ?_ | refine Wk.n_lenT (by walk_at "sq") ?_)
  | ((with_reducible show rListOf _ _ _ _); first | refine Wk.n_listL (by walk_at "sq") ?_ | refine Wk.n_listT (by walk_at "sq") ?_)
  | ((with_reducible show rTupZ _ _ _ _); first | refine Wk.z_tupL (by walk_at "sq") ?_ | refine Wk.z_tupT (by walk_at "sq") ?_)
  | ((with_reducible show rTupOf _ _ _ _); first | refine Wk.n_tupL (by walk_at "sq") ?_ | refine Wk.n_tupT (by walk_at "sq") ?_))
local macro_rules | `(tactic| walk_at "rd") => `(tactic| repeat (walk_at "rd1"))
local macro_rules | `(tactic| walk_at "rd1") => `(tactic| (with_reducible first | refine Wk.r_dget ?_ | refine Wk.r_din ?_ | refine Wk.r_dnotin ?_ | refine Wk.r_dput ?_ | refine Wk.r_pairs ?_ | refine Wk.r_pairs0 ?_ | refine Wk.r_sl ?_ | refine Wk.r_part ?_ | refine Wk.r_nopart ?_ | refine Wk.r_augS ?_ | refine Wk.r_ipI ?_ | refine Wk.r_aug rfl ?_ | refine Wk.r_revT ?_))

def spBody (K : PySem.W.Frag) : Sp := fun vs H Q _ => ∃ (a : Addr) (ns : List Int), vs = [.ref a] ∧ SqL K H a (ns.map V.int) ∧ ns.length ≤ 63 ∧ ∀ H', Q (.bl true) H'
def szs1 : List Nat := [5, 6, 8, 9, 10, 12, 12, 24]
def szs2 : List Nat := [1, 2, 3, 4, 6, 8]
theorem szs1_ok : ∀ x ∈ szs1, 5 ≤ x ∧ x ≤ 24 := by decide +kernel
theorem szs2_ok : ∀ x ∈ szs2, 1 ≤ x ∧ x ≤ 8 := by decide +kernel
theorem inv_ex {k : Nat} {m : Nat → Nat → Nat} {e : Nat} (g : G.Grp k m) (he : G.IsNe k m e) : ∃ inv, G.InvOf k m e inv := by
  obtain ⟨e', he', hi⟩ := g.ne
  have ee : e' = e := he'.uniq he
  subst ee
  exact ⟨fun x => if h : x < k then (hi x h).choose else 0, fun x hx => by simp only [dif_pos hx]; exact (hi x hx).choose_spec⟩
theorem dif_comm' {n : Nat} {f g : Nat → Nat} : G.sm n (G.dif f g) = G.sm n (G.dif g f) := G.sm_congr fun x _ => G.ind_iff ⟨Ne.symm, Ne.symm⟩
/-- a share as it stands: top x from 0 on, bottom y; a fraction of N -/
structure Pt (S : Addr) (H : Hp) (p : Addr) (t N : Nat) (x y : Int) : Prop where
  at_ : ∃ dx fs, H p = some (.ins S dx fs) ∧ fs.lookup ("top" : Str) = some (.int x) ∧ fs.lookup ("bottom" : Str) = some (.int y)
  x0 : 0 ≤ x
  y0 : 0 < y
  fr : x * (N : Int) = (t : Int) * y
  xs : x.natAbs < 2 ^ 700
  ys : y.natAbs < 2 ^ 700
theorem Pt.mono {S : Addr} {H H' : Hp} {p : Addr} {t N : Nat} {x y : Int} (s : Same H H') (h : Pt S H p t N x y) : Pt S H' p t N x y := { h with at_ := let ⟨dx, fs, e, r⟩ := h.at_; ⟨dx, fs, s _ _ e, r⟩ }
theorem pt_of {S : Addr} {H : Hp} {p : Addr} {t N : Nat} (h : ShL S H p (t : Int) N) (n0 : 0 < N) (ht : t ≤ N) (hN : N < 2 ^ 700) : ∃ x y, Pt S H p t N x y := by
  obtain ⟨dx, fs, x, y, g, e, f1, f2, g0, y0, et, eb⟩ := h.parts n0
  have ax := Nat.lt_of_le_of_lt (abs_le_of g0 et) (by rw [Int.natAbs_natCast]; exact Nat.lt_of_le_of_lt ht hN)
  have ay : y < 2 ^ 700 := Nat.lt_of_le_of_lt (by rw [eb]; exact Nat.le_mul_of_pos_left _ g0) hN
  refine ⟨x, y, ⟨dx, fs, e, f1, f2⟩, ?_, by omega, ?_, ax, by rw [Int.natAbs_natCast]; exact ay⟩
  · have : 0 ≤ (g : Int) * x := by omega
    exact Int.nonneg_of_mul_nonneg_right this (by omega)
  · rw [et, eb, Int.natCast_mul]
    grind
/-- the tops over one bottom -/
structure Tp (N j s : Nat) (ts : List Int) (B : Int) : Prop where
  len : ts.length = j
  fr : ts.sum * (N : Int) = (s : Int) * B
  tb : ∀ t ∈ ts, t.natAbs < 2 ^ (700 * (j + 1))
  bb : B.natAbs < 2 ^ (700 * (j + 1))
theorem sum_mul (ts : List Int) (y : Int) : (ts.map fun t => t * y).sum = ts.sum * y := by
  induction ts with
  | nil => simp
  | cons t ts ih => rw [List.map_cons, List.sum_cons, List.sum_cons, ih, Int.add_mul]
theorem Tp.step {S : Addr} {H : Hp} {p : Addr} {N j s t : Nat} {ts : List Int} {B x y : Int} (h : Tp N j s ts B) (q : Pt S H p t N x y) : Tp N (j + 1) (s + t) (ts.map (fun t => t * y) ++ [x * B]) (B * y) := by
  have e700 : 700 * (j + 1 + 1) = 700 * (j + 1) + 700 := by omega
  refine ⟨by rw [List.length_append, List.length_map, h.len]; rfl, ?_, fun z hz => ?_, ?_⟩
  · rw [List.sum_append, sum_mul, List.sum_cons, List.sum_nil, Int.add_zero]
    have a := h.fr
    have b := q.fr
    rw [Int.natCast_add]
    grind
  · rw [e700]
    rcases List.mem_append.mp hz with g | g
    · obtain ⟨u, hu, rfl⟩ := List.mem_map.mp g
      exact wide_lt (h.tb u hu) q.ys
    · rw [List.mem_singleton.mp g, Int.mul_comm]
      exact wide_lt h.bb q.xs
  · rw [e700]
    exact wide_lt h.bb q.ys
theorem Pt.above {S : Addr} {H : Hp} {p : Addr} {t N : Nat} {x y : Int} (h : Pt S H p t N x y) {u v : Nat} (c : u * N < v * t) : (u : Int) * y < (v : Int) * x := by
  have e := h.fr
  have y0 := h.y0
  have c' : (u : Int) * (N : Int) < (v : Int) * (t : Int) := by
    rw [← Int.natCast_mul, ← Int.natCast_mul]
    omega
  refine Classical.byContradiction fun q => ?_
  have q' : (v : Int) * x ≤ (u : Int) * y := by omega
  have a1 := Int.mul_le_mul_of_nonneg_right q' (show (0 : Int) ≤ (N : Int) by omega)
  have a2 := Int.mul_lt_mul_of_pos_right c' y0
  have e1 : (v : Int) * x * (N : Int) = (v : Int) * (t : Int) * y := by grind
  have e2 : (u : Int) * y * (N : Int) = (u : Int) * (N : Int) * y := by grind
  rw [e1, e2] at a1
  omega
theorem sm7 {z : Int} (h : z.natAbs ≤ 100000) : z.natAbs < 2 ^ 700 := Nat.lt_of_le_of_lt h (Nat.lt_of_lt_of_le (show 100000 < 2 ^ 20 by decide) (Nat.pow_le_pow_right (by decide) (by decide)))
theorem brk_le {n : Nat} {m1 m2 : Nat → Nat → Nat} {f : Nat → Nat} : G.brk n m1 m2 f ≤ n * n := by
  unfold G.brk
  refine Nat.le_trans (G.sm_le (h := fun _ => n) fun i _ => ?_) (Nat.le_of_eq (G.sm_const n n))
  refine Nat.le_trans (G.sm_le (h := fun _ => 1) fun j _ => G.ind_le _) ?_
  rw [G.sm_const, Nat.mul_one]
  exact Nat.le_refl _
/-- fewer than two ninths broken: more than two thirds of the votes -/
theorem two_thirds {n c B : Nat} (cn : c ≤ n) (h2 : n < 2 * c) (hc : c * (n - c) ≤ B) (hB : 9 * B < 2 * n * n) : 2 * n < 3 * c := by
  refine Classical.byContradiction fun q => ?_
  have a : 0 ≤ (2 * (n : Int) - 3 * (c : Int)) * (3 * (c : Int) - (n : Int)) := Int.mul_nonneg (by omega) (by omega)
  have e : (2 * (n : Int) - 3 * (c : Int)) * (3 * (c : Int) - (n : Int)) = 9 * ((c : Int) * ((n : Int) - (c : Int))) - 2 * ((n : Int) * (n : Int)) := by grind
  have hc' : (c : Int) * ((n : Int) - (c : Int)) ≤ (B : Int) := by
    rw [show (n : Int) - (c : Int) = ((n - c : Nat) : Int) by omega, ← Int.natCast_mul]
    omega
  have hB' : 9 * (B : Int) < 2 * ((n : Int) * (n : Int)) := by
    rw [← Int.natCast_mul]
    rw [Nat.mul_assoc] at hB
    omega
  omega
theorem ts_map {ts : List Int} {y : Int} {L : List V} (len : L.length = ts.length) (r : ∀ (i : Nat) v, L[i]? = some v → ∃ t, ts[i]? = some t ∧ v = V.int (t * y)) : L = (ts.map fun t => t * y).map V.int := by
  apply List.ext_getElem?
  intro i
  rw [List.getElem?_map, List.getElem?_map]
  cases e : L[i]? with
  | none =>
    have : ts[i]? = none := List.getElem?_eq_none (by have := List.getElem?_eq_none_iff.mp e; omega)
    rw [this]
    rfl
  | some v =>
    obtain ⟨t, e1, rfl⟩ := r i v e
    rw [e1]
    rfl
theorem if_imp {c : Bool} {A B : Prop} (h1 : c = true → B → A) (h2 : B) : if c = true then A else B := by
  by_cases q : c = true
  · rw [if_pos q]; exact h1 q h2
  · rw [if_neg q]; exact h2
structure TxL (K : PySem.W.Frag) (mg : Str → Option Value) (C S : Addr) : Prop extends TxO K mg S where
  n_Group : mg "Group" = some (.ref C)
/-- what was told before is no more than what comes -/
structure Bf (c n j : Nat) (x y : Int) : Prop where
  y0 : 0 < y
  xs : x.natAbs < 2 ^ 700
  ys : y.natAbs < 2 ^ 700
  le : ∃ t N : Nat, 0 < N ∧ x * (N : Int) = (t : Int) * y ∧ t * n ^ (2 * j + 1) ≤ G.mh c (n - c) (2 * j + 1) * N
theorem Bf.not_lt {S : Addr} {H : Hp} {p : Addr} {c n j : Nat} {x y x' y' : Int} (n0 : 0 < n) (b : Bf c n j x y) (q : Pt S H p (G.mh c (n - c) (2 * j + 1)) (n ^ (2 * j + 1)) x' y') : ¬ x' * y < x * y' := by
  obtain ⟨t, N, hN, e, le⟩ := b.le
  have e' := q.fr
  have y0 := b.y0
  have y0' := q.y0
  have m0 : 0 < n ^ (2 * j + 1) := Nat.pow_pos n0
  generalize n ^ (2 * j + 1) = M at *
  generalize G.mh c (n - c) (2 * j + 1) = T at *
  intro lt
  have h1 : (x' * y) * ((M : Int) * (N : Int)) < (x * y') * ((M : Int) * (N : Int)) := Int.mul_lt_mul_of_pos_right lt (Int.mul_pos (by omega) (by omega))
  have h2 : (x' * y) * ((M : Int) * (N : Int)) = ((T : Int) * (N : Int)) * (y * y') := by grind
  have h3 : (x * y') * ((M : Int) * (N : Int)) = ((t : Int) * (M : Int)) * (y * y') := by grind
  rw [h2, h3] at h1
  have h4 : (t : Int) * (M : Int) ≤ (T : Int) * (N : Int) := by
    rw [← Int.natCast_mul, ← Int.natCast_mul]
    omega
  have h5 := Int.mul_le_mul_of_nonneg_right h4 (Int.le_of_lt (Int.mul_pos y0 y0'))
  omega
theorem Bf.next {S : Addr} {H : Hp} {p : Addr} {c n j : Nat} {x' y' : Int} (cn : c ≤ n) (h : n - c ≤ c) (n0 : 0 < n) (q : Pt S H p (G.mh c (n - c) (2 * j + 1)) (n ^ (2 * j + 1)) x' y') : Bf c n (j + 1) x' y' := by
  refine ⟨q.y0, q.xs, q.ys, _, _, Nat.pow_pos n0, q.fr, ?_⟩
  have r := G.mh_rise (m := j) h
  rw [show c + (n - c) = n by omega] at r
  rw [show 2 * (j + 1) + 1 = 2 * j + 3 by omega]
  have e : n ^ (2 * j + 3) = n * n * n ^ (2 * j + 1) := by
    rw [show 2 * j + 3 = 2 * j + 1 + 1 + 1 by omega, Nat.pow_succ, Nat.pow_succ]
    grind
  rw [e]
  have := Nat.mul_le_mul_right (n ^ (2 * j + 1)) r
  have e2 : G.mh c (n - c) (2 * j + 1) * (n * n * n ^ (2 * j + 1)) = n * n * G.mh c (n - c) (2 * j + 1) * n ^ (2 * j + 1) := by grind
  rw [e2]
  exact this
section
variable {P : Program} {w : World} {K : PySem.W.Frag} {mg : Str → Option Value} {base : Heap}
structure Body42 (P : Program) (w : World) (K : PySem.W.Frag) (mg : Str → Option Value) (base : Heap) (C S : Addr) : Prop where
  dr : Keep P w K mg base 1 "_law_draws" ["script", "many"] (spDraws K)
  tk : Keep P w K mg base 1 "_law_take" ["hand", "many"] spTake
  gr : Keep P w K mg base 3 "_law_group" ["hand", "sizes"] spGGrp
  ho : Keep P w K mg base 4 "_law_hom" ["hand", "one", "other"] (spHomG K)
  sp : Keep P w K mg base 2 "_law_spoilt" ["hand", "f", "other", "second", "many"] (spSpl K)
  gp : KeepC0 P w K mg base 5 C ["self", "table"] (spInit K C)
  rs : Keep P w K mg base 11 "right_share" ["one", "other", "f", "x", "k"] (spRs K C S)
  ws : Keep P w K mg base 11 "wrong_share" ["one", "other", "f", "x", "k"] (spWs K C S)
  ss : Keep P w K mg base 11 "silent_share" ["one", "other", "f", "x", "k"] (spSs K C S)
  lv : Keep P w K mg base 3 "_law_votes" ["one", "other", "f", "x"] (spLVot K)
  lb : Keep P w K mg base 1 "_law_broken" ["one", "other", "f"] (spLBr K)
  is_ : Keep P w K mg base 2 "_law_is_share" ["share", "top", "bottom"] (spIsSh S)
set_option maxHeartbeats 8000000 in
theorem ok_law {C S : Addr} {f : Addr} {fd : FuncData} (T : TxL K mg C S) (TG : TxG K mg C) (Z : Body42 P w K mg base C S) (F : Fun K "law" "law" s_law f fd) : FnOk P w K mg base CX0 12 f fd ["script"] (spBody K) := by
  obtain ⟨k__law_draws, k__law_take, k__law_group, k__law_hom, k__law_spoilt, k_Group, k_right_share, k_wrong_share, k_silent_share, k__law_votes, k__law_broken, k__law_is_share⟩ := Z
  refine F.okG sc_law (fun vs H Q E h => ?_) (fun cdv A outer s H vs Q E hr h => ?_)
  · obtain ⟨_, _, rfl, _⟩ := h
    rfl
  · obtain ⟨a, ns_, rfl, hs, hlen, kk⟩ := h
    refine ⟨_, (pss_cons (ps_set (i := 1) sc_law.nd rfl (by first | exact Or.inl rfl | exact Or.inr rfl) (pe_lst (pa_cons (pe_k k__law_draws (hr.mono (by decide)) (by rfl) (pa_cons (pv 0) (pa_cons pe_int pa_nil))) (pa_cons pe_int pa_nil))))
    (pss_cons (ps_set (i := 2) sc_law.nd rfl (by first | exact Or.inl rfl | exact Or.inr rfl) (pe_k k__law_group (hr.mono (by decide)) (by rfl) (pa_cons (pv 1) (pa_cons (pe_lst (pa_cons pe_int (pa_cons pe_int (pa_cons pe_int (pa_cons pe_int (pa_cons pe_int (pa_cons pe_int (pa_cons pe_int (pa_cons pe_int pa_nil))))))))) pa_nil))))
    (pss_cons (ps_set (i := 3) sc_law.nd rfl (by first | exact Or.inl rfl | exact Or.inr rfl) (pe_k k__law_group (hr.mono (by decide)) (by rfl) (pa_cons (pv 1) (pa_cons (pe_lst (pa_cons pe_int (pa_cons pe_int (pa_cons pe_int (pa_cons pe_int (pa_cons pe_int (pa_cons pe_int pa_nil))))))) pa_nil))))
    (pss_cons (ps_set (i := 4) sc_law.nd rfl (by first | exact Or.inl rfl | exact Or.inr rfl) (pe_callB (c_len K) (by rfl) T.n_len (by decide +kernel) (pa_cons (pv 2) pa_nil)))
    (pss_cons (ps_set (i := 5) sc_law.nd rfl (by first | exact Or.inl rfl | exact Or.inr rfl) (pe_k k__law_hom (hr.mono (by decide)) (by rfl) (pa_cons (pv 1) (pa_cons (pv 2) (pa_cons (pv 3) pa_nil)))))
    (pss_cons (ps_set (i := 6) sc_law.nd rfl (by first | exact Or.inl rfl | exact Or.inr rfl) (pe_k k__law_spoilt (hr.mono (by decide)) (by rfl) (pa_cons (pv 1) (pa_cons (pv 5) (pa_cons (pv 3) (pa_cons (pe_k k__law_hom (hr.mono (by decide)) (by rfl) (pa_cons (pv 1) (pa_cons (pv 2) (pa_cons (pv 3) pa_nil)))) (pa_cons (pe_ix (x_list K) (pe_lst (pa_cons pe_int (pa_cons (pe_op op_fdivW (pe_op op_sub (pv 4) pe_int) pe_int) pa_nil))) (pe_k k__law_take (hr.mono (by decide)) (by rfl) (pa_cons (pv 1) (pa_cons pe_int pa_nil))) (fun _ _ => rfl)) pa_nil)))))))
    (pss_cons (ps_set (i := 7) sc_law.nd rfl (by first | exact Or.inl rfl | exact Or.inr rfl) (pe_lst (pa_cons (e_make0 k_Group (hr.mono (by decide)) (by rfl) T.n_Group (pa_cons (pv 2) pa_nil)) (pa_cons (e_make0 k_Group (hr.mono (by decide)) (by rfl) T.n_Group (pa_cons (pv 3) pa_nil)) pa_nil))))
    (pss_cons (ps_set (i := 8) sc_law.nd rfl (by first | exact Or.inl rfl | exact Or.inr rfl) (pe_k k__law_take (hr.mono (by decide)) (by rfl) (pa_cons (pv 1) (pa_cons (pv 4) pa_nil))))
    (pss_cons (ps_set (i := 9) sc_law.nd rfl (by first | exact Or.inl rfl | exact Or.inr rfl) (pe_cmpR op_lt (pe_op op_mulW pe_int (pe_k k__law_broken (hr.mono (by decide)) (by rfl) (pa_cons (pv 2) (pa_cons (pv 3) (pa_cons (pv 6) pa_nil))))) (pe_op op_mulW (pe_op op_mulW pe_int (pv 4)) (pv 4)) (nomark _)))
    (pss_cons (ps_set (i := 10) sc_law.nd rfl (by first | exact Or.inl rfl | exact Or.inr rfl) (pe_tup (pa_cons pe_int (pa_cons pe_int pa_nil))))
    (pss_cons (ps_for PassesOwn.never rfl (i_list K (pe_lst (pa_cons pe_int (pa_cons pe_int (pa_cons pe_int (pa_cons pe_int (pa_cons pe_int (pa_cons pe_int (pa_cons pe_int (pa_cons pe_int pa_nil)))))))))) (pg_name (i := 11) sc_law.nd rfl (by first | exact Or.inl rfl | exact Or.inr rfl)) (pss_cons (ps_set (i := 12) sc_law.nd rfl (by first | exact Or.inl rfl | exact Or.inr rfl) (pe_lst pa_nil))
    (pss_cons (ps_set (i := 13) sc_law.nd rfl (by first | exact Or.inl rfl | exact Or.inr rfl) pe_int)
    (pss_cons (ps_set (i := 14) sc_law.nd rfl (by first | exact Or.inl rfl | exact Or.inr rfl) (pe_lst (pa_cons (pe_k k_right_share (hr.mono (by decide)) (by rfl) (pa_cons (pe_ix (x_list K) (pv 7) pe_int (fun _ _ => rfl)) (pa_cons (pe_ix (x_list K) (pv 7) pe_int (fun _ _ => rfl)) (pa_cons (pv 6) (pa_cons (pv 8) (pa_cons (pv 11) pa_nil)))))) (pa_cons (pe_k k_wrong_share (hr.mono (by decide)) (by rfl) (pa_cons (pe_ix (x_list K) (pv 7) pe_int (fun _ _ => rfl)) (pa_cons (pe_ix (x_list K) (pv 7) pe_int (fun _ _ => rfl)) (pa_cons (pv 6) (pa_cons (pv 8) (pa_cons (pv 11) pa_nil)))))) pa_nil))))
    (pss_cons (ps_expr (e_bm K PySem.F.plainAttrs_list PySem.F.slot_list_append PySem.F.type_list_append mt_append (pv 14) (pa_cons (pe_k k_silent_share (hr.mono (by decide)) (by rfl) (pa_cons (pe_ix (x_list K) (pv 7) pe_int (fun _ _ => rfl)) (pa_cons (pe_ix (x_list K) (pv 7) pe_int (fun _ _ => rfl)) (pa_cons (pv 6) (pa_cons (pv 8) (pa_cons (pv 11) pa_nil)))))) pa_nil)))
    (pss_cons (ps_for PassesOwn.never rfl (i_list K (pv 14)) (pg_name (i := 15) sc_law.nd rfl (by first | exact Or.inl rfl | exact Or.inr rfl)) (pss_cons (ps_if (PW.pt (pw_or (pt_not (pt_val (pe_callB call_isi (by rfl) T.n_isinstance (by decide +kernel) (pa_cons (pv 15) (pa_cons (pe_glob (v := .ref _) rfl T.n_Share rfl) pa_nil))))) (pw_or1 (pt_cmpR op_lt (e_fld K (pv 15) rfl) pe_int (nomark _))))) (pss_one (ps_ret pe_bl)) pss_nil)
    (pss_cons (ps_set (i := 12) sc_law.nd rfl (by first | exact Or.inl rfl | exact Or.inr rfl) (pe_op op_cat (pe_lc (own := [("top", 16)]) rfl sc_law.nd (i_list K (pv 12)) (blkOk_by (N := ["script", "hand", "one", "other", "n", "h", "f", "two", "x", "sure", "before", "k", "tops", "bottom", "shares", "share", "top", "now"]) (sc := defScope s_law) (by decide +kernel)) (fun _ _ _ _ _ => (pg_name (i := 16) sc_law.nd rfl (by first | exact Or.inl rfl | exact Or.inr rfl))) (fun _ _ _ _ _ => pts_nil) (fun _ _ _ _ _ => (pe_op op_mulW (pv 16) (e_fld K (pv 15) rfl)))) (pe_lst (pa_cons (pe_op op_mulW (e_fld K (pv 15) rfl) (pv 13)) pa_nil))))
    (pss_one (ps_set (i := 13) sc_law.nd rfl (by first | exact Or.inl rfl | exact Or.inr rfl) (pe_op op_mulW (pv 13) (e_fld K (pv 15) rfl)))))))
    (pss_cons (ps_set (i := 17) sc_law.nd rfl (by first | exact Or.inl rfl | exact Or.inr rfl) (pe_tup (pa_cons (e_fld K (pe_ix (x_list K) (pv 14) pe_int (fun _ _ => rfl)) rfl) (pa_cons (e_fld K (pe_ix (x_list K) (pv 14) pe_int (fun _ _ => rfl)) rfl) pa_nil))))
    (pss_cons (ps_if (PW.pt (pw_or (pt_cmpR op_ne (pe_callB (c_sumL K rfl) (by rfl) T.n_sum (by decide +kernel) (pa_cons (pv 12) pa_nil)) (pv 13) (nomark _)) (pw_or (pt_cmpR op_le (pe_op op_mulW pe_int (pe_ix (x_tup K) (pv 17) pe_int (fun _ _ => rfl))) (pe_ix (x_tup K) (pv 17) pe_int (fun _ _ => rfl)) (nomark _)) (pw_or1 (PW.pt (pw_and (pt_val (pv 9)) (pw_and1 (pt_cmpR op_le (pe_op op_mulW pe_int (pe_ix (x_tup K) (pv 17) pe_int (fun _ _ => rfl))) (pe_op op_mulW pe_int (pe_ix (x_tup K) (pv 17) pe_int (fun _ _ => rfl))) (nomark _))))))))) (pss_one (ps_ret pe_bl)) pss_nil)
    (pss_cons (ps_if (pt_cmpR op_lt (pe_op op_mulW (pe_ix (x_tup K) (pv 17) pe_int (fun _ _ => rfl)) (pe_ix (x_tup K) (pv 10) pe_int (fun _ _ => rfl))) (pe_op op_mulW (pe_ix (x_tup K) (pv 10) pe_int (fun _ _ => rfl)) (pe_ix (x_tup K) (pv 17) pe_int (fun _ _ => rfl))) (nomark _)) (pss_one (ps_ret pe_bl)) pss_nil)
    (pss_cons (ps_if (PW.pt (pw_and (pt_cmpR op_eq (pv 11) pe_int (nomark _)) (pw_and1 (pt_not (pt_val (pe_k k__law_is_share (hr.mono (by decide)) (by rfl) (pa_cons (pe_ix (x_list K) (pv 14) pe_int (fun _ _ => rfl)) (pa_cons (pe_ix (x_list K) (pe_k k__law_votes (hr.mono (by decide)) (by rfl) (pa_cons (pv 2) (pa_cons (pv 3) (pa_cons (pv 6) (pa_cons (pv 8) pa_nil))))) (pe_ix (x_tup K) (pv 5) (pv 8) (fun _ _ => rfl)) (fun _ _ => rfl)) (pa_cons (pv 4) pa_nil))))))))) (pss_one (ps_ret pe_bl)) pss_nil)
    (pss_one (ps_set (i := 10) sc_law.nd rfl (by first | exact Or.inl rfl | exact Or.inr rfl) (pv 17)))))))))))))
    (pss_one (ps_ret pe_bl))))))))))))), ?_⟩
    walk_at "rd"
    refine ⟨a, ns_, 300, rfl, hs, hlen, by decide, fun H1 q ds hq s1 hq1 hl hn => ?_⟩
    walk_at "rd"
    intro h hh
    have nqh : q ≠ h := ne_of_none hq1 hh
    have d2 : HS (upd H1 h (.lst [.ref q, .int 0])) h q := ⟨0, ds, upd_same, by rw [upd_ne nqh]; exact hq1, hl, by decide, hn⟩
    generalize upd H1 h (.lst [.ref q, .int 0]) = H2 at d2 ⊢
    clear s1 hq1 hq hh hs
    walk_at "rd"
    intro sl nsl
    have d3 := d2.mono (same_new (o := .lst [V.int 5, V.int 6, V.int 8, V.int 9, V.int 10, V.int 12, V.int 12, V.int 24]) nsl)
    have hsl : (upd H2 sl (.lst [V.int 5, V.int 6, V.int 8, V.int 9, V.int 10, V.int 12, V.int 12, V.int 24])) sl = some (.lst (natL szs1)) := upd_same
    generalize upd H2 sl (.lst [V.int 5, V.int 6, V.int 8, V.int 9, V.int 10, V.int 12, V.int 12, V.int 24]) = H3 at d3 hsl ⊢
    clear d2 nsl
    walk_at "rd"
    refine ⟨h, q, sl, szs1, rfl, d3, hsl, by decide, by decide, fun x hx => ⟨by have := (szs1_ok x hx).1; omega, by have := (szs1_ok x hx).2; omega⟩, fun H4 one n m1 x4 d4 hmem gl1 r1 => ?_⟩
    have ⟨hn5, hn24⟩ := szs1_ok n hmem
    clear d3 hsl x4 hmem
    walk_at "rd"
    intro sl nsl
    have d5 := d4.mono (same_new (o := .lst [V.int 1, V.int 2, V.int 3, V.int 4, V.int 6, V.int 8]) nsl)
    have gl1 := gl1.mono (same_new (o := .lst [V.int 1, V.int 2, V.int 3, V.int 4, V.int 6, V.int 8]) nsl)
    have hsl : (upd H4 sl (.lst [V.int 1, V.int 2, V.int 3, V.int 4, V.int 6, V.int 8])) sl = some (.lst (natL szs2)) := upd_same
    generalize upd H4 sl (.lst [V.int 1, V.int 2, V.int 3, V.int 4, V.int 6, V.int 8]) = H5 at d5 hsl gl1 ⊢
    clear d4 nsl
    walk_at "rd"
    refine ⟨h, q, sl, szs2, rfl, d5, hsl, by decide, by decide, fun x hx => ⟨by have := (szs2_ok x hx).1; omega, by have := (szs2_ok x hx).2; omega⟩, fun H6 other k m2 x6 d6 hmem gl2 r2 => ?_⟩
    have ⟨hk1, hk8⟩ := szs2_ok k hmem
    have gl1 := gl1.exP d5 x6
    clear d5 hsl x6 hmem
    obtain ⟨L1, hL1, len1, _⟩ := id gl1
    obtain ⟨e1, he1, hinv1⟩ := r1.ne
    obtain ⟨e2, he2, hinv2⟩ := r2.ne
    walk_at "rd"
    rw [len1]
    clear hL1 len1
    walk_at "rd"
    refine ⟨h, q, one, other, n, k, e1, e2, m1, m2, rfl, d6, by omega, by omega, gl1, gl2, r1, r2, he1, he2, fun H7 t1 h1 x7 d7 mh1 hom1 => ?_⟩
    have gl1 := gl1.exP d6 x7
    have gl2 := gl2.exP d6 x7
    clear x7 d6
    walk_at "rd"
    refine ⟨h, q, one, other, n, k, e1, e2, m1, m2, rfl, d7, by omega, by omega, gl1, gl2, r1, r2, he1, he2, fun H10 t2 h2 x10 d10 mh2 hom2 => ?_⟩
    have gl1 := gl1.exP d7 x10
    have gl2 := gl2.exP d7 x10
    have mh1 := mh1.exP d7 x10
    clear x10 d7
    have em : ((n : Int) - 1) / 4 = (((n - 1) / 4 : Nat) : Int) := by omega
    walk_at "rd"
    rw [em]
    obtain ⟨mo, hmo⟩ : ∃ mo, mo = (n - 1) / 4 := ⟨_, rfl⟩
    rw [← hmo]
    walk_at "rd"
    intro l nl
    have sl := same_new (o := .lst [V.int 1, V.int (mo : Int)]) nl
    have nlh := (d10.ne nl).1
    have d10 := d10.mono sl
    have gl1 := gl1.mono sl
    have gl2 := gl2.mono sl
    have mh1 := mh1.mono sl
    have mh2 := mh2.mono sl
    walk_at "rd"
    refine ⟨h, q, 2, rfl, d10, by decide, fun H9 r x9 d9 r0 r1' => ?_⟩
    have hl := x9 _ _ nlh upd_same
    have gl1 := gl1.exP d10 x9
    have gl2 := gl2.exP d10 x9
    have mh1 := mh1.exP d10 x9
    have mh2 := mh2.exP d10 x9
    obtain ⟨wr, hwr, ez⟩ : ∃ wr : Nat, 4 * wr < n ∧ atI [V.int 1, V.int (mo : Int)] r = some (V.int (wr : Int)) := by
      rcases (show r = 0 ∨ r = 1 by omega) with rfl | rfl
      · exact ⟨1, by omega, rfl⟩
      · exact ⟨mo, by omega, rfl⟩
    refine Wk.r_ixL (SqL.of hl) ez ?_
    clear x9 d10 r0 r1' sl nl hl ez nlh
    walk_at "rd"
    refine ⟨h, q, t1, other, t2, n, k, wr, m2, h1, h2, rfl, d9, by omega, by omega, by omega, gl2, mh1, mh2, by omega, fun H11 ft f x11 d11 mt df => ?_⟩
    have gl1 := gl1.exP d9 x11
    have gl2 := gl2.exP d9 x11
    have mh1 := mh1.exP d9 x11
    clear x11 d9 mh2 hom2
    have hd4 : 4 * G.sm n (G.dif f h1) < n := by rw [dif_comm']; omega
    obtain ⟨inv1, iv1⟩ : ∃ inv1, G.InvOf n m1 e1 inv1 := inv_ex r1 he1
    obtain ⟨inv, iv⟩ : ∃ inv, G.InvOf k m2 e2 inv := inv_ex r2 he2
    have vts2 : ∀ x, x < n → n < 2 * G.vts m1 m2 inv f x n (h1 x) := fun x hx => by
      have := G.vts_ge r1 r2 he1 he2 iv1 iv mt.lt mh1.lt hom1 hx
      omega
    have hV : Vtd n k m1 m2 inv f h1 := fun x hx => G.am_of (mh1.lt x hx) (vts2 x hx)
    have d := d11
    clear d11 df hmo em hinv1 hinv2 hwr
    walk_at "rd"
    refine r_make ?_
    walk_at "rd"
    refine mkgrp gl1 (by omega) (by omega) r1 fun H9 p1 s9 o1 => ?_
    have d := d.mono s9
    have gl1 := gl1.mono s9
    have gl2 := gl2.mono s9
    have mt := mt.mono s9
    have mh1 := mh1.mono s9
    clear s9
    walk_at "rd"
    refine r_make ?_
    walk_at "rd"
    refine mkgrp gl2 (by omega) (by omega) r2 fun H10 p2 s10 o2 => ?_
    have d := d.mono s10
    have gl1 := gl1.mono s10
    have gl2 := gl2.mono s10
    have mt := mt.mono s10
    have mh1 := mh1.mono s10
    have o1 := o1.mono s10
    clear s10
    walk_at "rd"
    intro tw ntw
    have s11 := same_new (o := .lst [V.ref p1, V.ref p2]) ntw
    have ntwh := (d.ne ntw).1
    have d := d.mono s11
    have gl1 := gl1.mono s11
    have gl2 := gl2.mono s11
    have mt := mt.mono s11
    have mh1 := mh1.mono s11
    have o1 := o1.mono s11
    have o2 := o2.mono s11
    have htw : (upd H10 tw (.lst [V.ref p1, V.ref p2])) tw = some (.lst [V.ref p1, V.ref p2]) := upd_same
    generalize upd H10 tw (.lst [V.ref p1, V.ref p2]) = H11 at d gl1 gl2 mt mh1 o1 o2 htw ⊢
    clear s11 ntw
    walk_at "rd"
    refine ⟨h, q, n, rfl, d, by omega, fun Hb x xb db x0 x1 => ?_⟩
    obtain ⟨x, rfl⟩ := Int.eq_ofNat_of_zero_le x0
    have gl1 := gl1.exP d xb
    have gl2 := gl2.exP d xb
    have mt := mt.exP d xb
    have mh1 := mh1.exP d xb
    have o1 := o1.exP d xb
    have o2 := o2.exP d xb
    have htw := xb _ _ ntwh htw
    have xn : x < n := by omega
    clear xb db x0 x1 d ntwh
    walk_at "rd"
    refine ⟨one, other, ft, n, k, m1, m2, f, rfl, gl1, gl2, by omega, r1.cl, mt, fun Hc sc => ?_⟩
    have gl1 := gl1.mono sc
    have gl2 := gl2.mono sc
    have mt := mt.mono sc
    have mh1 := mh1.mono sc
    have o1 := o1.mono sc
    have o2 := o2.mono sc
    have htw := sc _ _ htw
    clear sc
    have nn : n * n ≤ 24 * 24 := Nat.mul_le_mul hn24 hn24
    have bl := brk_le (n := n) (m1 := m1) (m2 := m2) (f := f)
    have cn : G.vts m1 m2 inv f x n (h1 x) ≤ n := G.vts_le
    have c2 := vts2 x xn
    have cut := G.cut_le r1 r2 he1 he2 iv1 iv mt.lt xn (h1 x)
    walk_at "rd"
    refine Wk.r_I (mul7 (sm7 (by decide)) (sm7 (by rw [Int.natAbs_natCast]; omega))) ?_
    walk_at "rd"
    refine Wk.r_I (mul7 (sm7 (by decide)) (sm7 (by rw [Int.natAbs_natCast]; omega))) ?_
    walk_at "rd"
    refine Wk.r_I (mul7 (sm7 (by omega)) (sm7 (by rw [Int.natAbs_natCast]; omega))) ?_
    walk_at "rd"
    have hsure : decide (9 * ((G.brk n m1 m2 f : Nat) : Int) < 2 * (n : Int) * (n : Int)) = true → 2 * n < 3 * G.vts m1 m2 inv f x n (h1 x) := fun q => by
      have q := of_decide_eq_true q
      refine two_thirds cn c2 cut ?_
      rw [Int.mul_assoc, ← Int.natCast_mul] at q
      rw [Nat.mul_assoc]
      omega
    generalize decide (9 * ((G.brk n m1 m2 f : Nat) : Int) < 2 * (n : Int) * (n : Int)) = sb at hsure ⊢
    clear bl cut nn
    walk_at "rd"
    intro ub nub
    have su := same_new (o := .tup [V.int 0, V.int 1]) nub
    have hub : SqT K (upd Hc ub (.tup [V.int 0, V.int 1])) ub [V.int 0, V.int 1] := SqT.of upd_same
    have gl1 := gl1.mono su
    have gl2 := gl2.mono su
    have mt := mt.mono su
    have mh1 := mh1.mono su
    have o1 := o1.mono su
    have o2 := o2.mono su
    have htw := su _ _ htw
    generalize upd Hc ub (.tup [V.int 0, V.int 1]) = Hd at hub gl1 gl2 mt mh1 o1 o2 htw ⊢
    clear su nub
    walk_at "rd"
    refine r_forL ?_
    walk_at "rd"
    intro lk nlk
    have s1 := same_new (o := .lst [V.int 1, V.int 3, V.int 5, V.int 7, V.int 9, V.int 11, V.int 13, V.int 15]) nlk
    have hlk : (upd Hd lk (.lst [V.int 1, V.int 3, V.int 5, V.int 7, V.int 9, V.int 11, V.int 13, V.int 15])) lk = some (.lst [V.int 1, V.int 3, V.int 5, V.int 7, V.int 9, V.int 11, V.int 13, V.int 15]) := upd_same
    have gl1 := gl1.mono s1
    have gl2 := gl2.mono s1
    have mt := mt.mono s1
    have mh1 := mh1.mono s1
    have o1 := o1.mono s1
    have o2 := o2.mono s1
    have htw := s1 _ _ htw
    have hub := s1.sqT hub
    generalize upd Hd lk (.lst [V.int 1, V.int 3, V.int 5, V.int 7, V.int 9, V.int 11, V.int 13, V.int 15]) = H0 at hlk hub gl1 gl2 mt mh1 o1 o2 htw ⊢
    clear s1 nlk
    have n0 : 0 < n := by omega
    have hl := mh1.lt x xn
    obtain ⟨c, hcd⟩ : ∃ c, c = G.vts m1 m2 inv f x n (h1 x) := ⟨_, rfl⟩
    rw [← hcd] at cn c2 hsure
    refine forL_go (xs := [V.int 1, V.int 3, V.int 5, V.int 7, V.int 9, V.int 11, V.int 13, V.int 15]) (fun j σ' H' => ∃ (ub : Addr) (xb yb : Int) (v11 v12 v13 v14 v15 v16 v17 : Option V), σ' = [some (.ref a), some (.ref h), some (.ref one), some (.ref other), some (.int (n : Int)), some (.ref t1), some (.ref ft), some (.ref tw), some (.int (x : Int)), some (.bl sb), some (.ref ub), v11, v12, v13, v14, v15, v16, v17] ∧ Same H0 H' ∧ SqT K H' ub [.int xb, .int yb] ∧ Bf c n j xb yb) (SqL.of hlk) ⟨ub, 0, 1, _, _, _, _, _, _, _, rfl, Same.refl _, hub, ⟨by decide, sm7 (by decide), sm7 (by decide), 0, 1, by decide, rfl, by rw [Nat.zero_mul]; exact Nat.zero_le _⟩⟩ (fun j σ' H' ⟨_, _, _, _, _, _, _, _, _, _, _, s, _⟩ => SqL.of (s _ _ hlk)) ?_ ?_
    · clear hub
      rintro j z σ' He hz ⟨ub, xb, yb, v11, v12, v13, v14, v15, v16, v17, rfl, se, hub, bf⟩ N' B' R hN hB hRt
      have hj : j < 8 := (List.getElem?_eq_some_iff.mp hz).1
      have ez : z = .int ((2 * j + 1 : Nat) : Int) := by
        have : j = 0 ∨ j = 1 ∨ j = 2 ∨ j = 3 ∨ j = 4 ∨ j = 5 ∨ j = 6 ∨ j = 7 := by omega
        rcases this with rfl | rfl | rfl | rfl | rfl | rfl | rfl | rfl <;> exact (Option.some.inj hz).symm
      subst ez
      clear hz
      have n0s : 0 < n ^ (2 * j + 1) := Nat.pow_pos n0
      have nb : n ^ (2 * j + 1) < 2 ^ 601 := G.pow_bits (by omega) (by omega)
      walk_at "rd"
      intro tp ntp
      have stp := same_new (o := .lst []) ntp
      have htp : (upd He tp (.lst [])) tp = some (.lst []) := upd_same
      have se1 := se.trans stp
      have htw1 := se1 _ _ htw
      generalize upd He tp (.lst []) = Hf at stp htp se1 htw1 ⊢
      walk_at "rd"
      have mp : Mp K C H0 p1 p2 ft n k m1 m2 e2 inv f := ⟨o1, o2, mt, he2, iv⟩
      refine ⟨p1, p2, ft, n, k, x, 2 * j + 1, m1, m2, e2, inv, f, h1, rfl, mp.mono se1, hV, hd4, hom1, xn, by omega, by omega, fun Hg a0 sg sh0 => ?_⟩
      have htw2 := sg _ _ htw1
      walk_at "rd"
      refine ⟨p1, p2, ft, n, k, x, 2 * j + 1, m1, m2, e2, inv, f, h1, rfl, mp.mono (se1.trans sg), hV, hd4, hom1, xn, by omega, by omega, fun Hh a1 sh _ sh1 => ?_⟩
      walk_at "rd"
      intro sl nsl
      have ssl := same_new (o := .lst [V.ref a0, V.ref a1]) nsl
      have hsl : (upd Hh sl (.lst [V.ref a0, V.ref a1])) sl = some (.lst [V.ref a0, V.ref a1]) := upd_same
      have sh0 := (sh0.mono sh).mono ssl
      have sh1 := sh1.mono ssl
      have se2 := ((se1.trans sg).trans sh).trans ssl
      have sf2 := (sg.trans sh).trans ssl
      have htw3 := ssl _ _ (sh _ _ htw2)
      have nslf : Hf sl = none := (sg.trans sh).free nsl
      generalize upd Hh sl (.lst [V.ref a0, V.ref a1]) = Hi at hsl sh0 sh1 se2 sf2 htw3 ⊢
      walk_at "rd"
      refine ⟨p1, p2, ft, n, k, x, 2 * j + 1, m1, m2, e2, inv, f, h1, rfl, mp.mono se2, hV, hd4, hom1, xn, by omega, by omega, fun Hj a2 sj _ sh2 => ?_⟩
      have hsl := sj _ _ hsl
      walk_at "rd"
      refine Wk.r_append (xs := [V.ref a0, V.ref a1]) hsl (szlt (by show 2 < 100000; decide)) ?_
      have sf3 : Same Hf (upd Hj sl (.lst ([V.ref a0, V.ref a1] ++ [V.ref a2]))) := same_upd (sf2.trans sj) nslf
      have sh0 := (sh0.mono sj).mut hsl (ExP.upd (o := .lst ([V.ref a0, V.ref a1] ++ [V.ref a2])))
      have sh1 := (sh1.mono sj).mut hsl (ExP.upd (o := .lst ([V.ref a0, V.ref a1] ++ [V.ref a2])))
      have sh2 := sh2.mut hsl (ExP.upd (o := .lst ([V.ref a0, V.ref a1] ++ [V.ref a2])))
      have hsl : (upd Hj sl (.lst ([V.ref a0, V.ref a1] ++ [V.ref a2]))) sl = some (.lst [V.ref a0, V.ref a1, V.ref a2]) := upd_same
      generalize upd Hj sl (.lst ([V.ref a0, V.ref a1] ++ [V.ref a2])) = Hk at hsl sh0 sh1 sh2 sf3 ⊢
      have htp := sf3 _ _ htp
      have se3 := se1.trans sf3
      have hub := (stp.trans sf3).sqT hub
      clear se2 sf2 htw1 htw2 htw3 sg sh sj ssl nsl nslf sf3 stp ntp se1 se
      have cs := mh_all (n := n) (s := 2 * j + 1) (m1 := m1) (m2 := m2) (inv := inv) (f := f) (x := x) k
      have cp := sm_pick (m := k) (fun h => G.mh (G.vts m1 m2 inv f x n h) (n - G.vts m1 m2 inv f x n h) (2 * j + 1)) hl
      generalize hM : G.sm k (fun h => G.mh (G.vts m1 m2 inv f x n h) (n - G.vts m1 m2 inv f x n h) (2 * j + 1)) = M at cs cp sh1 sh2
      rw [← hcd] at cp sh0 sh1
      clear hM
      have shq := sh0
      obtain ⟨x0, y0, q0⟩ := pt_of sh0 n0s (Nat.le_trans cp cs) (n7 nb)
      rw [show ((M : Nat) : Int) - ((G.mh c (n - c) (2 * j + 1) : Nat) : Int) = ((M - G.mh c (n - c) (2 * j + 1) : Nat) : Int) by omega] at sh1
      rw [show ((n ^ (2 * j + 1) : Nat) : Int) - ((M : Nat) : Int) = ((n ^ (2 * j + 1) - M : Nat) : Int) by omega] at sh2
      obtain ⟨x1, y1, q1⟩ := pt_of sh1 n0s (by omega) (n7 nb)
      obtain ⟨x2, y2, q2⟩ := pt_of sh2 n0s (by omega) (n7 nb)
      have ab1 := q0.above (u := 1) (v := 2) (by
        have := G.mh_above (a := c) (b := n - c) (p := 1) (q := 2) (by omega) (by omega) (by omega) j
        rw [show c + (n - c) = n by omega] at this
        exact this)
      have ab2 : sb = true → (2 : Int) * y0 < 3 * x0 := fun q => q0.above (u := 2) (v := 3) (by
        have := G.mh_above (a := c) (b := n - c) (p := 2) (q := 3) (by omega) (by have := hsure q; omega) (by omega) j
        rw [show c + (n - c) = n by omega] at this
        exact this)
      have nlt := bf.not_lt n0 q0
      have bfn := Bf.next (j := j) cn (by omega) n0 q0
      have pts : ∀ i v, [V.ref a0, V.ref a1, V.ref a2][i]? = some v → ∃ p x y, v = .ref p ∧ Pt S Hk p ((fun i => if i = 0 then G.mh c (n - c) (2 * j + 1) else if i = 1 then M - G.mh c (n - c) (2 * j + 1) else n ^ (2 * j + 1) - M) i) (n ^ (2 * j + 1)) x y := fun i v hv => by
        have hi : i < 3 := (List.getElem?_eq_some_iff.mp hv).1
        have : i = 0 ∨ i = 1 ∨ i = 2 := by omega
        rcases this with rfl | rfl | rfl
        · exact ⟨a0, x0, y0, (Option.some.inj hv).symm, q0⟩
        · exact ⟨a1, x1, y1, (Option.some.inj hv).symm, q1⟩
        · exact ⟨a2, x2, y2, (Option.some.inj hv).symm, q2⟩
      have tot : G.sm 3 (fun i => if i = 0 then G.mh c (n - c) (2 * j + 1) else if i = 1 then M - G.mh c (n - c) (2 * j + 1) else n ^ (2 * j + 1) - M) = n ^ (2 * j + 1) := by
        show ((0 + (if 0 = 0 then _ else _)) + (if 1 = 0 then _ else if 1 = 1 then _ else _)) + (if 2 = 0 then _ else if 2 = 1 then _ else _) = _
        rw [if_pos rfl, if_neg (by decide), if_pos rfl, if_neg (by decide), if_neg (by decide)]
        omega
      generalize (fun i => if i = 0 then G.mh c (n - c) (2 * j + 1) else if i = 1 then M - G.mh c (n - c) (2 * j + 1) else n ^ (2 * j + 1) - M) = tt at pts tot
      have big : ∀ {u v : Int} {i : Nat}, i < 3 → u.natAbs < 2 ^ (700 * (i + 1)) → v.natAbs < 2 ^ 700 → CMulW u v := fun {u v i} hi hu hv => wide_mul (a := 700 * (i + 1)) (b := 700) hu hv (by omega) (by decide) (by omega)
      have bfx := bf.xs
      have bfy := bf.ys
      clear sh0 sh1 sh2 cs cp q1 q2 bf
      walk_at "rd"
      refine f_lst (K := K) (xs := [V.ref a0, V.ref a1, V.ref a2]) (fun i σ' H' => ∃ (tq : Addr) (ts : List Int) (B : Int) (v15 v16 : Option V), σ' = [some (.ref a), some (.ref h), some (.ref one), some (.ref other), some (.int (n : Int)), some (.ref t1), some (.ref ft), some (.ref tw), some (.int (x : Int)), some (.bl sb), some (.ref ub), some (.int ((2 * j + 1 : Nat) : Int)), some (.ref tq), some (.int B), some (.ref sl), v15, v16, v17] ∧ Same Hk H' ∧ H' tq = some (.lst (ts.map V.int)) ∧ Tp (n ^ (2 * j + 1)) i (G.sm i tt) ts B) (SqL.of hsl) (fun R' h => ?_) ⟨tp, [], 1, _, _, rfl, Same.refl _, htp, ⟨rfl, by show (0 : Int) * _ = 0 * _; simp, fun t ht => (nomatch ht), by show 1 < _; exact Nat.one_lt_two_pow (by decide)⟩⟩ (fun i σ' H' ⟨_, _, _, _, _, _, s, _⟩ => SqL.of (s _ _ hsl)) ?_ ?_
      · walk_at "rd"
        exact h
      · rintro i v σ' Hl hv ⟨tq, ts, B, v15, v16, rfl, sl', hts, tpl⟩ N2 B2 R2 hN2 hB2 hRt2
        have hi : i < 3 := (List.getElem?_eq_some_iff.mp hv).1
        obtain ⟨p, px, py, rfl, pt⟩ := pts i v hv
        have pt' := pt.mono sl'
        obtain ⟨dx, fs, hp, f1, f2⟩ := pt'.at_
        walk_at "rd"
        refine n_isi (.own S) (.base (.ins hp T.cs T.sA T.iB T.iC T.sD)) kit_own ?_
        walk_at "rd"
        refine ⟨_, _, _, _, _, rfl, hp, T.cs, T.sT, f1, ?_⟩
        walk_at "rd"
        refine r_if1 (fun c => absurd c (by have := pt.x0; omega)) (fun _ => ?_)
        walk_at "rd"
        refine lc_lst (fun i v _ => ∃ t, ts[i]? = some t ∧ v = V.int (t * py)) (SqL.of hts) (by rw [List.length_map, tpl.len]; omega) (fun R' h => ?_) (fun i v H1 H2 D L _ _ h => h) (fun i' y' H2 Q' hy s2 k2 => ?_) (fun D L H2 hD s2 hL len r => ?_)
        · walk_at "rd"
          exact h
        · rw [List.getElem?_map] at hy
          cases e : ts[i']? with
          | none => rw [e] at hy; cases hy
          | some t =>
            rw [e] at hy
            cases hy
            walk_at "rd"
            refine ⟨_, _, _, _, _, rfl, s2 _ _ hp, T.cs, T.sB, f2, ?_⟩
            walk_at "rd"
            refine Wk.r_I (big hi (tpl.tb t (List.mem_of_getElem? e)) pt.ys) ?_
            exact k2 _ _ (Same.refl _) ⟨t, e, rfl⟩
        have eL := ts_map (ts := ts) (y := py) (by rw [len, List.length_map]) r
        rw [eL] at hL
        have s3 := sl'.trans s2
        have hp2 := s2 _ _ hp
        walk_at "rd"
        refine ⟨_, _, _, _, _, rfl, hp2, T.cs, T.sT, f1, ?_⟩
        walk_at "rd"
        refine Wk.r_I (wide_mul (a := 700) (b := 700 * (i + 1)) pt.xs tpl.bb (by decide) (by omega) (by omega)) ?_
        walk_at "rd"
        intro z nz
        have sz := same_new (o := .lst [V.int (px * B)]) nz
        refine ⟨D, z, _, _, rfl, rfl, sz _ _ hL, upd_same, szl (by rw [List.length_map, List.length_map, tpl.len, List.length_singleton]; omega), fun w nw => ?_⟩
        have sw := same_new (o := .lst ((ts.map fun t => t * py).map V.int ++ [V.int (px * B)])) nw
        have hw : (upd (upd H2 z (.lst [V.int (px * B)])) w (.lst ((ts.map fun t => t * py).map V.int ++ [V.int (px * B)]))) w = some (.lst ((ts.map (fun t => t * py) ++ [px * B]).map V.int)) := by
          rw [upd_same, List.map_append]
          rfl
        have hp3 := sw _ _ (sz _ _ hp2)
        have s4 := (s3.trans sz).trans sw
        generalize upd (upd H2 z (.lst [V.int (px * B)])) w (.lst ((ts.map fun t => t * py).map V.int ++ [V.int (px * B)])) = H4 at hw hp3 s4 ⊢
        walk_at "rd"
        refine ⟨_, _, _, _, _, rfl, hp3, T.cs, T.sB, f2, ?_⟩
        walk_at "rd"
        refine Wk.r_I (big hi tpl.bb pt.ys) ?_
        exact hN2 _ _ ⟨w, _, _, _, _, rfl, s4, hw, tpl.step pt⟩
      · rintro σ' Hl ⟨tq, ts, B, v15, v16, rfl, sl', hts, tpl⟩
        have tpl : Tp (n ^ (2 * j + 1)) 3 (G.sm 3 tt) ts B := tpl
        have tfr := tpl.fr
        rw [tot] at tfr
        have tsum : ts.sum = B := by
          have p : ((n ^ (2 * j + 1) : Nat) : Int) ≠ 0 := by omega
          exact Int.eq_of_mul_eq_mul_right p (by rw [tfr, Int.mul_comm])
        have q0' := q0.mono sl'
        obtain ⟨dx, fs, hp, f1, f2⟩ := q0'.at_
        have hsl' := sl' _ _ hsl
        walk_at "rd"
        refine ⟨_, _, _, _, _, rfl, hp, T.cs, T.sT, f1, ?_⟩
        walk_at "rd"
        refine ⟨_, _, _, _, _, rfl, hp, T.cs, T.sB, f2, ?_⟩
        walk_at "rd"
        intro nw nnw
        have sn := same_new (o := .tup [V.int x0, V.int y0]) nnw
        have hnw : SqT K (upd Hl nw (.tup [V.int x0, V.int y0])) nw [V.int x0, V.int y0] := SqT.of upd_same
        have hts := sn _ _ hts
        have hsl2 := sn _ _ hsl'
        have s5 := sl'.trans sn
        generalize upd Hl nw (.tup [V.int x0, V.int y0]) = Hm at hnw hts hsl2 s5 ⊢
        clear sn nnw hsl' hp
        have se5 := se3.trans s5
        have hub5 := s5.sqT hub
        have i0 : atI [V.int x0, V.int y0] 0 = some (V.int x0) := rfl
        have i1 : atI [V.int x0, V.int y0] 1 = some (V.int y0) := rfl
        have j0 : atI [V.int xb, V.int yb] 0 = some (V.int xb) := rfl
        have j1 : atI [V.int xb, V.int yb] 1 = some (V.int yb) := rfl
        have bys := bfn.ys
        walk_at "rd"
        refine ⟨tq, ts, rfl, SqL.of hts, ?_⟩
        walk_at "rd"
        rw [tsum]
        refine r_ifNI (fun c => absurd rfl c) (fun _ => ?_)
        walk_at "rd"
        refine Wk.r_I (mul7 (sm7 (by decide)) bfn.xs) ?_
        walk_at "rd"
        refine r_if1 (fun c => absurd c (by omega)) (fun _ => ?_)
        walk_at "rd"
        refine if_imp (fun q hB => ?_) ?_
        · walk_at "rd"
          refine Wk.r_I (mul7 (sm7 (by decide)) bfn.xs) ?_
          walk_at "rd"
          refine Wk.r_I (mul7 (sm7 (by decide)) bfn.ys) ?_
          walk_at "rd"
          refine r_if1 (fun c => absurd c (by have := ab2 q; omega)) (fun _ => ?_)
          exact hB
        walk_at "rd"
        refine Wk.r_I (mul7 bfn.xs bfy) ?_
        walk_at "rd"
        refine Wk.r_I (mul7 bfx bfn.ys) ?_
        walk_at "rd"
        refine r_if1 (fun c => absurd c nlt) (fun _ => ?_)
        walk_at "rd"
        have fin : ∀ σ', σ' = [some (.ref a), some (.ref h), some (.ref one), some (.ref other), some (.int (n : Int)), some (.ref t1), some (.ref ft), some (.ref tw), some (.int (x : Int)), some (.bl sb), some (.ref nw), some (.int ((2 * j + 1 : Nat) : Int)), some (.ref tq), some (.int B), some (.ref sl), v15, v16, some (.ref nw)] → ∀ Hz, Same Hm Hz → N' σ' Hz := fun σ' e Hz sz => hN _ _ ⟨nw, x0, y0, _, _, _, _, _, _, _, e, se5.trans sz, sz.sqT hnw, bfn⟩
        refine r_ifI (fun e1 => ?_) (fun e1 => ?_)
        · have j00 : j = 0 := by omega
          subst j00
          have gl1 := gl1.mono se5
          have gl2 := gl2.mono se5
          have mt := mt.mono se5
          have mh1 := mh1.mono se5
          walk_at "rd"
          refine ⟨one, other, ft, x, n, k, e2, m1, m2, inv, f, rfl, gl1, gl2, by omega, by omega, r1, r2, he2, iv, mt, xn, fun Hn vc sv hvc => ?_⟩
          have mh2 := mh1.mono sv
          walk_at "rd"
          refine Wk.r_ixT mh2.tup (at_n (natsV_get xn)) ?_
          walk_at "rd"
          refine Wk.r_ixL (SqL.of hvc) (at_n (natsV_get hl)) ?_
          walk_at "rd"
          rw [← hcd]
          have shq2 := (shq.mono s5).mono sv
          rw [show 2 * 0 + 1 = 1 from rfl, G.mh_one, Nat.pow_one] at shq2
          refine ⟨a0, c, n, rfl, shq2, n0, by omega, by omega, fun Hz sz => ?_⟩
          walk_at "rd"
          exact fin _ rfl _ (sv.trans sz)
        · walk_at "rd"
          exact fin _ rfl _ (Same.refl _)
    · rintro σ' He ⟨ub, xb, yb, v11, v12, v13, v14, v15, v16, v17, rfl, se, hub, bf⟩
      walk_at "rd"
      exact kk _
end
end Wk
end
section
set_option Elab.async false
set_option linter.all false
set_option maxRecDepth 100000
namespace Wk
open PySem PySem.Spec PyProof.Rows L2
section
variable {K : PySem.W.Frag} {h : Heap} {mg : Str → Option Value} {C : Addr}
theorem en_Group___init__ {f : Addr} {oc kV dc pm cd ct : Value} {od an : Option Addr} {sl : Array (Option Value)} (m : PySem.W.makesIn K C = true) (kc : PySem.W.keepIn K (.ref C) = true) (a : PySem.W.findIn K (.ref C) "__init__" = some (some (.ref f))) (i : PySem.W.isFn K (.ref f) = true) (l : K.lookup f = some ⟨oc, od, .func (PySem.W.fnOf "__init__" "Group.__init__" (defArgs s_Group___init__) (defBody s_Group___init__) (defScope s_Group___init__) .none kV dc pm an cd ct), sl⟩) (c : PySem.W.codeIn K cd "Group.__init__" = true) (k : PySem.W.keepIn K (.ref f) = true) : ∃ f fd, Fun K "__init__" "Group.__init__" s_Group___init__ f fd ∧ Mk K C f ∧ Binds K fd ["self", "table"] [] ∧ KBn K fd ["self", "table"] 1 ["table"] (fun us ws => us ++ ws) (fun vs zs => vs ++ zs) :=
  ⟨f, _, fun_mk l c k, ⟨m, a, i, kc⟩, (fun_mk l c k).binds fun _ _ _ _ _ _ us hl => match us, hl with | [_, _], _ => rfl, ⟨fun s us ws _ l1 l2 => match us, ws, l1, l2 with | [_], [_], _, _ => .of_eq rfl, fun r1 r2 => r1.append r2⟩⟩
theorem en_Group_inverse {f : Addr} {oc kV dc pm cd ct : Value} {od an : Option Addr} {sl : Array (Option Value)} (a : PySem.W.findIn K (.ref C) "inverse" = some (some (.ref f))) (i : PySem.W.isFn K (.ref f) = true) (l : K.lookup f = some ⟨oc, od, .func (PySem.W.fnOf "inverse" "Group.inverse" (defArgs s_Group_inverse) (defBody s_Group_inverse) (defScope s_Group_inverse) .none kV dc pm an cd ct), sl⟩) (c : PySem.W.codeIn K cd "Group.inverse" = true) (k : PySem.W.keepIn K (.ref f) = true) : ∃ f fd, Fun K "inverse" "Group.inverse" s_Group_inverse f fd ∧ Meth K C "inverse" f ∧ Binds K fd ["self", "x"] [] :=
  ⟨f, _, fun_mk l c k, ⟨a, i, k⟩, (fun_mk l c k).binds fun _ _ _ _ _ _ us hl => match us, hl with | [_, _], _ => rfl⟩
theorem en_Share___init__ {f : Addr} {oc kV dc pm cd ct : Value} {od an : Option Addr} {sl : Array (Option Value)} (m : PySem.W.makesIn K C = true) (kc : PySem.W.keepIn K (.ref C) = true) (a : PySem.W.findIn K (.ref C) "__init__" = some (some (.ref f))) (i : PySem.W.isFn K (.ref f) = true) (l : K.lookup f = some ⟨oc, od, .func (PySem.W.fnOf "__init__" "Share.__init__" (defArgs s_Share___init__) (defBody s_Share___init__) (defScope s_Share___init__) .none kV dc pm an cd ct), sl⟩) (c : PySem.W.codeIn K cd "Share.__init__" = true) (k : PySem.W.keepIn K (.ref f) = true) : ∃ f fd, Fun K "__init__" "Share.__init__" s_Share___init__ f fd ∧ Mk K C f ∧ Binds K fd ["self", "top", "bottom"] [] ∧ KBn K fd ["self", "top", "bottom"] 1 ["top", "bottom"] (fun us ws => us ++ ws) (fun vs zs => vs ++ zs) :=
  ⟨f, _, fun_mk l c k, ⟨m, a, i, kc⟩, (fun_mk l c k).binds fun _ _ _ _ _ _ us hl => match us, hl with | [_, _, _], _ => rfl, ⟨fun s us ws _ l1 l2 => match us, ws, l1, l2 with | [_], [_, _], _, _ => .of_eq rfl, fun r1 r2 => r1.append r2⟩⟩
theorem en_Share_of {p : Addr} {rest : List Value} {f : Addr} {oc kV dc pm cd ct : Value} {od an : Option Addr} {sl : Array (Option Value)} (r1 : PySem.W.readsIn K C (.type "type") = true) (r2 : PySem.W.specialIn K (.ref C) "__getattribute__" = some (some (.builtin "type.__getattribute__"))) (a : PySem.W.findCls K (.ref C) (.type "type") "of" = some (.get (.builtin "classmethod.__get__") (.ref p) .none (.ref C))) (r : PySem.W.recIn K p "classmethod" = some (.ref f :: rest)) (fi : PySem.W.fnIn K f = true) (l : K.lookup f = some ⟨oc, od, .func (PySem.W.fnOf "of" "Share.of" (defArgs s_Share_of) (defBody s_Share_of) (defScope s_Share_of) .none kV dc pm an cd ct), sl⟩) (c : PySem.W.codeIn K cd "Share.of" = true) (k : PySem.W.keepIn K (.ref f) = true) : ∃ p f fd, Fun K "of" "Share.of" s_Share_of f fd ∧ ClX.CRead K C (.type "type") ∧ ClX.CMet K C (.type "type") "of" p f ∧ Binds K fd ["cls", "part", "whole"] [] :=
  ⟨p, f, _, fun_mk l c k, ⟨r1, r2⟩, ⟨a, ⟨rest, r⟩, fi⟩, (fun_mk l c k).binds fun _ _ _ _ _ _ us hl => match us, hl with | [_, _, _], _ => rfl⟩
theorem en_Share___add__ {f : Addr} {oc kV dc pm cd ct : Value} {od an : Option Addr} {sl : Array (Option Value)} (a : PySem.W.findIn K (.ref C) "__add__" = some (some (.ref f))) (i : PySem.W.isFn K (.ref f) = true) (l : K.lookup f = some ⟨oc, od, .func (PySem.W.fnOf "__add__" "Share.__add__" (defArgs s_Share___add__) (defBody s_Share___add__) (defScope s_Share___add__) .none kV dc pm an cd ct), sl⟩) (c : PySem.W.codeIn K cd "Share.__add__" = true) (k : PySem.W.keepIn K (.ref f) = true) : ∃ f fd, Fun K "__add__" "Share.__add__" s_Share___add__ f fd ∧ Meth K C "__add__" f ∧ Binds K fd ["self", "other"] [] :=
  ⟨f, _, fun_mk l c k, ⟨a, i, k⟩, (fun_mk l c k).binds fun _ _ _ _ _ _ us hl => match us, hl with | [_, _], _ => rfl⟩
theorem en_Share___sub__ {f : Addr} {oc kV dc pm cd ct : Value} {od an : Option Addr} {sl : Array (Option Value)} (a : PySem.W.findIn K (.ref C) "__sub__" = some (some (.ref f))) (i : PySem.W.isFn K (.ref f) = true) (l : K.lookup f = some ⟨oc, od, .func (PySem.W.fnOf "__sub__" "Share.__sub__" (defArgs s_Share___sub__) (defBody s_Share___sub__) (defScope s_Share___sub__) .none kV dc pm an cd ct), sl⟩) (c : PySem.W.codeIn K cd "Share.__sub__" = true) (k : PySem.W.keepIn K (.ref f) = true) : ∃ f fd, Fun K "__sub__" "Share.__sub__" s_Share___sub__ f fd ∧ Meth K C "__sub__" f ∧ Binds K fd ["self", "other"] [] :=
  ⟨f, _, fun_mk l c k, ⟨a, i, k⟩, (fun_mk l c k).binds fun _ _ _ _ _ _ us hl => match us, hl with | [_, _], _ => rfl⟩
theorem en_Share___rsub__ {f : Addr} {oc kV dc pm cd ct : Value} {od an : Option Addr} {sl : Array (Option Value)} (a : PySem.W.findIn K (.ref C) "__rsub__" = some (some (.ref f))) (i : PySem.W.isFn K (.ref f) = true) (l : K.lookup f = some ⟨oc, od, .func (PySem.W.fnOf "__rsub__" "Share.__rsub__" (defArgs s_Share___rsub__) (defBody s_Share___rsub__) (defScope s_Share___rsub__) .none kV dc pm an cd ct), sl⟩) (c : PySem.W.codeIn K cd "Share.__rsub__" = true) (k : PySem.W.keepIn K (.ref f) = true) : ∃ f fd, Fun K "__rsub__" "Share.__rsub__" s_Share___rsub__ f fd ∧ Meth K C "__rsub__" f ∧ Binds K fd ["self", "other"] [] :=
  ⟨f, _, fun_mk l c k, ⟨a, i, k⟩, (fun_mk l c k).binds fun _ _ _ _ _ _ us hl => match us, hl with | [_, _], _ => rfl⟩
theorem at_is_whole {f : Addr} {oc kV dc pm cd ct : Value} {od an : Option Addr} {sl : Array (Option Value)} (X : K.In h) (G : h.Ns mainGlobals mg) (a : PySem.W.nsIn K mainGlobals "is_whole" = some (some (.ref f))) (l : K.lookup f = some ⟨oc, od, .func (PySem.W.fnOf "is_whole" "is_whole" (defArgs s_is_whole) (defBody s_is_whole) (defScope s_is_whole) .none kV dc pm an cd ct), sl⟩) (c : PySem.W.codeIn K cd "is_whole" = true) (k : PySem.W.keepIn K (.ref f) = true) : At K mg "is_whole" s_is_whole ["value"] := ⟨f, _, fun_mk l c k, PySem.W.mg_of X G a, (fun_mk l c k).binds fun _ _ _ _ _ _ us hl => match us, hl with | [_], _ => rfl⟩
theorem at_is_within {f : Addr} {oc kV dc pm cd ct : Value} {od an : Option Addr} {sl : Array (Option Value)} (X : K.In h) (G : h.Ns mainGlobals mg) (a : PySem.W.nsIn K mainGlobals "is_within" = some (some (.ref f))) (l : K.lookup f = some ⟨oc, od, .func (PySem.W.fnOf "is_within" "is_within" (defArgs s_is_within) (defBody s_is_within) (defScope s_is_within) .none kV dc pm an cd ct), sl⟩) (c : PySem.W.codeIn K cd "is_within" = true) (k : PySem.W.keepIn K (.ref f) = true) : At K mg "is_within" s_is_within ["value", "least", "most"] := ⟨f, _, fun_mk l c k, PySem.W.mg_of X G a, (fun_mk l c k).binds fun _ _ _ _ _ _ us hl => match us, hl with | [_, _, _], _ => rfl⟩
theorem at_is_sequence {f : Addr} {oc kV dc pm cd ct : Value} {od an : Option Addr} {sl : Array (Option Value)} (X : K.In h) (G : h.Ns mainGlobals mg) (a : PySem.W.nsIn K mainGlobals "is_sequence" = some (some (.ref f))) (l : K.lookup f = some ⟨oc, od, .func (PySem.W.fnOf "is_sequence" "is_sequence" (defArgs s_is_sequence) (defBody s_is_sequence) (defScope s_is_sequence) .none kV dc pm an cd ct), sl⟩) (c : PySem.W.codeIn K cd "is_sequence" = true) (k : PySem.W.keepIn K (.ref f) = true) : At K mg "is_sequence" s_is_sequence ["value"] := ⟨f, _, fun_mk l c k, PySem.W.mg_of X G a, (fun_mk l c k).binds fun _ _ _ _ _ _ us hl => match us, hl with | [_], _ => rfl⟩
theorem at_is_number_row {f : Addr} {oc kV dc pm cd ct : Value} {od an : Option Addr} {sl : Array (Option Value)} (X : K.In h) (G : h.Ns mainGlobals mg) (a : PySem.W.nsIn K mainGlobals "is_number_row" = some (some (.ref f))) (l : K.lookup f = some ⟨oc, od, .func (PySem.W.fnOf "is_number_row" "is_number_row" (defArgs s_is_number_row) (defBody s_is_number_row) (defScope s_is_number_row) .none kV dc pm an cd ct), sl⟩) (c : PySem.W.codeIn K cd "is_number_row" = true) (k : PySem.W.keepIn K (.ref f) = true) : At K mg "is_number_row" s_is_number_row ["value", "length", "bound"] := ⟨f, _, fun_mk l c k, PySem.W.mg_of X G a, (fun_mk l c k).binds fun _ _ _ _ _ _ us hl => match us, hl with | [_, _, _], _ => rfl⟩
theorem at_is_member {f : Addr} {oc kV dc pm cd ct : Value} {od an : Option Addr} {sl : Array (Option Value)} (X : K.In h) (G : h.Ns mainGlobals mg) (a : PySem.W.nsIn K mainGlobals "is_member" = some (some (.ref f))) (l : K.lookup f = some ⟨oc, od, .func (PySem.W.fnOf "is_member" "is_member" (defArgs s_is_member) (defBody s_is_member) (defScope s_is_member) .none kV dc pm an cd ct), sl⟩) (c : PySem.W.codeIn K cd "is_member" = true) (k : PySem.W.keepIn K (.ref f) = true) : At K mg "is_member" s_is_member ["group", "value"] := ⟨f, _, fun_mk l c k, PySem.W.mg_of X G a, (fun_mk l c k).binds fun _ _ _ _ _ _ us hl => match us, hl with | [_, _], _ => rfl⟩
theorem at_is_member_row {f : Addr} {oc kV dc pm cd ct : Value} {od an : Option Addr} {sl : Array (Option Value)} (X : K.In h) (G : h.Ns mainGlobals mg) (a : PySem.W.nsIn K mainGlobals "is_member_row" = some (some (.ref f))) (l : K.lookup f = some ⟨oc, od, .func (PySem.W.fnOf "is_member_row" "is_member_row" (defArgs s_is_member_row) (defBody s_is_member_row) (defScope s_is_member_row) .none kV dc pm an cd ct), sl⟩) (c : PySem.W.codeIn K cd "is_member_row" = true) (k : PySem.W.keepIn K (.ref f) = true) : At K mg "is_member_row" s_is_member_row ["group", "value", "length"] := ⟨f, _, fun_mk l c k, PySem.W.mg_of X G a, (fun_mk l c k).binds fun _ _ _ _ _ _ us hl => match us, hl with | [_, _, _], _ => rfl⟩
theorem at_is_map {f : Addr} {oc kV dc pm cd ct : Value} {od an : Option Addr} {sl : Array (Option Value)} (X : K.In h) (G : h.Ns mainGlobals mg) (a : PySem.W.nsIn K mainGlobals "is_map" = some (some (.ref f))) (l : K.lookup f = some ⟨oc, od, .func (PySem.W.fnOf "is_map" "is_map" (defArgs s_is_map) (defBody s_is_map) (defScope s_is_map) .none kV dc pm an cd ct), sl⟩) (c : PySem.W.codeIn K cd "is_map" = true) (k : PySem.W.keepIn K (.ref f) = true) : At K mg "is_map" s_is_map ["one", "other", "value"] := ⟨f, _, fun_mk l c k, PySem.W.mg_of X G a, (fun_mk l c k).binds fun _ _ _ _ _ _ us hl => match us, hl with | [_, _, _], _ => rfl⟩
theorem at_require_member {f : Addr} {oc kV dc pm cd ct : Value} {od an : Option Addr} {sl : Array (Option Value)} (X : K.In h) (G : h.Ns mainGlobals mg) (a : PySem.W.nsIn K mainGlobals "require_member" = some (some (.ref f))) (l : K.lookup f = some ⟨oc, od, .func (PySem.W.fnOf "require_member" "require_member" (defArgs s_require_member) (defBody s_require_member) (defScope s_require_member) .none kV dc pm an cd ct), sl⟩) (c : PySem.W.codeIn K cd "require_member" = true) (k : PySem.W.keepIn K (.ref f) = true) : At K mg "require_member" s_require_member ["group", "value"] := ⟨f, _, fun_mk l c k, PySem.W.mg_of X G a, (fun_mk l c k).binds fun _ _ _ _ _ _ us hl => match us, hl with | [_, _], _ => rfl⟩
theorem at_require_map {f : Addr} {oc kV dc pm cd ct : Value} {od an : Option Addr} {sl : Array (Option Value)} (X : K.In h) (G : h.Ns mainGlobals mg) (a : PySem.W.nsIn K mainGlobals "require_map" = some (some (.ref f))) (l : K.lookup f = some ⟨oc, od, .func (PySem.W.fnOf "require_map" "require_map" (defArgs s_require_map) (defBody s_require_map) (defScope s_require_map) .none kV dc pm an cd ct), sl⟩) (c : PySem.W.codeIn K cd "require_map" = true) (k : PySem.W.keepIn K (.ref f) = true) : At K mg "require_map" s_require_map ["one", "other", "value"] := ⟨f, _, fun_mk l c k, PySem.W.mg_of X G a, (fun_mk l c k).binds fun _ _ _ _ _ _ us hl => match us, hl with | [_, _, _], _ => rfl⟩
theorem at__is_row {f : Addr} {oc kV dc pm cd ct : Value} {od an : Option Addr} {sl : Array (Option Value)} (X : K.In h) (G : h.Ns mainGlobals mg) (a : PySem.W.nsIn K mainGlobals "_is_row" = some (some (.ref f))) (l : K.lookup f = some ⟨oc, od, .func (PySem.W.fnOf "_is_row" "_is_row" (defArgs s__is_row) (defBody s__is_row) (defScope s__is_row) .none kV dc pm an cd ct), sl⟩) (c : PySem.W.codeIn K cd "_is_row" = true) (k : PySem.W.keepIn K (.ref f) = true) : At K mg "_is_row" s__is_row ["row", "size"] := ⟨f, _, fun_mk l c k, PySem.W.mg_of X G a, (fun_mk l c k).binds fun _ _ _ _ _ _ us hl => match us, hl with | [_, _], _ => rfl⟩
theorem at__judged_rows {f : Addr} {oc kV dc pm cd ct : Value} {od an : Option Addr} {sl : Array (Option Value)} (X : K.In h) (G : h.Ns mainGlobals mg) (a : PySem.W.nsIn K mainGlobals "_judged_rows" = some (some (.ref f))) (l : K.lookup f = some ⟨oc, od, .func (PySem.W.fnOf "_judged_rows" "_judged_rows" (defArgs s__judged_rows) (defBody s__judged_rows) (defScope s__judged_rows) .none kV dc pm an cd ct), sl⟩) (c : PySem.W.codeIn K cd "_judged_rows" = true) (k : PySem.W.keepIn K (.ref f) = true) : At K mg "_judged_rows" s__judged_rows ["table"] := ⟨f, _, fun_mk l c k, PySem.W.mg_of X G a, (fun_mk l c k).binds fun _ _ _ _ _ _ us hl => match us, hl with | [_], _ => rfl⟩
theorem at__judged_neutral {f : Addr} {oc kV dc pm cd ct : Value} {od an : Option Addr} {sl : Array (Option Value)} (X : K.In h) (G : h.Ns mainGlobals mg) (a : PySem.W.nsIn K mainGlobals "_judged_neutral" = some (some (.ref f))) (l : K.lookup f = some ⟨oc, od, .func (PySem.W.fnOf "_judged_neutral" "_judged_neutral" (defArgs s__judged_neutral) (defBody s__judged_neutral) (defScope s__judged_neutral) .none kV dc pm an cd ct), sl⟩) (c : PySem.W.codeIn K cd "_judged_neutral" = true) (k : PySem.W.keepIn K (.ref f) = true) : At K mg "_judged_neutral" s__judged_neutral ["table"] := ⟨f, _, fun_mk l c k, PySem.W.mg_of X G a, (fun_mk l c k).binds fun _ _ _ _ _ _ us hl => match us, hl with | [_], _ => rfl⟩
theorem at__judged_inverses {f : Addr} {oc kV dc pm cd ct : Value} {od an : Option Addr} {sl : Array (Option Value)} (X : K.In h) (G : h.Ns mainGlobals mg) (a : PySem.W.nsIn K mainGlobals "_judged_inverses" = some (some (.ref f))) (l : K.lookup f = some ⟨oc, od, .func (PySem.W.fnOf "_judged_inverses" "_judged_inverses" (defArgs s__judged_inverses) (defBody s__judged_inverses) (defScope s__judged_inverses) .none kV dc pm an cd ct), sl⟩) (c : PySem.W.codeIn K cd "_judged_inverses" = true) (k : PySem.W.keepIn K (.ref f) = true) : At K mg "_judged_inverses" s__judged_inverses ["table", "neutral"] := ⟨f, _, fun_mk l c k, PySem.W.mg_of X G a, (fun_mk l c k).binds fun _ _ _ _ _ _ us hl => match us, hl with | [_, _], _ => rfl⟩
theorem at__judge_products {f : Addr} {oc kV dc pm cd ct : Value} {od an : Option Addr} {sl : Array (Option Value)} (X : K.In h) (G : h.Ns mainGlobals mg) (a : PySem.W.nsIn K mainGlobals "_judge_products" = some (some (.ref f))) (l : K.lookup f = some ⟨oc, od, .func (PySem.W.fnOf "_judge_products" "_judge_products" (defArgs s__judge_products) (defBody s__judge_products) (defScope s__judge_products) .none kV dc pm an cd ct), sl⟩) (c : PySem.W.codeIn K cd "_judge_products" = true) (k : PySem.W.keepIn K (.ref f) = true) : At K mg "_judge_products" s__judge_products ["table"] := ⟨f, _, fun_mk l c k, PySem.W.mg_of X G a, (fun_mk l c k).binds fun _ _ _ _ _ _ us hl => match us, hl with | [_], _ => rfl⟩
theorem at__inverted {f : Addr} {oc kV dc pm cd ct : Value} {od an : Option Addr} {sl : Array (Option Value)} (X : K.In h) (G : h.Ns mainGlobals mg) (a : PySem.W.nsIn K mainGlobals "_inverted" = some (some (.ref f))) (l : K.lookup f = some ⟨oc, od, .func (PySem.W.fnOf "_inverted" "_inverted" (defArgs s__inverted) (defBody s__inverted) (defScope s__inverted) .none kV dc pm an cd ct), sl⟩) (c : PySem.W.codeIn K cd "_inverted" = true) (k : PySem.W.keepIn K (.ref f) = true) : At K mg "_inverted" s__inverted ["other", "f"] := ⟨f, _, fun_mk l c k, PySem.W.mg_of X G a, (fun_mk l c k).binds fun _ _ _ _ _ _ us hl => match us, hl with | [_, _], _ => rfl⟩
theorem at__counted {f : Addr} {oc kV dc pm cd ct : Value} {od an : Option Addr} {sl : Array (Option Value)} (X : K.In h) (G : h.Ns mainGlobals mg) (a : PySem.W.nsIn K mainGlobals "_counted" = some (some (.ref f))) (l : K.lookup f = some ⟨oc, od, .func (PySem.W.fnOf "_counted" "_counted" (defArgs s__counted) (defBody s__counted) (defScope s__counted) .none kV dc pm an cd ct), sl⟩) (c : PySem.W.codeIn K cd "_counted" = true) (k : PySem.W.keepIn K (.ref f) = true) : At K mg "_counted" s__counted ["one", "other", "f", "inverses", "x"] := ⟨f, _, fun_mk l c k, PySem.W.mg_of X G a, (fun_mk l c k).binds fun _ _ _ _ _ _ us hl => match us, hl with | [_, _, _, _, _], _ => rfl⟩
theorem at_voted {f : Addr} {oc kV dc pm cd ct : Value} {od an : Option Addr} {sl : Array (Option Value)} (X : K.In h) (G : h.Ns mainGlobals mg) (a : PySem.W.nsIn K mainGlobals "voted" = some (some (.ref f))) (l : K.lookup f = some ⟨oc, od, .func (PySem.W.fnOf "voted" "voted" (defArgs s_voted) (defBody s_voted) (defScope s_voted) .none kV dc pm an cd ct), sl⟩) (c : PySem.W.codeIn K cd "voted" = true) (k : PySem.W.keepIn K (.ref f) = true) : At K mg "voted" s_voted ["one", "other", "f"] := ⟨f, _, fun_mk l c k, PySem.W.mg_of X G a, (fun_mk l c k).binds fun _ _ _ _ _ _ us hl => match us, hl with | [_, _, _], _ => rfl⟩
theorem at_votes {f : Addr} {oc kV dc pm cd ct : Value} {od an : Option Addr} {sl : Array (Option Value)} (X : K.In h) (G : h.Ns mainGlobals mg) (a : PySem.W.nsIn K mainGlobals "votes" = some (some (.ref f))) (l : K.lookup f = some ⟨oc, od, .func (PySem.W.fnOf "votes" "votes" (defArgs s_votes) (defBody s_votes) (defScope s_votes) .none kV dc pm an cd ct), sl⟩) (c : PySem.W.codeIn K cd "votes" = true) (k : PySem.W.keepIn K (.ref f) = true) : At K mg "votes" s_votes ["one", "other", "f", "x"] := ⟨f, _, fun_mk l c k, PySem.W.mg_of X G a, (fun_mk l c k).binds fun _ _ _ _ _ _ us hl => match us, hl with | [_, _, _, _], _ => rfl⟩
theorem at_wrong_places {f : Addr} {oc kV dc pm cd ct : Value} {od an : Option Addr} {sl : Array (Option Value)} (X : K.In h) (G : h.Ns mainGlobals mg) (a : PySem.W.nsIn K mainGlobals "wrong_places" = some (some (.ref f))) (l : K.lookup f = some ⟨oc, od, .func (PySem.W.fnOf "wrong_places" "wrong_places" (defArgs s_wrong_places) (defBody s_wrong_places) (defScope s_wrong_places) .none kV dc pm an cd ct), sl⟩) (c : PySem.W.codeIn K cd "wrong_places" = true) (k : PySem.W.keepIn K (.ref f) = true) : At K mg "wrong_places" s_wrong_places ["f", "g"] := ⟨f, _, fun_mk l c k, PySem.W.mg_of X G a, (fun_mk l c k).binds fun _ _ _ _ _ _ us hl => match us, hl with | [_, _], _ => rfl⟩
theorem at_first_broken {f : Addr} {oc kV dc pm cd ct : Value} {od an : Option Addr} {sl : Array (Option Value)} (X : K.In h) (G : h.Ns mainGlobals mg) (a : PySem.W.nsIn K mainGlobals "first_broken" = some (some (.ref f))) (l : K.lookup f = some ⟨oc, od, .func (PySem.W.fnOf "first_broken" "first_broken" (defArgs s_first_broken) (defBody s_first_broken) (defScope s_first_broken) .none kV dc pm an cd ct), sl⟩) (c : PySem.W.codeIn K cd "first_broken" = true) (k : PySem.W.keepIn K (.ref f) = true) : At K mg "first_broken" s_first_broken ["one", "other", "f"] := ⟨f, _, fun_mk l c k, PySem.W.mg_of X G a, (fun_mk l c k).binds fun _ _ _ _ _ _ us hl => match us, hl with | [_, _, _], _ => rfl⟩
theorem at_is_hom {f : Addr} {oc kV dc pm cd ct : Value} {od an : Option Addr} {sl : Array (Option Value)} (X : K.In h) (G : h.Ns mainGlobals mg) (a : PySem.W.nsIn K mainGlobals "is_hom" = some (some (.ref f))) (l : K.lookup f = some ⟨oc, od, .func (PySem.W.fnOf "is_hom" "is_hom" (defArgs s_is_hom) (defBody s_is_hom) (defScope s_is_hom) .none kV dc pm an cd ct), sl⟩) (c : PySem.W.codeIn K cd "is_hom" = true) (k : PySem.W.keepIn K (.ref f) = true) : At K mg "is_hom" s_is_hom ["one", "other", "f"] := ⟨f, _, fun_mk l c k, PySem.W.mg_of X G a, (fun_mk l c k).binds fun _ _ _ _ _ _ us hl => match us, hl with | [_, _, _], _ => rfl⟩
theorem at_close_hom {f : Addr} {oc kV dc pm cd ct : Value} {od an : Option Addr} {sl : Array (Option Value)} (X : K.In h) (G : h.Ns mainGlobals mg) (a : PySem.W.nsIn K mainGlobals "close_hom" = some (some (.ref f))) (l : K.lookup f = some ⟨oc, od, .func (PySem.W.fnOf "close_hom" "close_hom" (defArgs s_close_hom) (defBody s_close_hom) (defScope s_close_hom) .none kV dc pm an cd ct), sl⟩) (c : PySem.W.codeIn K cd "close_hom" = true) (k : PySem.W.keepIn K (.ref f) = true) : At K mg "close_hom" s_close_hom ["one", "other", "f"] := ⟨f, _, fun_mk l c k, PySem.W.mg_of X G a, (fun_mk l c k).binds fun _ _ _ _ _ _ us hl => match us, hl with | [_, _, _], _ => rfl⟩
theorem at__as_share {f : Addr} {oc kV dc pm cd ct : Value} {od an : Option Addr} {sl : Array (Option Value)} (X : K.In h) (G : h.Ns mainGlobals mg) (a : PySem.W.nsIn K mainGlobals "_as_share" = some (some (.ref f))) (l : K.lookup f = some ⟨oc, od, .func (PySem.W.fnOf "_as_share" "_as_share" (defArgs s__as_share) (defBody s__as_share) (defScope s__as_share) .none kV dc pm an cd ct), sl⟩) (c : PySem.W.codeIn K cd "_as_share" = true) (k : PySem.W.keepIn K (.ref f) = true) : At K mg "_as_share" s__as_share ["value"] := ⟨f, _, fun_mk l c k, PySem.W.mg_of X G a, (fun_mk l c k).binds fun _ _ _ _ _ _ us hl => match us, hl with | [_], _ => rfl⟩
theorem at__majority_share {f : Addr} {oc kV dc pm cd ct : Value} {od an : Option Addr} {sl : Array (Option Value)} (X : K.In h) (G : h.Ns mainGlobals mg) (a : PySem.W.nsIn K mainGlobals "_majority_share" = some (some (.ref f))) (l : K.lookup f = some ⟨oc, od, .func (PySem.W.fnOf "_majority_share" "_majority_share" (defArgs s__majority_share) (defBody s__majority_share) (defScope s__majority_share) .none kV dc pm an cd ct), sl⟩) (c : PySem.W.codeIn K cd "_majority_share" = true) (k : PySem.W.keepIn K (.ref f) = true) : At K mg "_majority_share" s__majority_share ["part", "whole", "k"] := ⟨f, _, fun_mk l c k, PySem.W.mg_of X G a, (fun_mk l c k).binds fun _ _ _ _ _ _ us hl => match us, hl with | [_, _, _], _ => rfl⟩
theorem at__judged_shares {f : Addr} {oc kV dc pm cd ct : Value} {od an : Option Addr} {sl : Array (Option Value)} (X : K.In h) (G : h.Ns mainGlobals mg) (a : PySem.W.nsIn K mainGlobals "_judged_shares" = some (some (.ref f))) (l : K.lookup f = some ⟨oc, od, .func (PySem.W.fnOf "_judged_shares" "_judged_shares" (defArgs s__judged_shares) (defBody s__judged_shares) (defScope s__judged_shares) .none kV dc pm an cd ct), sl⟩) (c : PySem.W.codeIn K cd "_judged_shares" = true) (k : PySem.W.keepIn K (.ref f) = true) : At K mg "_judged_shares" s__judged_shares ["one", "other", "f", "x", "k"] := ⟨f, _, fun_mk l c k, PySem.W.mg_of X G a, (fun_mk l c k).binds fun _ _ _ _ _ _ us hl => match us, hl with | [_, _, _, _, _], _ => rfl⟩
theorem at_right_share {f : Addr} {oc kV dc pm cd ct : Value} {od an : Option Addr} {sl : Array (Option Value)} (X : K.In h) (G : h.Ns mainGlobals mg) (a : PySem.W.nsIn K mainGlobals "right_share" = some (some (.ref f))) (l : K.lookup f = some ⟨oc, od, .func (PySem.W.fnOf "right_share" "right_share" (defArgs s_right_share) (defBody s_right_share) (defScope s_right_share) .none kV dc pm an cd ct), sl⟩) (c : PySem.W.codeIn K cd "right_share" = true) (k : PySem.W.keepIn K (.ref f) = true) : At K mg "right_share" s_right_share ["one", "other", "f", "x", "k"] := ⟨f, _, fun_mk l c k, PySem.W.mg_of X G a, (fun_mk l c k).binds fun _ _ _ _ _ _ us hl => match us, hl with | [_, _, _, _, _], _ => rfl⟩
theorem at_wrong_share {f : Addr} {oc kV dc pm cd ct : Value} {od an : Option Addr} {sl : Array (Option Value)} (X : K.In h) (G : h.Ns mainGlobals mg) (a : PySem.W.nsIn K mainGlobals "wrong_share" = some (some (.ref f))) (l : K.lookup f = some ⟨oc, od, .func (PySem.W.fnOf "wrong_share" "wrong_share" (defArgs s_wrong_share) (defBody s_wrong_share) (defScope s_wrong_share) .none kV dc pm an cd ct), sl⟩) (c : PySem.W.codeIn K cd "wrong_share" = true) (k : PySem.W.keepIn K (.ref f) = true) : At K mg "wrong_share" s_wrong_share ["one", "other", "f", "x", "k"] := ⟨f, _, fun_mk l c k, PySem.W.mg_of X G a, (fun_mk l c k).binds fun _ _ _ _ _ _ us hl => match us, hl with | [_, _, _, _, _], _ => rfl⟩
theorem at_silent_share {f : Addr} {oc kV dc pm cd ct : Value} {od an : Option Addr} {sl : Array (Option Value)} (X : K.In h) (G : h.Ns mainGlobals mg) (a : PySem.W.nsIn K mainGlobals "silent_share" = some (some (.ref f))) (l : K.lookup f = some ⟨oc, od, .func (PySem.W.fnOf "silent_share" "silent_share" (defArgs s_silent_share) (defBody s_silent_share) (defScope s_silent_share) .none kV dc pm an cd ct), sl⟩) (c : PySem.W.codeIn K cd "silent_share" = true) (k : PySem.W.keepIn K (.ref f) = true) : At K mg "silent_share" s_silent_share ["one", "other", "f", "x", "k"] := ⟨f, _, fun_mk l c k, PySem.W.mg_of X G a, (fun_mk l c k).binds fun _ _ _ _ _ _ us hl => match us, hl with | [_, _, _, _, _], _ => rfl⟩
theorem at__total {f : Addr} {oc kV dc pm cd ct : Value} {od an : Option Addr} {sl : Array (Option Value)} (X : K.In h) (G : h.Ns mainGlobals mg) (a : PySem.W.nsIn K mainGlobals "_total" = some (some (.ref f))) (l : K.lookup f = some ⟨oc, od, .func (PySem.W.fnOf "_total" "_total" (defArgs s__total) (defBody s__total) (defScope s__total) .none kV dc pm an cd ct), sl⟩) (c : PySem.W.codeIn K cd "_total" = true) (k : PySem.W.keepIn K (.ref f) = true) : At K mg "_total" s__total ["shares"] := ⟨f, _, fun_mk l c k, PySem.W.mg_of X G a, (fun_mk l c k).binds fun _ _ _ _ _ _ us hl => match us, hl with | [_], _ => rfl⟩
theorem at__law_draws {f : Addr} {oc kV dc pm cd ct : Value} {od an : Option Addr} {sl : Array (Option Value)} (X : K.In h) (G : h.Ns mainGlobals mg) (a : PySem.W.nsIn K mainGlobals "_law_draws" = some (some (.ref f))) (l : K.lookup f = some ⟨oc, od, .func (PySem.W.fnOf "_law_draws" "_law_draws" (defArgs s__law_draws) (defBody s__law_draws) (defScope s__law_draws) .none kV dc pm an cd ct), sl⟩) (c : PySem.W.codeIn K cd "_law_draws" = true) (k : PySem.W.keepIn K (.ref f) = true) : At K mg "_law_draws" s__law_draws ["script", "many"] := ⟨f, _, fun_mk l c k, PySem.W.mg_of X G a, (fun_mk l c k).binds fun _ _ _ _ _ _ us hl => match us, hl with | [_, _], _ => rfl⟩
theorem at__law_take {f : Addr} {oc kV dc pm cd ct : Value} {od an : Option Addr} {sl : Array (Option Value)} (X : K.In h) (G : h.Ns mainGlobals mg) (a : PySem.W.nsIn K mainGlobals "_law_take" = some (some (.ref f))) (l : K.lookup f = some ⟨oc, od, .func (PySem.W.fnOf "_law_take" "_law_take" (defArgs s__law_take) (defBody s__law_take) (defScope s__law_take) .none kV dc pm an cd ct), sl⟩) (c : PySem.W.codeIn K cd "_law_take" = true) (k : PySem.W.keepIn K (.ref f) = true) : At K mg "_law_take" s__law_take ["hand", "many"] := ⟨f, _, fun_mk l c k, PySem.W.mg_of X G a, (fun_mk l c k).binds fun _ _ _ _ _ _ us hl => match us, hl with | [_, _], _ => rfl⟩
theorem at__law_cyclic {f : Addr} {oc kV dc pm cd ct : Value} {od an : Option Addr} {sl : Array (Option Value)} (X : K.In h) (G : h.Ns mainGlobals mg) (a : PySem.W.nsIn K mainGlobals "_law_cyclic" = some (some (.ref f))) (l : K.lookup f = some ⟨oc, od, .func (PySem.W.fnOf "_law_cyclic" "_law_cyclic" (defArgs s__law_cyclic) (defBody s__law_cyclic) (defScope s__law_cyclic) .none kV dc pm an cd ct), sl⟩) (c : PySem.W.codeIn K cd "_law_cyclic" = true) (k : PySem.W.keepIn K (.ref f) = true) : At K mg "_law_cyclic" s__law_cyclic ["n"] := ⟨f, _, fun_mk l c k, PySem.W.mg_of X G a, (fun_mk l c k).binds fun _ _ _ _ _ _ us hl => match us, hl with | [_], _ => rfl⟩
theorem at__law_both {f : Addr} {oc kV dc pm cd ct : Value} {od an : Option Addr} {sl : Array (Option Value)} (X : K.In h) (G : h.Ns mainGlobals mg) (a : PySem.W.nsIn K mainGlobals "_law_both" = some (some (.ref f))) (l : K.lookup f = some ⟨oc, od, .func (PySem.W.fnOf "_law_both" "_law_both" (defArgs s__law_both) (defBody s__law_both) (defScope s__law_both) .none kV dc pm an cd ct), sl⟩) (c : PySem.W.codeIn K cd "_law_both" = true) (k : PySem.W.keepIn K (.ref f) = true) : At K mg "_law_both" s__law_both ["one", "other"] := ⟨f, _, fun_mk l c k, PySem.W.mg_of X G a, (fun_mk l c k).binds fun _ _ _ _ _ _ us hl => match us, hl with | [_, _], _ => rfl⟩
theorem at__law_dihedral {f : Addr} {oc kV dc pm cd ct : Value} {od an : Option Addr} {sl : Array (Option Value)} (X : K.In h) (G : h.Ns mainGlobals mg) (a : PySem.W.nsIn K mainGlobals "_law_dihedral" = some (some (.ref f))) (l : K.lookup f = some ⟨oc, od, .func (PySem.W.fnOf "_law_dihedral" "_law_dihedral" (defArgs s__law_dihedral) (defBody s__law_dihedral) (defScope s__law_dihedral) .none kV dc pm an cd ct), sl⟩) (c : PySem.W.codeIn K cd "_law_dihedral" = true) (k : PySem.W.keepIn K (.ref f) = true) : At K mg "_law_dihedral" s__law_dihedral ["n"] := ⟨f, _, fun_mk l c k, PySem.W.mg_of X G a, (fun_mk l c k).binds fun _ _ _ _ _ _ us hl => match us, hl with | [_], _ => rfl⟩
theorem at__law_quaternion {f : Addr} {oc kV dc pm cd ct : Value} {od an : Option Addr} {sl : Array (Option Value)} (X : K.In h) (G : h.Ns mainGlobals mg) (a : PySem.W.nsIn K mainGlobals "_law_quaternion" = some (some (.ref f))) (l : K.lookup f = some ⟨oc, od, .func (PySem.W.fnOf "_law_quaternion" "_law_quaternion" (defArgs s__law_quaternion) (defBody s__law_quaternion) (defScope s__law_quaternion) .none kV dc pm an cd ct), sl⟩) (c : PySem.W.codeIn K cd "_law_quaternion" = true) (k : PySem.W.keepIn K (.ref f) = true) : At K mg "_law_quaternion" s__law_quaternion [] := ⟨f, _, fun_mk l c k, PySem.W.mg_of X G a, (fun_mk l c k).binds fun _ _ _ _ _ _ us hl => match us, hl with | [], _ => rfl⟩
theorem at__law_renamed {f : Addr} {oc kV dc pm cd ct : Value} {od an : Option Addr} {sl : Array (Option Value)} (X : K.In h) (G : h.Ns mainGlobals mg) (a : PySem.W.nsIn K mainGlobals "_law_renamed" = some (some (.ref f))) (l : K.lookup f = some ⟨oc, od, .func (PySem.W.fnOf "_law_renamed" "_law_renamed" (defArgs s__law_renamed) (defBody s__law_renamed) (defScope s__law_renamed) .none kV dc pm an cd ct), sl⟩) (c : PySem.W.codeIn K cd "_law_renamed" = true) (k : PySem.W.keepIn K (.ref f) = true) : At K mg "_law_renamed" s__law_renamed ["table", "order"] := ⟨f, _, fun_mk l c k, PySem.W.mg_of X G a, (fun_mk l c k).binds fun _ _ _ _ _ _ us hl => match us, hl with | [_, _], _ => rfl⟩
theorem at__law_order {f : Addr} {oc kV dc pm cd ct : Value} {od an : Option Addr} {sl : Array (Option Value)} (X : K.In h) (G : h.Ns mainGlobals mg) (a : PySem.W.nsIn K mainGlobals "_law_order" = some (some (.ref f))) (l : K.lookup f = some ⟨oc, od, .func (PySem.W.fnOf "_law_order" "_law_order" (defArgs s__law_order) (defBody s__law_order) (defScope s__law_order) .none kV dc pm an cd ct), sl⟩) (c : PySem.W.codeIn K cd "_law_order" = true) (k : PySem.W.keepIn K (.ref f) = true) : At K mg "_law_order" s__law_order ["hand", "n"] := ⟨f, _, fun_mk l c k, PySem.W.mg_of X G a, (fun_mk l c k).binds fun _ _ _ _ _ _ us hl => match us, hl with | [_, _], _ => rfl⟩
theorem at__law_neutral {f : Addr} {oc kV dc pm cd ct : Value} {od an : Option Addr} {sl : Array (Option Value)} (X : K.In h) (G : h.Ns mainGlobals mg) (a : PySem.W.nsIn K mainGlobals "_law_neutral" = some (some (.ref f))) (l : K.lookup f = some ⟨oc, od, .func (PySem.W.fnOf "_law_neutral" "_law_neutral" (defArgs s__law_neutral) (defBody s__law_neutral) (defScope s__law_neutral) .none kV dc pm an cd ct), sl⟩) (c : PySem.W.codeIn K cd "_law_neutral" = true) (k : PySem.W.keepIn K (.ref f) = true) : At K mg "_law_neutral" s__law_neutral ["table"] := ⟨f, _, fun_mk l c k, PySem.W.mg_of X G a, (fun_mk l c k).binds fun _ _ _ _ _ _ us hl => match us, hl with | [_], _ => rfl⟩
theorem at__law_inverses {f : Addr} {oc kV dc pm cd ct : Value} {od an : Option Addr} {sl : Array (Option Value)} (X : K.In h) (G : h.Ns mainGlobals mg) (a : PySem.W.nsIn K mainGlobals "_law_inverses" = some (some (.ref f))) (l : K.lookup f = some ⟨oc, od, .func (PySem.W.fnOf "_law_inverses" "_law_inverses" (defArgs s__law_inverses) (defBody s__law_inverses) (defScope s__law_inverses) .none kV dc pm an cd ct), sl⟩) (c : PySem.W.codeIn K cd "_law_inverses" = true) (k : PySem.W.keepIn K (.ref f) = true) : At K mg "_law_inverses" s__law_inverses ["table"] := ⟨f, _, fun_mk l c k, PySem.W.mg_of X G a, (fun_mk l c k).binds fun _ _ _ _ _ _ us hl => match us, hl with | [_], _ => rfl⟩
theorem at__law_group {f : Addr} {oc kV dc pm cd ct : Value} {od an : Option Addr} {sl : Array (Option Value)} (X : K.In h) (G : h.Ns mainGlobals mg) (a : PySem.W.nsIn K mainGlobals "_law_group" = some (some (.ref f))) (l : K.lookup f = some ⟨oc, od, .func (PySem.W.fnOf "_law_group" "_law_group" (defArgs s__law_group) (defBody s__law_group) (defScope s__law_group) .none kV dc pm an cd ct), sl⟩) (c : PySem.W.codeIn K cd "_law_group" = true) (k : PySem.W.keepIn K (.ref f) = true) : At K mg "_law_group" s__law_group ["hand", "sizes"] := ⟨f, _, fun_mk l c k, PySem.W.mg_of X G a, (fun_mk l c k).binds fun _ _ _ _ _ _ us hl => match us, hl with | [_, _], _ => rfl⟩
theorem at__law_generated {f : Addr} {oc kV dc pm cd ct : Value} {od an : Option Addr} {sl : Array (Option Value)} (X : K.In h) (G : h.Ns mainGlobals mg) (a : PySem.W.nsIn K mainGlobals "_law_generated" = some (some (.ref f))) (l : K.lookup f = some ⟨oc, od, .func (PySem.W.fnOf "_law_generated" "_law_generated" (defArgs s__law_generated) (defBody s__law_generated) (defScope s__law_generated) .none kV dc pm an cd ct), sl⟩) (c : PySem.W.codeIn K cd "_law_generated" = true) (k : PySem.W.keepIn K (.ref f) = true) : At K mg "_law_generated" s__law_generated ["table", "gens"] := ⟨f, _, fun_mk l c k, PySem.W.mg_of X G a, (fun_mk l c k).binds fun _ _ _ _ _ _ us hl => match us, hl with | [_, _], _ => rfl⟩
theorem at__law_generators {f : Addr} {oc kV dc pm cd ct : Value} {od an : Option Addr} {sl : Array (Option Value)} (X : K.In h) (G : h.Ns mainGlobals mg) (a : PySem.W.nsIn K mainGlobals "_law_generators" = some (some (.ref f))) (l : K.lookup f = some ⟨oc, od, .func (PySem.W.fnOf "_law_generators" "_law_generators" (defArgs s__law_generators) (defBody s__law_generators) (defScope s__law_generators) .none kV dc pm an cd ct), sl⟩) (c : PySem.W.codeIn K cd "_law_generators" = true) (k : PySem.W.keepIn K (.ref f) = true) : At K mg "_law_generators" s__law_generators ["table"] := ⟨f, _, fun_mk l c k, PySem.W.mg_of X G a, (fun_mk l c k).binds fun _ _ _ _ _ _ us hl => match us, hl with | [_], _ => rfl⟩
theorem at__law_extended {f : Addr} {oc kV dc pm cd ct : Value} {od an : Option Addr} {sl : Array (Option Value)} (X : K.In h) (G : h.Ns mainGlobals mg) (a : PySem.W.nsIn K mainGlobals "_law_extended" = some (some (.ref f))) (l : K.lookup f = some ⟨oc, od, .func (PySem.W.fnOf "_law_extended" "_law_extended" (defArgs s__law_extended) (defBody s__law_extended) (defScope s__law_extended) .none kV dc pm an cd ct), sl⟩) (c : PySem.W.codeIn K cd "_law_extended" = true) (k : PySem.W.keepIn K (.ref f) = true) : At K mg "_law_extended" s__law_extended ["one", "other", "gens", "values"] := ⟨f, _, fun_mk l c k, PySem.W.mg_of X G a, (fun_mk l c k).binds fun _ _ _ _ _ _ us hl => match us, hl with | [_, _, _, _], _ => rfl⟩
theorem at__law_hom {f : Addr} {oc kV dc pm cd ct : Value} {od an : Option Addr} {sl : Array (Option Value)} (X : K.In h) (G : h.Ns mainGlobals mg) (a : PySem.W.nsIn K mainGlobals "_law_hom" = some (some (.ref f))) (l : K.lookup f = some ⟨oc, od, .func (PySem.W.fnOf "_law_hom" "_law_hom" (defArgs s__law_hom) (defBody s__law_hom) (defScope s__law_hom) .none kV dc pm an cd ct), sl⟩) (c : PySem.W.codeIn K cd "_law_hom" = true) (k : PySem.W.keepIn K (.ref f) = true) : At K mg "_law_hom" s__law_hom ["hand", "one", "other"] := ⟨f, _, fun_mk l c k, PySem.W.mg_of X G a, (fun_mk l c k).binds fun _ _ _ _ _ _ us hl => match us, hl with | [_, _, _], _ => rfl⟩
theorem at__law_spoilt {f : Addr} {oc kV dc pm cd ct : Value} {od an : Option Addr} {sl : Array (Option Value)} (X : K.In h) (G : h.Ns mainGlobals mg) (a : PySem.W.nsIn K mainGlobals "_law_spoilt" = some (some (.ref f))) (l : K.lookup f = some ⟨oc, od, .func (PySem.W.fnOf "_law_spoilt" "_law_spoilt" (defArgs s__law_spoilt) (defBody s__law_spoilt) (defScope s__law_spoilt) .none kV dc pm an cd ct), sl⟩) (c : PySem.W.codeIn K cd "_law_spoilt" = true) (k : PySem.W.keepIn K (.ref f) = true) : At K mg "_law_spoilt" s__law_spoilt ["hand", "f", "other", "second", "many"] := ⟨f, _, fun_mk l c k, PySem.W.mg_of X G a, (fun_mk l c k).binds fun _ _ _ _ _ _ us hl => match us, hl with | [_, _, _, _, _], _ => rfl⟩
theorem at__law_votes {f : Addr} {oc kV dc pm cd ct : Value} {od an : Option Addr} {sl : Array (Option Value)} (X : K.In h) (G : h.Ns mainGlobals mg) (a : PySem.W.nsIn K mainGlobals "_law_votes" = some (some (.ref f))) (l : K.lookup f = some ⟨oc, od, .func (PySem.W.fnOf "_law_votes" "_law_votes" (defArgs s__law_votes) (defBody s__law_votes) (defScope s__law_votes) .none kV dc pm an cd ct), sl⟩) (c : PySem.W.codeIn K cd "_law_votes" = true) (k : PySem.W.keepIn K (.ref f) = true) : At K mg "_law_votes" s__law_votes ["one", "other", "f", "x"] := ⟨f, _, fun_mk l c k, PySem.W.mg_of X G a, (fun_mk l c k).binds fun _ _ _ _ _ _ us hl => match us, hl with | [_, _, _, _], _ => rfl⟩
theorem at__law_broken {f : Addr} {oc kV dc pm cd ct : Value} {od an : Option Addr} {sl : Array (Option Value)} (X : K.In h) (G : h.Ns mainGlobals mg) (a : PySem.W.nsIn K mainGlobals "_law_broken" = some (some (.ref f))) (l : K.lookup f = some ⟨oc, od, .func (PySem.W.fnOf "_law_broken" "_law_broken" (defArgs s__law_broken) (defBody s__law_broken) (defScope s__law_broken) .none kV dc pm an cd ct), sl⟩) (c : PySem.W.codeIn K cd "_law_broken" = true) (k : PySem.W.keepIn K (.ref f) = true) : At K mg "_law_broken" s__law_broken ["one", "other", "f"] := ⟨f, _, fun_mk l c k, PySem.W.mg_of X G a, (fun_mk l c k).binds fun _ _ _ _ _ _ us hl => match us, hl with | [_, _, _], _ => rfl⟩
theorem at__law_fraction {f : Addr} {oc kV dc pm cd ct : Value} {od an : Option Addr} {sl : Array (Option Value)} (X : K.In h) (G : h.Ns mainGlobals mg) (a : PySem.W.nsIn K mainGlobals "_law_fraction" = some (some (.ref f))) (l : K.lookup f = some ⟨oc, od, .func (PySem.W.fnOf "_law_fraction" "_law_fraction" (defArgs s__law_fraction) (defBody s__law_fraction) (defScope s__law_fraction) .none kV dc pm an cd ct), sl⟩) (c : PySem.W.codeIn K cd "_law_fraction" = true) (k : PySem.W.keepIn K (.ref f) = true) : At K mg "_law_fraction" s__law_fraction ["top", "bottom"] := ⟨f, _, fun_mk l c k, PySem.W.mg_of X G a, (fun_mk l c k).binds fun _ _ _ _ _ _ us hl => match us, hl with | [_, _], _ => rfl⟩
theorem at__law_is_share {f : Addr} {oc kV dc pm cd ct : Value} {od an : Option Addr} {sl : Array (Option Value)} (X : K.In h) (G : h.Ns mainGlobals mg) (a : PySem.W.nsIn K mainGlobals "_law_is_share" = some (some (.ref f))) (l : K.lookup f = some ⟨oc, od, .func (PySem.W.fnOf "_law_is_share" "_law_is_share" (defArgs s__law_is_share) (defBody s__law_is_share) (defScope s__law_is_share) .none kV dc pm an cd ct), sl⟩) (c : PySem.W.codeIn K cd "_law_is_share" = true) (k : PySem.W.keepIn K (.ref f) = true) : At K mg "_law_is_share" s__law_is_share ["share", "top", "bottom"] := ⟨f, _, fun_mk l c k, PySem.W.mg_of X G a, (fun_mk l c k).binds fun _ _ _ _ _ _ us hl => match us, hl with | [_, _, _], _ => rfl⟩
end

theorem all_mk {l : PySem.W.OpenLaw} {w : World} {K : PySem.W.Frag} {h : Heap} {mg : Str → Option Value} {fa f : Addr} {C S : Addr} {tk tjs : Tok} {oc kV dc pm cd ct : Value} {od an : Option Addr} {sl : Array (Option Value)} (X : K.In h) (G : h.Ns mainGlobals mg) (hfa : mg "law" = some (.ref fa))
    (aC : PySem.W.nsIn K mainGlobals "Group" = some (some (.ref C)))
    (nM : PySem.W.nsIn K mainGlobals "MOST_MEMBERS" = some (some (.int 48 tk)))
    (pg : PySem.W.plainGet K C Str.empty = true)
    (hd : PySem.W.hasDictIn K C = true)
    (po : PySem.W.plainOver K C = true)
    (sa : PySem.W.findIn K (.ref C) "__setattr__" = some (some (.builtin "object.__setattr__")))
    (ztable : PySem.W.findIn K (.ref C) "table" = some none)
    (zsize : PySem.W.findIn K (.ref C) "size" = some none)
    (zneutral : PySem.W.findIn K (.ref C) "neutral" = some none)
    (zinverses : PySem.W.findIn K (.ref C) "_inverses" = some none)
    (iA : PySem.W.findIn K (.ref C) "__class__" = some (some (.builtin "object.__class__")))
    (iB : PySem.W.specialIn K (.builtin "object.__class__") "__get__" = some (some (.builtin "getset_descriptor.__get__")))
    (iC : PySem.W.takesIn K (.builtin "object.__class__") = some true)
    (iD : PySem.W.mroIn K C (.type "object") = some true)
    (kC : PySem.W.isClsIn K C = true)
    (kD : PySem.W.typeIn K (.ref C) = some (.type "type"))
    (nne : PySem.W.findIn K (.ref C) "__ne__" = some (some (.builtin "object.__ne__")))
    (saC : PySem.W.nsIn K mainGlobals "Share" = some (some (.ref S)))
    (spg : PySem.W.plainGet K S Str.empty = true)
    (shd : PySem.W.hasDictIn K S = true)
    (spo : PySem.W.plainOver K S = true)
    (ssa : PySem.W.findIn K (.ref S) "__setattr__" = some (some (.builtin "object.__setattr__")))
    (sztop : PySem.W.findIn K (.ref S) "top" = some none)
    (szbottom : PySem.W.findIn K (.ref S) "bottom" = some none)
    (mjs : PySem.W.nsIn K mainGlobals "_MOST_SAMPLES" = some (some (.int 15 tjs)))
    (ggcd : PySem.W.nsIn K mainGlobals "gcd" = some (some (.builtin "math.gcd")))
    (sA : PySem.W.findIn K (.ref S) "__class__" = some (some (.builtin "object.__class__")))
    (sD : PySem.W.mroIn K S (.type "object") = some true)
    (ssf : PySem.W.selfFirst K S = true)
    (ssi : PySem.W.subIn K (.ref S) (.type "int") = some false)
    (skC : PySem.W.isClsIn K S = true)
    (skD : PySem.W.typeIn K (.ref S) = some (.type "type"))
    (n_list : PySem.W.nsIn K mainGlobals "list" = some none)
    (n_len : PySem.W.nsIn K mainGlobals "len" = some none)
    (n_abs : PySem.W.nsIn K mainGlobals "abs" = some none)
    (n_int : PySem.W.nsIn K mainGlobals "int" = some none)
    (n_max : PySem.W.nsIn K mainGlobals "max" = some none)
    (n_min : PySem.W.nsIn K mainGlobals "min" = some none)
    (n_range : PySem.W.nsIn K mainGlobals "range" = some none)
    (n_tuple : PySem.W.nsIn K mainGlobals "tuple" = some none)
    (n_isinstance : PySem.W.nsIn K mainGlobals "isinstance" = some none)
    (n_bool : PySem.W.nsIn K mainGlobals "bool" = some none)
    (n_all : PySem.W.nsIn K mainGlobals "all" = some none)
    (n_any : PySem.W.nsIn K mainGlobals "any" = some none)
    (n_sum : PySem.W.nsIn K mainGlobals "sum" = some none)
    (n_zip : PySem.W.nsIn K mainGlobals "zip" = some none)
    (n_repr : PySem.W.nsIn K mainGlobals "repr" = some none)
    (n_enumerate : PySem.W.nsIn K mainGlobals "enumerate" = some none)
    (mI : ∃ f fd, Fun K "__init__" "Group.__init__" s_Group___init__ f fd ∧ Mk K C f ∧ Binds K fd ["self", "table"] [] ∧ KBn K fd ["self", "table"] 1 ["table"] (fun us ws => us ++ ws) (fun vs zs => vs ++ zs))
    (mV : ∃ f fd, Fun K "inverse" "Group.inverse" s_Group_inverse f fd ∧ Meth K C "inverse" f ∧ Binds K fd ["self", "x"] [])
    (sI : ∃ f fd, Fun K "__init__" "Share.__init__" s_Share___init__ f fd ∧ Mk K S f ∧ Binds K fd ["self", "top", "bottom"] [] ∧ KBn K fd ["self", "top", "bottom"] 1 ["top", "bottom"] (fun us ws => us ++ ws) (fun vs zs => vs ++ zs))
    (sO : ∃ p f fd, Fun K "of" "Share.of" s_Share_of f fd ∧ ClX.CRead K S (.type "type") ∧ ClX.CMet K S (.type "type") "of" p f ∧ Binds K fd ["cls", "part", "whole"] [])
    (sPl : ∃ f fd, Fun K "__add__" "Share.__add__" s_Share___add__ f fd ∧ Meth K S "__add__" f ∧ Binds K fd ["self", "other"] [])
    (sMi : ∃ f fd, Fun K "__sub__" "Share.__sub__" s_Share___sub__ f fd ∧ Meth K S "__sub__" f ∧ Binds K fd ["self", "other"] [])
    (sRm : ∃ f fd, Fun K "__rsub__" "Share.__rsub__" s_Share___rsub__ f fd ∧ Meth K S "__rsub__" f ∧ Binds K fd ["self", "other"] [])
    (a_is_whole : At K mg "is_whole" s_is_whole ["value"])
    (a_is_within : At K mg "is_within" s_is_within ["value", "least", "most"])
    (a_is_sequence : At K mg "is_sequence" s_is_sequence ["value"])
    (a_is_number_row : At K mg "is_number_row" s_is_number_row ["value", "length", "bound"])
    (a_is_member : At K mg "is_member" s_is_member ["group", "value"])
    (a_is_member_row : At K mg "is_member_row" s_is_member_row ["group", "value", "length"])
    (a_is_map : At K mg "is_map" s_is_map ["one", "other", "value"])
    (a_require_member : At K mg "require_member" s_require_member ["group", "value"])
    (a_require_map : At K mg "require_map" s_require_map ["one", "other", "value"])
    (a__is_row : At K mg "_is_row" s__is_row ["row", "size"])
    (a__judged_rows : At K mg "_judged_rows" s__judged_rows ["table"])
    (a__judged_neutral : At K mg "_judged_neutral" s__judged_neutral ["table"])
    (a__judged_inverses : At K mg "_judged_inverses" s__judged_inverses ["table", "neutral"])
    (a__judge_products : At K mg "_judge_products" s__judge_products ["table"])
    (a__inverted : At K mg "_inverted" s__inverted ["other", "f"])
    (a__counted : At K mg "_counted" s__counted ["one", "other", "f", "inverses", "x"])
    (a_voted : At K mg "voted" s_voted ["one", "other", "f"])
    (a_votes : At K mg "votes" s_votes ["one", "other", "f", "x"])
    (a_wrong_places : At K mg "wrong_places" s_wrong_places ["f", "g"])
    (a_first_broken : At K mg "first_broken" s_first_broken ["one", "other", "f"])
    (a_is_hom : At K mg "is_hom" s_is_hom ["one", "other", "f"])
    (a_close_hom : At K mg "close_hom" s_close_hom ["one", "other", "f"])
    (a__as_share : At K mg "_as_share" s__as_share ["value"])
    (a__majority_share : At K mg "_majority_share" s__majority_share ["part", "whole", "k"])
    (a__judged_shares : At K mg "_judged_shares" s__judged_shares ["one", "other", "f", "x", "k"])
    (a_right_share : At K mg "right_share" s_right_share ["one", "other", "f", "x", "k"])
    (a_wrong_share : At K mg "wrong_share" s_wrong_share ["one", "other", "f", "x", "k"])
    (a_silent_share : At K mg "silent_share" s_silent_share ["one", "other", "f", "x", "k"])
    (a__total : At K mg "_total" s__total ["shares"])
    (a__law_draws : At K mg "_law_draws" s__law_draws ["script", "many"])
    (a__law_take : At K mg "_law_take" s__law_take ["hand", "many"])
    (a__law_cyclic : At K mg "_law_cyclic" s__law_cyclic ["n"])
    (a__law_both : At K mg "_law_both" s__law_both ["one", "other"])
    (a__law_dihedral : At K mg "_law_dihedral" s__law_dihedral ["n"])
    (a__law_quaternion : At K mg "_law_quaternion" s__law_quaternion [])
    (a__law_renamed : At K mg "_law_renamed" s__law_renamed ["table", "order"])
    (a__law_order : At K mg "_law_order" s__law_order ["hand", "n"])
    (a__law_neutral : At K mg "_law_neutral" s__law_neutral ["table"])
    (a__law_inverses : At K mg "_law_inverses" s__law_inverses ["table"])
    (a__law_group : At K mg "_law_group" s__law_group ["hand", "sizes"])
    (a__law_generated : At K mg "_law_generated" s__law_generated ["table", "gens"])
    (a__law_generators : At K mg "_law_generators" s__law_generators ["table"])
    (a__law_extended : At K mg "_law_extended" s__law_extended ["one", "other", "gens", "values"])
    (a__law_hom : At K mg "_law_hom" s__law_hom ["hand", "one", "other"])
    (a__law_spoilt : At K mg "_law_spoilt" s__law_spoilt ["hand", "f", "other", "second", "many"])
    (a__law_votes : At K mg "_law_votes" s__law_votes ["one", "other", "f", "x"])
    (a__law_broken : At K mg "_law_broken" s__law_broken ["one", "other", "f"])
    (a__law_fraction : At K mg "_law_fraction" s__law_fraction ["top", "bottom"])
    (a__law_is_share : At K mg "_law_is_share" s__law_is_share ["share", "top", "bottom"])
    (aL : PySem.W.nsIn K mainGlobals "law" = some (some (.ref f))) (lL : K.lookup f = some ⟨oc, od, .func (PySem.W.fnOf "law" "law" (defArgs s_law) (defBody s_law) (defScope s_law) .none kV dc pm an cd ct), sl⟩) (cL : PySem.W.codeIn K cd "law" = true) (kL : PySem.W.keepIn K (.ref f) = true) :
    ∃ fd : FuncData, (∀ (s : Shared) (v : Value), BindsTo s fd ⟨[v], []⟩ [("script", v)]) ∧ ∀ base : Heap, K.In base → base.Ns mainGlobals mg → FnOk l.prog w K mg base CX0 12 fa fd ["script"] (spBody K) := by
  have e := hfa.symm.trans (PySem.W.mg_of X G aL)
  cases e
  have n_list := PySem.W.mg_none_of X G n_list
  have n_len := PySem.W.mg_none_of X G n_len
  have n_abs := PySem.W.mg_none_of X G n_abs
  have n_int := PySem.W.mg_none_of X G n_int
  have n_max := PySem.W.mg_none_of X G n_max
  have n_min := PySem.W.mg_none_of X G n_min
  have n_range := PySem.W.mg_none_of X G n_range
  have n_tuple := PySem.W.mg_none_of X G n_tuple
  have n_isinstance := PySem.W.mg_none_of X G n_isinstance
  have n_bool := PySem.W.mg_none_of X G n_bool
  have n_all := PySem.W.mg_none_of X G n_all
  have n_any := PySem.W.mg_none_of X G n_any
  have n_sum := PySem.W.mg_none_of X G n_sum
  have n_zip := PySem.W.mg_none_of X G n_zip
  have n_repr := PySem.W.mg_none_of X G n_repr
  have n_enumerate := PySem.W.mg_none_of X G n_enumerate
  have T : Txt mg := ⟨n_list, n_len, n_abs, n_int, n_max, n_min, n_range, n_tuple, n_isinstance, n_bool, n_all, n_any, n_sum, n_zip, n_repr, n_enumerate⟩
  have TG : TxG K mg C := { T with cl := ⟨pg, hd, po, sa⟩, nT := ztable, nS := zsize, nN := zneutral, nI := zinverses, n_Group := PySem.W.mg_of X G aC, n_MOST_MEMBERS := ⟨_, PySem.W.mg_of X G nM⟩, iA := iA, iB := iB, iC := iC, iD := iD }
  have TE : TxE K mg C := { TG with kC := by rw [kD, show (PySem.W.clsIn K C).isSome = true from kC]; rfl, n_ne := nne }
  obtain ⟨fmi, fdmi, Fmi, Mmi, bmi⟩ := sMi
  have TJ : TxJ mg := { T with n__MOST_SAMPLES := ⟨_, PySem.W.mg_of X G mjs⟩ }
  have TH : TxSh K mg S := { T with n_gcd := PySem.W.mg_of X G ggcd, n_Share := PySem.W.mg_of X G saC, cs := ⟨spg, shd, spo, ssa⟩, sT := sztop, sB := szbottom, sA := sA, sD := sD, iB := iB, iC := iC }
  have TO : TxO K mg S := { TH with sf := ssf, ss := ⟨_, Mmi.1⟩, si := ssi, kC := by rw [skD, show (PySem.W.clsIn K S).isSome = true from skC]; rfl }
  have TL : TxL K mg C S := { TO with n_Group := PySem.W.mg_of X G aC }
  refine ⟨PySem.W.fnOf "law" "law" (defArgs s_law) (defBody s_law) (defScope s_law) .none kV dc pm an cd ct, fun s v => .of_eq rfl, fun base _ _ => ?_⟩
  obtain ⟨fI, fdI, FI, mkI, bI_, _⟩ := mI
  obtain ⟨fV, fdV, FV, mtV, bV⟩ := mV
  obtain ⟨fsi, fdsi, Fsi, Msi, bsi, _⟩ := sI
  obtain ⟨pO, fO, fdO, FO, rO, cO, bO⟩ := sO
  obtain ⟨fpl, fdpl, Fpl, Mpl, bpl⟩ := sPl
  obtain ⟨frm, fdrm, Frm, Mrm, brm⟩ := sRm
  have k_whole : Keep l.prog w K mg base 1 "is_whole" ["value"] spWhole := k_is_whole T a_is_whole
  have k_within : Keep l.prog w K mg base 2 "is_within" ["value", "least", "most"] spWithin := k_is_within T k_whole a_is_within
  have k_seq : Keep l.prog w K mg base 1 "is_sequence" ["value"] (spSeq K) := k_is_sequence T a_is_sequence
  have k_mem : Keep l.prog w K mg base 3 "is_member" ["group", "value"] (spMember K C (.bl true)) := k_is_member TG k_within a_is_member
  have k_req : Keep l.prog w K mg base 4 "require_member" ["group", "value"] (spMember K C .non) := k_require_member TG k_mem a_require_member
  have k_row : Keep l.prog w K mg base 3 "_is_row" ["row", "size"] (spRow K) := k__is_row T k_seq k_within a__is_row
  have J : Judges l.prog w K mg base := ⟨k__judged_rows TG k_seq k_row a__judged_rows, k__judged_neutral TG a__judged_neutral, k__judged_inverses TG a__judged_inverses, k__judge_products TG a__judge_products⟩
  have k_gp : KeepC0 l.prog w K mg base 5 C ["self", "table"] (spInit K C) := ⟨fI, fdI, mkI, ok_init TE J FI, bI_⟩
  have k_take : Keep l.prog w K mg base 1 "_law_take" ["hand", "many"] spTake := k__law_take T a__law_take
  have k_ren : Keep l.prog w K mg base 1 "_law_renamed" ["table", "order"] spGRen := k__law_renamed T a__law_renamed
  have k_ord := k__law_order T k_take a__law_order
  have k_cyc : Keep l.prog w K mg base 1 "_law_cyclic" ["n"] spGCyc := k__law_cyclic T a__law_cyclic
  have k_grp := k__law_group T ⟨k_take, k_cyc, k__law_both T a__law_both, k__law_dihedral T a__law_dihedral, k__law_quaternion T a__law_quaternion, k_ren, k_ord⟩ a__law_group
  have k_neu : Keep l.prog w K mg base 1 "_law_neutral" ["table"] spLNeuG := k__law_neutral T a__law_neutral
  have k_gen := k__law_generated T k_neu a__law_generated
  have k_gens := k__law_generators T k_gen a__law_generators
  have k_ext : Keep l.prog w K mg base 2 "_law_extended" ["one", "other", "gens", "values"] (spExt K) := k__law_extended T k_neu a__law_extended
  have k_hm := k__law_hom T k_take k_neu k_gens k_ext a__law_hom
  have k_spl : Keep l.prog w K mg base 2 "_law_spoilt" ["hand", "f", "other", "second", "many"] (spSpl K) := k__law_spoilt T k_take a__law_spoilt
  have k_nr := k_is_number_row T k_within a_is_number_row
  have k_mr := k_is_member_row TG k_nr a_is_member_row
  have k_mp := k_is_map TG k_mr a_is_map
  have k_reqmap := k_require_map TG k_mp a_require_map
  have m_inv : KeepM l.prog w K mg base 5 C "inverse" ["self", "x"] (spInv K C) := ⟨fV, fdV, ok_inverse TG k_req FV, mtV, bV⟩
  have k_linv := k__law_inverses T k_neu a__law_inverses
  have k_invd := k__inverted TG m_inv a__inverted
  have k_cnt : Keep l.prog w K mg base 1 "_counted" ["one", "other", "f", "inverses", "x"] (spCnt K C) := k__counted TG a__counted
  have k_vtd := k_voted TG k_reqmap k_invd k_cnt a_voted
  have k_vts := k_votes TG k_reqmap k_req k_invd k_cnt a_votes
  have k_wp : Keep l.prog w K mg base 1 "wrong_places" ["f", "g"] (spWrong K) := k_wrong_places T a_wrong_places
  have k_fb := k_first_broken TG k_reqmap a_first_broken
  have k_ih := k_is_hom TG k_fb a_is_hom
  have k_ch := k_close_hom TG k_vtd k_wp k_ih a_close_hom
  have k_shr : KeepC0 l.prog w K mg base 2 S ["self", "top", "bottom"] (spShI S) := ⟨fsi, fdsi, Msi, ok_shinit TH k_whole Fsi, bsi⟩
  have m_of : KeepCM l.prog w K mg base 4 S "of" ["cls", "part", "whole"] (spOf S) := ⟨pO, fO, fdO, rO, cO, ok_of TH k_shr FO, bO⟩
  have k_ms := k__majority_share TH m_of a__majority_share
  have k_js := k__judged_shares TJ TG k_ch k_req k_within k_vts k_ms a__judged_shares
  have k_as := k__as_share TO k_whole k_shr a__as_share
  have m_add : KeepM l.prog w K mg base 5 S "__add__" ["self", "other"] (spAdd S) := ⟨fpl, fdpl, ok_add TO k_as k_shr Fpl, Mpl, bpl⟩
  have m_sub : KeepM l.prog w K mg base 5 S "__sub__" ["self", "other"] (spSub S) := ⟨fmi, fdmi, ok_sub TO k_as k_shr Fmi, Mmi, bmi⟩
  have m_rsub : KeepM l.prog w K mg base 6 S "__rsub__" ["self", "other"] (spRsub S) := ⟨frm, fdrm, ok_rsub TO k_as m_sub Frm, Mrm, brm⟩
  have k_tot := k__total TO trivial k_shr m_add a__total
  have k_frac : Keep l.prog w K mg base 1 "_law_fraction" ["top", "bottom"] (spFrac K) := k__law_fraction T a__law_fraction
  exact ok_law TL TG ⟨k__law_draws T a__law_draws, k_take, k_grp, k_hm, k_spl, k_gp, k_right_share T k_js a_right_share, k_wrong_share TO k_js k_tot m_sub a_wrong_share, k_silent_share TO k_js k_tot m_rsub a_silent_share, k__law_votes T k_linv a__law_votes, k__law_broken T a__law_broken, k__law_is_share TH k_frac a__law_is_share⟩ (fun_mk lL cL kL)
theorem walk {l : PySem.W.OpenLaw} {q : Program} {loose : List Str} {XP : (Str → Option Value) → Heap → Prop} {YP : World → Heap → Prop} {d : DefRec} {K : Params → PySem.W.Frag} (hn : l.most = some 63) (hdf : d.params.defaults = []) (hY : ∀ (w : World) (h : Heap), YP w h → (K w.params).In h)
    (F : ∀ (w : World) (mg : Str → Option Value) (fa : Addr) (h : Heap), (K w.params).In h → h.Ns mainGlobals mg → mg d.name = some (.ref fa) → ∃ fd : FuncData, (∀ (s : Shared) (u : Value), BindsTo s fd ⟨[u], []⟩ [("script", u)]) ∧ ∀ base : Heap, (K w.params).In base → base.Ns mainGlobals mg → FnOk l.prog w (K w.params) mg base CX0 12 fa fd ["script"] (spBody (K w.params))) :
    PySem.W.WalkO q loose XP YP l.row.toRowW d [] (fun f vs => PySem.call f vs) :=
  Wk.walk_of (n := 63) (k := 12) (x := "script") (CX := fun _ => CX0) (sp := fun w => spBody (K w.params)) hn (by decide) hdf ⟨⟨rfl, by decide, by decide⟩, rfl⟩ hY F (fun _ _ a ns hl _ hS => ⟨a, ns, rfl, hS, hl, fun _ => rfl⟩) fun _ _ _ _ _ z => z
end Wk
end
set_option Elab.async false
set_option linter.all false
set_option maxRecDepth 100000
open PySem PySem.W PyProof.Rows
set_option maxRecDepth 100000 in
set_option maxHeartbeats 0 in
theorem PySem.Challenge.cw_sevenninths_k42_shares_add_and_rise_holds : PySem.Challenge.rw_sevenninths_k42_shares_add_and_rise.Holds := by
  w_on; o_law; k_head; (case hw => w_witness2)
  k_fill
  refine Wk.walk (l := PySem.Challenge.rw_sevenninths_k42_shares_add_and_rise) rfl rfl (fun w h Y => PySem.W.kIn_of Y) ?F
  case F =>
    intro w mg fa h KX G hmg
    refine' Wk.all_mk KX G hmg ?aC ?nM ?pg ?hd ?po ?sa ?ztable ?zsize ?zneutral ?zinverses ?iA ?iB ?iC ?iD ?kC ?kD ?nne ?saC ?spg ?shd ?spo ?ssa ?sztop ?szbottom ?mjs ?ggcd ?sA ?sD ?ssf ?ssi ?skC ?skD ?n_list ?n_len ?n_abs ?n_int ?n_max ?n_min ?n_range ?n_tuple ?n_isinstance ?n_bool ?n_all ?n_any ?n_sum ?n_zip ?n_repr ?n_enumerate ?mI ?mV ?sI ?sO ?sPl ?sMi ?sRm ?a_is_whole ?a_is_within ?a_is_sequence ?a_is_number_row ?a_is_member ?a_is_member_row ?a_is_map ?a_require_member ?a_require_map ?a__is_row ?a__judged_rows ?a__judged_neutral ?a__judged_inverses ?a__judge_products ?a__inverted ?a__counted ?a_voted ?a_votes ?a_wrong_places ?a_first_broken ?a_is_hom ?a_close_hom ?a__as_share ?a__majority_share ?a__judged_shares ?a_right_share ?a_wrong_share ?a_silent_share ?a__total ?a__law_draws ?a__law_take ?a__law_cyclic ?a__law_both ?a__law_dihedral ?a__law_quaternion ?a__law_renamed ?a__law_order ?a__law_neutral ?a__law_inverses ?a__law_group ?a__law_generated ?a__law_generators ?a__law_extended ?a__law_hom ?a__law_spoilt ?a__law_votes ?a__law_broken ?a__law_fraction ?a__law_is_share ?aL ?lL ?cL ?kL
    (case aC => k_is)
    (case nM => k_is)
    (case pg => k_is)
    (case hd => k_is)
    (case po => k_is)
    (case sa => k_is)
    (case ztable => k_is)
    (case zsize => k_is)
    (case zneutral => k_is)
    (case zinverses => k_is)
    (case iA => k_is)
    (case iB => k_is)
    (case iC => k_is)
    (case iD => k_is)
    (case kC => k_is)
    (case kD => k_is)
    (case nne => k_is)
    (case saC => k_is)
    (case spg => k_is)
    (case shd => k_is)
    (case spo => k_is)
    (case ssa => k_is)
    (case sztop => k_is)
    (case szbottom => k_is)
    (case mjs => k_is)
    (case ggcd => k_is)
    (case sA => k_is)
    (case sD => k_is)
    (case ssf => k_is)
    (case ssi => k_is)
    (case skC => k_is)
    (case skD => k_is)
    (case n_list => k_is)
    (case n_len => k_is)
    (case n_abs => k_is)
    (case n_int => k_is)
    (case n_max => k_is)
    (case n_min => k_is)
    (case n_range => k_is)
    (case n_tuple => k_is)
    (case n_isinstance => k_is)
    (case n_bool => k_is)
    (case n_all => k_is)
    (case n_any => k_is)
    (case n_sum => k_is)
    (case n_zip => k_is)
    (case n_repr => k_is)
    (case n_enumerate => k_is)
    (case mI => refine' Wk.en_Group___init__ ?x1 ?x2 ?x3 ?x4 ?x5 ?x6 ?x7; (case x1 => k_is); (case x2 => k_is); (case x3 => k_is); (case x4 => k_is); (case x5 => k_is); (case x6 => k_is); (case x7 => k_is))
    (case mV => refine' Wk.en_Group_inverse ?x1 ?x2 ?x3 ?x4 ?x5; (case x1 => k_is); (case x2 => k_is); (case x3 => k_is); (case x4 => k_is); (case x5 => k_is))
    (case sI => refine' Wk.en_Share___init__ ?x1 ?x2 ?x3 ?x4 ?x5 ?x6 ?x7; (case x1 => k_is); (case x2 => k_is); (case x3 => k_is); (case x4 => k_is); (case x5 => k_is); (case x6 => k_is); (case x7 => k_is))
    (case sO => refine' Wk.en_Share_of ?x1 ?x2 ?x3 ?x4 ?x5 ?x6 ?x7 ?x8; (case x1 => k_is); (case x2 => k_is); (case x3 => k_is); (case x4 => k_is); (case x5 => k_is); (case x6 => k_is); (case x7 => k_is); (case x8 => k_is))
    (case sPl => refine' Wk.en_Share___add__ ?x1 ?x2 ?x3 ?x4 ?x5; (case x1 => k_is); (case x2 => k_is); (case x3 => k_is); (case x4 => k_is); (case x5 => k_is))
    (case sMi => refine' Wk.en_Share___sub__ ?x1 ?x2 ?x3 ?x4 ?x5; (case x1 => k_is); (case x2 => k_is); (case x3 => k_is); (case x4 => k_is); (case x5 => k_is))
    (case sRm => refine' Wk.en_Share___rsub__ ?x1 ?x2 ?x3 ?x4 ?x5; (case x1 => k_is); (case x2 => k_is); (case x3 => k_is); (case x4 => k_is); (case x5 => k_is))
    (case a_is_whole => refine' Wk.at_is_whole KX G ?x1 ?x2 ?x3 ?x4; (case x1 => k_is); (case x2 => k_is); (case x3 => k_is); (case x4 => k_is))
    (case a_is_within => refine' Wk.at_is_within KX G ?x1 ?x2 ?x3 ?x4; (case x1 => k_is); (case x2 => k_is); (case x3 => k_is); (case x4 => k_is))
    (case a_is_sequence => refine' Wk.at_is_sequence KX G ?x1 ?x2 ?x3 ?x4; (case x1 => k_is); (case x2 => k_is); (case x3 => k_is); (case x4 => k_is))
    (case a_is_number_row => refine' Wk.at_is_number_row KX G ?x1 ?x2 ?x3 ?x4; (case x1 => k_is); (case x2 => k_is); (case x3 => k_is); (case x4 => k_is))
    (case a_is_member => refine' Wk.at_is_member KX G ?x1 ?x2 ?x3 ?x4; (case x1 => k_is); (case x2 => k_is); (case x3 => k_is); (case x4 => k_is))
    (case a_is_member_row => refine' Wk.at_is_member_row KX G ?x1 ?x2 ?x3 ?x4; (case x1 => k_is); (case x2 => k_is); (case x3 => k_is); (case x4 => k_is))
    (case a_is_map => refine' Wk.at_is_map KX G ?x1 ?x2 ?x3 ?x4; (case x1 => k_is); (case x2 => k_is); (case x3 => k_is); (case x4 => k_is))
    (case a_require_member => refine' Wk.at_require_member KX G ?x1 ?x2 ?x3 ?x4; (case x1 => k_is); (case x2 => k_is); (case x3 => k_is); (case x4 => k_is))
    (case a_require_map => refine' Wk.at_require_map KX G ?x1 ?x2 ?x3 ?x4; (case x1 => k_is); (case x2 => k_is); (case x3 => k_is); (case x4 => k_is))
    (case a__is_row => refine' Wk.at__is_row KX G ?x1 ?x2 ?x3 ?x4; (case x1 => k_is); (case x2 => k_is); (case x3 => k_is); (case x4 => k_is))
    (case a__judged_rows => refine' Wk.at__judged_rows KX G ?x1 ?x2 ?x3 ?x4; (case x1 => k_is); (case x2 => k_is); (case x3 => k_is); (case x4 => k_is))
    (case a__judged_neutral => refine' Wk.at__judged_neutral KX G ?x1 ?x2 ?x3 ?x4; (case x1 => k_is); (case x2 => k_is); (case x3 => k_is); (case x4 => k_is))
    (case a__judged_inverses => refine' Wk.at__judged_inverses KX G ?x1 ?x2 ?x3 ?x4; (case x1 => k_is); (case x2 => k_is); (case x3 => k_is); (case x4 => k_is))
    (case a__judge_products => refine' Wk.at__judge_products KX G ?x1 ?x2 ?x3 ?x4; (case x1 => k_is); (case x2 => k_is); (case x3 => k_is); (case x4 => k_is))
    (case a__inverted => refine' Wk.at__inverted KX G ?x1 ?x2 ?x3 ?x4; (case x1 => k_is); (case x2 => k_is); (case x3 => k_is); (case x4 => k_is))
    (case a__counted => refine' Wk.at__counted KX G ?x1 ?x2 ?x3 ?x4; (case x1 => k_is); (case x2 => k_is); (case x3 => k_is); (case x4 => k_is))
    (case a_voted => refine' Wk.at_voted KX G ?x1 ?x2 ?x3 ?x4; (case x1 => k_is); (case x2 => k_is); (case x3 => k_is); (case x4 => k_is))
    (case a_votes => refine' Wk.at_votes KX G ?x1 ?x2 ?x3 ?x4; (case x1 => k_is); (case x2 => k_is); (case x3 => k_is); (case x4 => k_is))
    (case a_wrong_places => refine' Wk.at_wrong_places KX G ?x1 ?x2 ?x3 ?x4; (case x1 => k_is); (case x2 => k_is); (case x3 => k_is); (case x4 => k_is))
    (case a_first_broken => refine' Wk.at_first_broken KX G ?x1 ?x2 ?x3 ?x4; (case x1 => k_is); (case x2 => k_is); (case x3 => k_is); (case x4 => k_is))
    (case a_is_hom => refine' Wk.at_is_hom KX G ?x1 ?x2 ?x3 ?x4; (case x1 => k_is); (case x2 => k_is); (case x3 => k_is); (case x4 => k_is))
    (case a_close_hom => refine' Wk.at_close_hom KX G ?x1 ?x2 ?x3 ?x4; (case x1 => k_is); (case x2 => k_is); (case x3 => k_is); (case x4 => k_is))
    (case a__as_share => refine' Wk.at__as_share KX G ?x1 ?x2 ?x3 ?x4; (case x1 => k_is); (case x2 => k_is); (case x3 => k_is); (case x4 => k_is))
    (case a__majority_share => refine' Wk.at__majority_share KX G ?x1 ?x2 ?x3 ?x4; (case x1 => k_is); (case x2 => k_is); (case x3 => k_is); (case x4 => k_is))
    (case a__judged_shares => refine' Wk.at__judged_shares KX G ?x1 ?x2 ?x3 ?x4; (case x1 => k_is); (case x2 => k_is); (case x3 => k_is); (case x4 => k_is))
    (case a_right_share => refine' Wk.at_right_share KX G ?x1 ?x2 ?x3 ?x4; (case x1 => k_is); (case x2 => k_is); (case x3 => k_is); (case x4 => k_is))
    (case a_wrong_share => refine' Wk.at_wrong_share KX G ?x1 ?x2 ?x3 ?x4; (case x1 => k_is); (case x2 => k_is); (case x3 => k_is); (case x4 => k_is))
    (case a_silent_share => refine' Wk.at_silent_share KX G ?x1 ?x2 ?x3 ?x4; (case x1 => k_is); (case x2 => k_is); (case x3 => k_is); (case x4 => k_is))
    (case a__total => refine' Wk.at__total KX G ?x1 ?x2 ?x3 ?x4; (case x1 => k_is); (case x2 => k_is); (case x3 => k_is); (case x4 => k_is))
    (case a__law_draws => refine' Wk.at__law_draws KX G ?x1 ?x2 ?x3 ?x4; (case x1 => k_is); (case x2 => k_is); (case x3 => k_is); (case x4 => k_is))
    (case a__law_take => refine' Wk.at__law_take KX G ?x1 ?x2 ?x3 ?x4; (case x1 => k_is); (case x2 => k_is); (case x3 => k_is); (case x4 => k_is))
    (case a__law_cyclic => refine' Wk.at__law_cyclic KX G ?x1 ?x2 ?x3 ?x4; (case x1 => k_is); (case x2 => k_is); (case x3 => k_is); (case x4 => k_is))
    (case a__law_both => refine' Wk.at__law_both KX G ?x1 ?x2 ?x3 ?x4; (case x1 => k_is); (case x2 => k_is); (case x3 => k_is); (case x4 => k_is))
    (case a__law_dihedral => refine' Wk.at__law_dihedral KX G ?x1 ?x2 ?x3 ?x4; (case x1 => k_is); (case x2 => k_is); (case x3 => k_is); (case x4 => k_is))
    (case a__law_quaternion => refine' Wk.at__law_quaternion KX G ?x1 ?x2 ?x3 ?x4; (case x1 => k_is); (case x2 => k_is); (case x3 => k_is); (case x4 => k_is))
    (case a__law_renamed => refine' Wk.at__law_renamed KX G ?x1 ?x2 ?x3 ?x4; (case x1 => k_is); (case x2 => k_is); (case x3 => k_is); (case x4 => k_is))
    (case a__law_order => refine' Wk.at__law_order KX G ?x1 ?x2 ?x3 ?x4; (case x1 => k_is); (case x2 => k_is); (case x3 => k_is); (case x4 => k_is))
    (case a__law_neutral => refine' Wk.at__law_neutral KX G ?x1 ?x2 ?x3 ?x4; (case x1 => k_is); (case x2 => k_is); (case x3 => k_is); (case x4 => k_is))
    (case a__law_inverses => refine' Wk.at__law_inverses KX G ?x1 ?x2 ?x3 ?x4; (case x1 => k_is); (case x2 => k_is); (case x3 => k_is); (case x4 => k_is))
    (case a__law_group => refine' Wk.at__law_group KX G ?x1 ?x2 ?x3 ?x4; (case x1 => k_is); (case x2 => k_is); (case x3 => k_is); (case x4 => k_is))
    (case a__law_generated => refine' Wk.at__law_generated KX G ?x1 ?x2 ?x3 ?x4; (case x1 => k_is); (case x2 => k_is); (case x3 => k_is); (case x4 => k_is))
    (case a__law_generators => refine' Wk.at__law_generators KX G ?x1 ?x2 ?x3 ?x4; (case x1 => k_is); (case x2 => k_is); (case x3 => k_is); (case x4 => k_is))
    (case a__law_extended => refine' Wk.at__law_extended KX G ?x1 ?x2 ?x3 ?x4; (case x1 => k_is); (case x2 => k_is); (case x3 => k_is); (case x4 => k_is))
    (case a__law_hom => refine' Wk.at__law_hom KX G ?x1 ?x2 ?x3 ?x4; (case x1 => k_is); (case x2 => k_is); (case x3 => k_is); (case x4 => k_is))
    (case a__law_spoilt => refine' Wk.at__law_spoilt KX G ?x1 ?x2 ?x3 ?x4; (case x1 => k_is); (case x2 => k_is); (case x3 => k_is); (case x4 => k_is))
    (case a__law_votes => refine' Wk.at__law_votes KX G ?x1 ?x2 ?x3 ?x4; (case x1 => k_is); (case x2 => k_is); (case x3 => k_is); (case x4 => k_is))
    (case a__law_broken => refine' Wk.at__law_broken KX G ?x1 ?x2 ?x3 ?x4; (case x1 => k_is); (case x2 => k_is); (case x3 => k_is); (case x4 => k_is))
    (case a__law_fraction => refine' Wk.at__law_fraction KX G ?x1 ?x2 ?x3 ?x4; (case x1 => k_is); (case x2 => k_is); (case x3 => k_is); (case x4 => k_is))
    (case a__law_is_share => refine' Wk.at__law_is_share KX G ?x1 ?x2 ?x3 ?x4; (case x1 => k_is); (case x2 => k_is); (case x3 => k_is); (case x4 => k_is))
    (case aL => k_is)
    (case lL => k_is)
    (case cL => k_is)
    (case kL => k_is)
#print axioms PySem.Challenge.cw_sevenninths_k42_shares_add_and_rise_holds
