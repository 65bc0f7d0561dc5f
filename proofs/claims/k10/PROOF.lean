import PyProof.Rows.All
import Wide.All
import OpenK.AllK
import Wide.FinOn
import HandS.ForMost
import HandS.Wide
import HandS.Conv
import HandS.IsInst
import HandS.Deep
import HandS.Style
import HandS.Property
import HandS.Evl
import HandS.TupAny
import PySem.Challenge.RW_sevenninths_k10_renamed_groups
import KE.GoesEnum
import KE.GoesMore
import HandS.NamedTupSort
import HandS.SlotsOwn
import PyProof.InstNe
import HandS.Defaults
import HandS.Strs
import HandS.Dict
import HandS.Zip
import KE.DatumOrd
import HandS.Gcd
import HandS.WideBits
import HandS.ClsMeth
import HandS.MakeKwOnly
import HandS.ExcOwn
import HandS.ExcField
import HandS.ExcIs
import HandS.WordsExc
import KE.KExcIs
import HandS.ExcInit
import HandS.DictComp
import HandS.SetFor
import HandS.Exc
section
set_option Elab.async false
set_option linter.all false
set_option maxRecDepth 100000
/-! Short words of my own over the hand layer: defs by name (At, Keep), readings step by step, heaps but for one place. -/
namespace Wk
open PySem PySem.Spec PyProof.Rows L2

section
variable {P : Program} {w : World} {K : PySem.W.Frag} {mg : Str → Option Value} {base : Heap}
/-- the def x of the text, as the top left it -/
def At (K : PySem.W.Frag) (mg : Str → Option Value) (x : Str) (st : Stmt) (ps : List Str) : Prop :=
  ∃ f fd, Fun K x x st f fd ∧ mg x = some (.ref f) ∧ Binds K fd ps []
/-- x keeps sp and raises nothing -/
def Keep (P : Program) (w : World) (K : PySem.W.Frag) (mg : Str → Option Value) (base : Heap) (k : Nat) (x : Str) (ps : List Str) (sp : Sp) : Prop :=
  ∃ f fd, FnOk P w K mg base CX0 k f fd ps sp ∧ mg x = some (.ref f) ∧ PySem.W.keepIn K (.ref f) = true ∧ Binds K fd ps []
theorem Keep.of {x : Str} {st : Stmt} {N ps : List Str} {k : Nat} {sp : Sp} (a : At K mg x st ps) (S : FnScope N ps (defScope st)) (len : ∀ vs H Q E, sp vs H Q E → vs.length = ps.length)
    (hbody : ∀ (f : Addr) (cdv : Value) (A : Around) (outer : List Env) (s : Shared) (H : Hp) (vs : List V) (Q : VK) (E : XK), Room k (A.deeper (envOfC x (defScope st) s.heap.objs.size f cdv)) → sp vs H Q E →
      ∃ t, PSs (cxOf CX0 P w K mg base N x (defScope st) f cdv A outer s H E).nox (defBody st) t ∧ t { nx := fun _ H' => Q .non H', rt := Q } (start N vs) H) : Keep P w K mg base (k + 1) x ps sp := by
  obtain ⟨f, fd, F, g, b⟩ := a
  exact ⟨f, fd, F.ok S len (fun cdv A outer s H vs Q E hr h => hbody f cdv A outer s H vs Q E hr h), g, F.kp, b⟩
theorem Keep.mono {x : Str} {ps : List Str} {j k : Nat} {sp : Sp} (G : Keep P w K mg base j x ps sp) (h : j ≤ k) : Keep P w K mg base k x ps sp := by
  obtain ⟨f, fd, F, r⟩ := G
  exact ⟨f, fd, F.mono h, r⟩
theorem Keep.imp {x : Str} {ps : List Str} {k : Nat} {sp sp' : Sp} (G : Keep P w K mg base k x ps sp) (h : ∀ vs H Q E, sp' vs H Q E → sp vs H Q E) : Keep P w K mg base k x ps sp' := by
  obtain ⟨f, fd, F, r⟩ := G
  exact ⟨f, fd, F.imp h, r⟩
end
section
variable {X : Cx} {k : Nat} {x : Str} {ps : List Str} {sp : Sp} {p pos : Pos} {e : Expr} {es : List Expr} {t : TA}
theorem pe_k (G : Keep X.prog X.w X.K X.mg X.base k x ps sp) (hr : Room k X.A) (hg : Gl X x) (ha : PA X (e :: es) t) (hdb : (x == ("__debug__" : Str)) = false := by decide)
    (he : starEach (e :: es) X.env = (false, eval e X.env) :: starEach es X.env := by rfl) (hpl : (backTo pos (starEach es X.env)).any (·.1) = false := by rfl) :
    PE X (.Call (.Name x p) (e :: es) [] pos) (tCall sp [] E0 t) := by
  obtain ⟨f, fd, F, g, kp, b⟩ := G
  exact pe_call F hr hg g kp b .nil pass0 ha hdb he hpl
theorem pe_k0 (G : Keep X.prog X.w X.K X.mg X.base k x ps sp) (hr : Room k X.A) (hg : Gl X x) (hdb : (x == ("__debug__" : Str)) = false := by decide) : PE X (.Call (.Name x p) [] [] pos) (tCall sp [] E0 tNil) := by
  obtain ⟨f, fd, F, g, kp, b⟩ := G
  exact pe_call0 F hr hg g kp b .nil pass0 hdb
end

/-! ### the heap but for one place -/
/-- what was tracked stands, but perhaps at p -/
theorem szl {n : Nat} (h : n ≤ 100000) : n ≤ sizeLine := Nat.le_trans h (by decide)
theorem szlt {n : Nat} (h : n < 100000) : n < sizeLine := Nat.lt_of_lt_of_le h (by decide)
def ExP (p : Addr) (H H' : Hp) : Prop := ∀ b o, b ≠ p → H b = some o → H' b = some o
theorem ExP.refl (p : Addr) (H : Hp) : ExP p H H := fun _ _ _ h => h
theorem ExP.trans {p : Addr} {H H1 H2 : Hp} (a : ExP p H H1) (b : ExP p H1 H2) : ExP p H H2 := fun c o n h => b c o n (a c o n h)
theorem ExP.upd {p : Addr} {H : Hp} {o : HO} : ExP p H (upd H p o) := fun b u n h => by rw [upd_ne n]; exact h
theorem ExP.new {p q : Addr} {H : Hp} {o : HO} (h : H q = none) : ExP p H (L2.upd H q o) := fun b u n e => by rw [upd_ne (ne_of_none e h)]; exact e
theorem _root_.L2.Same.exP {p : Addr} {H H' : Hp} (h : Same H H') : ExP p H H' := fun b o _ e => h b o e
theorem same_new {q : Addr} {H : Hp} {o : HO} (h : H q = none) : Same H (L2.upd H q o) := fun b u e => by rw [upd_ne (ne_of_none e h)]; exact e

/-! ### readings, one step each -/
section
variable {σ : L2.St} {H : Hp} {D : Ends} {ta tb te tc : TE} {t u : TS} {tt tt' : TT} {Q : VK} {QT : Bool → Hp → Prop} {i : Nat} {v x y : V}
theorem r_seq (h : t { D with nx := u D } σ H) : tSeq t u D σ H := h
theorem r_next (h : D.nx σ H) : tNext D σ H := h
theorem r_set (h : te σ H fun v H' => D.nx (σ.set i (some v)) H') : tAsg te (gName i) D σ H := h
theorem r_asgS {tv to ti : TE} {ts : TSet} (h : tv σ H fun v H1 => to σ H1 fun o H2 => ti σ H2 fun i H3 => ts o i v H3 fun H4 => D.nx σ H4) : tAsg tv (gSub to ti ts) D σ H := h
theorem r_ret (h : te σ H D.rt) : tRet te D σ H := h
theorem r_drop (h : te σ H fun _ H' => D.nx σ H') : tDrop te D σ H := h
theorem r_if {tc : TT} (h : tc σ H fun b H1 => if b = true then t D σ H1 else u D σ H1) : tIfS tc t u D σ H := h
theorem r_var (e : σ[i]? = some (some v)) (h : Q v H) : tVar i σ H Q := ⟨v, e, h⟩
theorem r_c (h : Q v H) : tC v σ H Q := h
theorem r_op {r : R2} (h : ta σ H fun x H1 => tb σ H1 fun y H2 => r x y H2 Q) : tOp r ta tb σ H Q := h
theorem r_un {r : V → Hp → VK → Prop} (h : ta σ H fun x H1 => r x H1 Q) : tUn r ta σ H Q := h
theorem r_I0 {g : Int → Int → V} {a b : Int} (h : Q (g a b) H) : rI0 g (.int a) (.int b) H Q := ⟨a, b, rfl, rfl, h⟩
theorem r_I {C : Int → Int → Prop} {g : Int → Int → V} {a b : Int} (c : C a b) (h : Q (g a b) H) : rI C g (.int a) (.int b) H Q := ⟨a, b, rfl, rfl, c, h⟩
theorem r_U {g : Int → V} {a : Int} (h : Q (g a) H) : rU g (.int a) H Q := ⟨a, rfl, h⟩
theorem r_eq (s : scal x y = true) (h : Q (.bl (decide (x = y))) H) : rEq x y H Q := ⟨s, h⟩
theorem r_ne (s : scal x y = true) (h : Q (.bl (!decide (x = y))) H) : rNe x y H Q := ⟨s, h⟩
theorem r_test {te : TE} (h : te σ H fun x H' => ∃ k, x = .bl k ∧ QT k H') : tTest te σ H QT := h
theorem r_B {te : TE} (h : te σ H fun x H' => ∃ k, x = .bl k ∧ QT k H') : tB te σ H QT := h
theorem r_k {b : Bool} {R : Bool → Prop} (h : R b) : ∃ k, V.bl b = .bl k ∧ R k := ⟨b, rfl, h⟩
theorem r_if1 {c A B : Prop} [Decidable c] (h1 : c → A) (h2 : ¬ c → B) : if decide c = true then A else B := by
  by_cases h : c
  · rw [if_pos (decide_eq_true h)]; exact h1 h
  · rw [if_neg (by simpa using h)]; exact h2 h
theorem r_ifN {c A B : Prop} [Decidable c] (h1 : ¬ c → A) (h2 : c → B) : if (!decide c) = true then A else B := by
  by_cases h : c
  · rw [if_neg (by simpa using h)]; exact h2 h
  · rw [if_pos (by simpa using h)]; exact h1 h
theorem r_ifI {a b : Int} {A B : Prop} (h1 : a = b → A) (h2 : a ≠ b → B) : if decide (V.int a = V.int b) = true then A else B :=
  r_if1 (fun h => h1 (V.int.inj h)) (fun h => h2 fun e => h (by rw [e]))
theorem r_ifNI {a b : Int} {A B : Prop} (h1 : a ≠ b → A) (h2 : a = b → B) : if (!decide (V.int a = V.int b)) = true then A else B :=
  r_ifN (fun h => h1 fun e => h (by rw [e])) (fun h => h2 (V.int.inj h))
theorem r_ifB {b : Bool} {A B : Prop} (h1 : b = true → A) (h2 : b = false → B) : if b = true then A else B := by
  cases b with
  | true => exact h1 rfl
  | false => exact h2 rfl
theorem r_ifnB {b : Bool} {A B : Prop} (h1 : b = false → A) (h2 : b = true → B) : if (!b) = true then A else B := by
  cases b with
  | true => exact h2 rfl
  | false => exact h1 rfl
theorem r_T {A B : Prop} (h : A) : if true = true then A else B := h
theorem r_F {A B : Prop} (h : B) : if false = true then A else B := h
theorem r_not (h : tt σ H fun c H1 => QT (!c) H1) : tNot tt σ H QT := h
theorem r_and (h : tt σ H fun c H1 => if c = true then tt' σ H1 QT else QT false H1) : tAnd tt tt' σ H QT := h
theorem r_or (h : tt σ H fun c H1 => if c = true then QT true H1 else tt' σ H1 QT) : tOr tt tt' σ H QT := h
theorem r_andV (h : ta σ H fun x H1 => ∃ c, x = .bl c ∧ if c = true then tb σ H1 Q else Q (.bl false) H1) : tAndV ta tb σ H Q := h
theorem r_orV (h : ta σ H fun x H1 => ∃ c, x = .bl c ∧ if c = true then Q (.bl true) H1 else tb σ H1 Q) : tOrV ta tb σ H Q := h
theorem r_notV (h : ta σ H fun x H1 => ∃ c, x = .bl c ∧ Q (.bl (!c)) H1) : tNotV ta σ H Q := h
theorem r_nil {QA : List V → Hp → Prop} (h : QA [] H) : tNil σ H QA := h
theorem r_cons {ta : TE} {tr : TA} {QA : List V → Hp → Prop} (h : ta σ H fun x H1 => tr σ H1 fun xs H2 => QA (x :: xs) H2) : tCons ta tr σ H QA := h
theorem r_CB {r : List V → Hp → VK → Prop} {ta : TA} (h : ta σ H fun vs H1 => r vs H1 Q) : tCB r ta σ H Q := h
theorem r_lst {ta : TA} (h : ta σ H fun xs H1 => xs.length ≤ sizeLine ∧ ∀ p, H1 p = none → Q (.ref p) (upd H1 p (.lst xs))) : tLst ta σ H Q := h
theorem r_tup {ta : TA} (h : ta σ H fun xs H1 => xs.length ≤ sizeLine ∧ ∀ p, H1 p = none → Q (.ref p) (upd H1 p (.tup xs))) : tTup ta σ H Q := h
theorem r_call {sp : Sp} {ta : TA} (h : ta σ H fun vs H1 => sp (vs ++ []) H1 Q E0) : tCall sp [] E0 ta σ H Q := h
theorem r_BM {K : PySem.W.Frag} {T : String} {r : V → List V → Hp → VK → Prop} {ta : TA} (h : te σ H fun x H1 => tyV K T x H1 ∧ ta σ H1 fun xs H2 => r x xs H2 Q) : tBM K T r te ta σ H Q := h
theorem r_BM0 {K : PySem.W.Frag} {T : String} {r : V → List V → Hp → VK → Prop} (h : te σ H fun x H1 => tyV K T x H1 ∧ r x [] H1 Q) : tBM0 K T r te σ H Q := h
theorem r_ixL {K : PySem.W.Frag} {p : Addr} {xs : List V} {j : Int} (hs : SqL K H p xs) (ha : atI xs j = some v) (h : Q v H) : rIxL K (.ref p) (.int j) H Q := ⟨p, xs, j, v, rfl, rfl, hs, ha, h⟩
theorem r_ixT {K : PySem.W.Frag} {p : Addr} {xs : List V} {j : Int} (hs : SqT K H p xs) (ha : atI xs j = some v) (h : Q v H) : rIxT K (.ref p) (.int j) H Q := ⟨p, xs, j, v, rfl, rfl, hs, ha, h⟩
theorem r_setL {p : Addr} {xs : List V} {k : Int} {j : Nat} {QS : Hp → Prop} (hs : H p = some (.lst xs)) (ha : ixN xs.length k = some j) (h : QS (upd H p (.lst (xs.set j v)))) : rSetL (.ref p) (.int k) v H QS := ⟨p, xs, k, j, rfl, rfl, hs, ha, h⟩
end
end Wk
namespace Wk
open PySem PySem.Spec PyProof.Rows L2
section
variable {K : PySem.W.Frag} {H : Hp} {Q : VK} {p : Addr} {xs : List V}
/-- list(l), tuple(l), len(l) -/
theorem r_listL (hs : SqL K H p xs) (h : ∀ l, H l = none → Q (.ref l) (upd H l (.lst xs))) : ∃ p' ys, [V.ref p] = [V.ref p'] ∧ (SqL K H p' ys ∨ SqT K H p' ys) ∧ ∀ l, H l = none → Q (.ref l) (upd H l (.lst ys)) := ⟨p, xs, rfl, .inl hs, h⟩
theorem r_listT (hs : SqT K H p xs) (h : ∀ l, H l = none → Q (.ref l) (upd H l (.lst xs))) : ∃ p' ys, [V.ref p] = [V.ref p'] ∧ (SqL K H p' ys ∨ SqT K H p' ys) ∧ ∀ l, H l = none → Q (.ref l) (upd H l (.lst ys)) := ⟨p, xs, rfl, .inr hs, h⟩
theorem r_tupL (hs : SqL K H p xs) (h : ∀ l, H l = none → Q (.ref l) (upd H l (.tup xs))) : ∃ p' ys, [V.ref p] = [V.ref p'] ∧ ((SqL K H p' ys ∧ ∀ l, H l = none → Q (.ref l) (upd H l (.tup ys))) ∨ (SqT K H p' ys ∧ Q (.ref p') H)) := ⟨p, xs, rfl, .inl ⟨hs, h⟩⟩
theorem r_tupT (hs : SqT K H p xs) (h : Q (.ref p) H) : ∃ p' ys, [V.ref p] = [V.ref p'] ∧ ((SqL K H p' ys ∧ ∀ l, H l = none → Q (.ref l) (upd H l (.tup ys))) ∨ (SqT K H p' ys ∧ Q (.ref p') H)) := ⟨p, xs, rfl, .inr ⟨hs, h⟩⟩
theorem r_lenL (hs : SqL K H p xs) (h : Q (.int xs.length) H) : ∃ p' ys, [V.ref p] = [V.ref p'] ∧ (SqL K H p' ys ∨ SqT K H p' ys) ∧ Q (.int ys.length) H := ⟨p, xs, rfl, .inl hs, h⟩
theorem r_lenT (hs : SqT K H p xs) (h : Q (.int xs.length) H) : ∃ p' ys, [V.ref p] = [V.ref p'] ∧ (SqL K H p' ys ∨ SqT K H p' ys) ∧ Q (.int ys.length) H := ⟨p, xs, rfl, .inr hs, h⟩
theorem r_abs {i : Int} (h : Q (.int (if i < 0 then -i else i)) H) : ∃ j, [V.int i] = [V.int j] ∧ Q (.int (if j < 0 then -j else j)) H := ⟨i, rfl, h⟩
theorem r_int {i : Int} (h : Q (.int i) H) : (∃ j, [V.int i] = [V.int j] ∧ Q (.int j) H) ∨ ∃ k, [V.int i] = [V.bl k] ∧ Q (.int (if k then 1 else 0)) H := .inl ⟨i, rfl, h⟩
theorem r_intB {b : Bool} (h : Q (.int (if b then 1 else 0)) H) : (∃ j, [V.bl b] = [V.int j] ∧ Q (.int j) H) ∨ ∃ k, [V.bl b] = [V.bl k] ∧ Q (.int (if k then 1 else 0)) H := .inr ⟨b, rfl, h⟩
theorem r_max2 {i j : Int} (h : Q (.int (if j > i then j else i)) H) : ∃ i' j', [V.int i, V.int j] = [V.int i', V.int j'] ∧ Q (.int (if j' > i' then j' else i')) H := ⟨i, j, rfl, h⟩
theorem r_append {v : V} (hs : H p = some (.lst xs)) (hz : xs.length < sizeLine) (h : Q .non (upd H p (.lst (xs ++ [v])))) : rAppend (.ref p) [v] H Q := ⟨p, xs, v, rfl, rfl, hs, hz, h⟩
theorem r_tyL (h : H p = some (.lst xs)) {R : Prop} (r : R) : tyV K "list" (.ref p) H ∧ R := ⟨.inl ⟨rfl, _, SqL.of h⟩, r⟩
end
end Wk
namespace Wk
open PySem PySem.Spec PyProof.Rows L2
section
variable {H : Hp} {Q : VK} {a b : Int} {g : Int → Int → V}
theorem r_mod (c : 0 < b) (h : Q (g a b) H) : rI (fun _ j => 0 < j) g (.int a) (.int b) H Q := ⟨a, b, rfl, rfl, c, h⟩
theorem r_pow (c : CPow a b) (h : Q (g a b) H) : rI CPow g (.int a) (.int b) H Q := ⟨a, b, rfl, rfl, c, h⟩
theorem r_mul (c : CMul a b) (h : Q (g a b) H) : rI CMul g (.int a) (.int b) H Q := ⟨a, b, rfl, rfl, c, h⟩
theorem r_div (c : CDivW a b) (h : Q (g a b) H) : rI CDivW g (.int a) (.int b) H Q := ⟨a, b, rfl, rfl, c, h⟩
/-- an item of a list of ints -/
theorem at_map {ns : List Int} {i : Int} (h0 : 0 ≤ i) (h : i < ns.length) : ∃ z, ns[i.toNat]? = some z ∧ atI (ns.map V.int) i = some (.int z) := by
  have hj : i.toNat < ns.length := by omega
  refine ⟨ns[i.toNat], List.getElem?_eq_getElem hj, ?_⟩
  have e : i = (i.toNat : Int) := by omega
  exact at_of e (by rw [List.getElem?_map, List.getElem?_eq_getElem hj]; rfl)
theorem at_nat {xs : List V} {i : Int} {v : V} (h0 : 0 ≤ i) (h : xs[i.toNat]? = some v) : atI xs i = some v := at_of (j := i.toNat) (by omega) h
end
end Wk
/-! the layer's rules with the written part named, so that a reading within a comprehension does not hang on its block -/
namespace Wk
open PySem PySem.Spec PyProof.Rows L2
section
variable {X : Cx} {e o l a b : Expr} {es : List Expr} {te to tl ta tb : TE} {t : TA} {tg : Expr} {T : String} {name : Str} {id : String} {r : V → List V → Hp → VK → Prop} {apos pos : Pos}
def rTupOf (K : PySem.W.Frag) : List V → Hp → VK → Prop := fun xs H Q => ∃ p ys, xs = [.ref p] ∧ ((SqL K H p ys ∧ ∀ l, H l = none → Q (.ref l) (upd H l (.tup ys))) ∨ (SqT K H p ys ∧ Q (.ref p) H))
def rListOf (K : PySem.W.Frag) : List V → Hp → VK → Prop := fun xs H Q => ∃ p ys, xs = [.ref p] ∧ (SqL K H p ys ∨ SqT K H p ys) ∧ ∀ l, H l = none → Q (.ref l) (upd H l (.lst ys))
def rLenOf (K : PySem.W.Frag) : List V → Hp → VK → Prop := fun xs H Q => ∃ p ys, xs = [.ref p] ∧ (SqL K H p ys ∨ SqT K H p ys) ∧ Q (.int ys.length) H
theorem c_tup (K : PySem.W.Frag) (hK : X.K = K := by rfl) : CallR X (.type "tuple") (rTupOf K) := by subst hK; exact call_tuple_of
theorem c_list (K : PySem.W.Frag) (hK : X.K = K := by rfl) : CallR X (.type "list") (rListOf K) := by subst hK; exact call_list_of
theorem c_len (K : PySem.W.Frag) (hK : X.K = K := by rfl) : CallR X (.builtin "len") (rLenOf K) := by subst hK; exact call_len_seq
theorem x_list (K : PySem.W.Frag) (hK : X.K = K := by rfl) : IxR X (rIxL K) := by subst hK; exact ix_list
theorem x_tup (K : PySem.W.Frag) (hK : X.K = K := by rfl) : IxR X (rIxT K) := by subst hK; exact ix_tup
theorem x_lt (K : PySem.W.Frag) (hK : X.K = K := by rfl) : IxR X (fun x y H Q => rIxL K x y H Q ∨ rIxT K x y H Q) := by subst hK; exact ix_list.or ix_tup
theorem i_list (K : PySem.W.Frag) (hl : PE X l tl) (hK : X.K = K := by rfl) : PI X tg l (iList K tl) := by subst hK; exact pi_list hl
theorem i_tup (K : PySem.W.Frag) (hl : PE X l tl) (hK : X.K = K := by rfl) : PI X tg l (iTup K tl) := by subst hK; exact pi_tup hl
theorem PI.or {wi wi' : TI} (h : PI X tg l wi) (h' : PI X tg l wi') : PI X tg l (fun σ H R => wi σ H R ∨ wi' σ H R) := ⟨fun pins s σ H R I q => q.elim (h.run pins s σ H R I) (h'.run pins s σ H R I)⟩
theorem i_seq (K : PySem.W.Frag) (hl : PE X l tl) (hK : X.K = K := by rfl) : PI X tg l (fun σ H R => iList K tl σ H R ∨ iTup K tl σ H R) := PI.or (i_list K hl hK) (i_tup K hl hK)
theorem e_bm0 (K : PySem.W.Frag) (pa : PlainAttrs T) (slot : Slot T name id) (hty : typeOf (.builtin id) = pure (.type "method_descriptor")) (hm : MtR X id r) (ho : PE X o to)
    (hbase : attributeBase o name X.env (eval o X.env) = eval o X.env := by rfl) (hline : (apos.endLine == pos.line) = true := by rfl) (hK : X.K = K := by rfl) : PE X (.Call (.Attribute o name apos) [] [] pos) (tBM0 K T r to) := by subst hK; exact pe_bm0 pa slot hty hm ho hbase hline
theorem c_inL (K : PySem.W.Frag) (hK : X.K = K := by rfl) : OpR X (compareOp .In) (rIn K false) := by subst hK; exact op_in_seq
theorem c_notIn (K : PySem.W.Frag) (hK : X.K = K := by rfl) : OpR X (compareOp .NotIn) (rIn K true) := by subst hK; exact op_notIn_seq
theorem c_eqD (K : PySem.W.Frag) (hu : X.A.units + 64 < cLine) (hK : X.K = K := by rfl) : OpR X (compareOp .Eq) (rEqD K) := by subst hK; exact op_eqD hu
theorem c_neD (K : PySem.W.Frag) (hu : X.A.units + 64 < cLine) (hK : X.K = K := by rfl) : OpR X (compareOp .NotEq) (rNeD K) := by subst hK; exact op_neD hu
theorem m_index (K : PySem.W.Frag) (hK : X.K = K := by rfl) : MtR X "list.index" (rIndex K) := by subst hK; exact mt_index
end
end Wk
namespace Wk
open PySem PySem.Spec PyProof.Rows L2
section
variable {X : Cx} {e o l a b : Expr} {es : List Expr} {te to tl ta tb : TE} {t : TA} {tg : Expr} {T : String} {name f : Str} {id : String} {r : V → List V → Hp → VK → Prop} {apos cpos pos : Pos}
theorem e_bm (K : PySem.W.Frag) (pa : PlainAttrs T) (slot : Slot T name id) (hty : typeOf (.builtin id) = pure (.type "method_descriptor")) (hm : MtR X id r) (ho : PE X o to) (ha : PA X (e :: es) t)
    (hbase : attributeBase o name X.env (eval o X.env) = eval o X.env := by rfl)
    (hfew : ((backTo cpos (starEach (e :: es) X.env)).all (fun x => !x.1) && (backToKw cpos (keywordEach [] X.env)).all (fun x => x.1.isSome)
      && decide ((e :: es).length + ([] : List Keyword).length + (if ([] : List Keyword).isEmpty then 0 else 1) < 30)) = true := by rfl)
    (hline : (apos.endLine == cpos.line) = true := by rfl) (hs : starEach (e :: es) X.env = (false, eval e X.env) :: starEach es X.env := by rfl) (hplain : (backTo cpos (starEach es X.env)).any (·.1) = false := by rfl)
    (hK : X.K = K := by rfl) : PE X (.Call (.Attribute o name apos) (e :: es) [] cpos) (tBM K T r to t) := by subst hK; exact pe_bm pa slot hty hm ho ha hbase hfew hline hs hplain
theorem e_fld (K : PySem.W.Frag) (he : PE X e ta) (hb : attributeBase e f X.env (eval e X.env) = eval e X.env) (hK : X.K = K := by rfl) : PE X (.Attribute e f pos) (tFld K ta f) := by subst hK; exact pe_fld he hb
theorem e_listRg (hc : X.calm = true) (hg : Gl X "list") (hm : X.mg "list" = none) {t : L2.St → Hp → (Int → Int → Hp → Prop) → Prop} {p : Pos} (he : PRg X e t) (na : starEach [e] X.env = (false, eval e X.env) :: starEach [] X.env := by rfl) : PE X (.Call (.Name "list" p) [e] [] pos) (tLstRg t) := pe_listRg hc hg hm he na
end
section
variable {K : PySem.W.Frag} {H : Hp} {Q : VK} {p : Addr} {xs : List V}
theorem n_listL (hs : SqL K H p xs) (h : ∀ l, H l = none → Q (.ref l) (upd H l (.lst xs))) : rListOf K [.ref p] H Q := ⟨p, xs, rfl, .inl hs, h⟩
theorem n_listT (hs : SqT K H p xs) (h : ∀ l, H l = none → Q (.ref l) (upd H l (.lst xs))) : rListOf K [.ref p] H Q := ⟨p, xs, rfl, .inr hs, h⟩
theorem n_tupL (hs : SqL K H p xs) (h : ∀ l, H l = none → Q (.ref l) (upd H l (.tup xs))) : rTupOf K [.ref p] H Q := ⟨p, xs, rfl, .inl ⟨hs, h⟩⟩
theorem n_tupT (hs : SqT K H p xs) (h : Q (.ref p) H) : rTupOf K [.ref p] H Q := ⟨p, xs, rfl, .inr ⟨hs, h⟩⟩
theorem n_lenL (hs : SqL K H p xs) (h : Q (.int xs.length) H) : rLenOf K [.ref p] H Q := ⟨p, xs, rfl, .inl hs, h⟩
theorem n_lenT (hs : SqT K H p xs) (h : Q (.int xs.length) H) : rLenOf K [.ref p] H Q := ⟨p, xs, rfl, .inr hs, h⟩
end
end Wk
namespace Wk
open PySem PySem.Spec PyProof.Rows L2
section
variable {X : Cx}
def rNotInDT (K : PySem.W.Frag) : R2 := fun x y H Q => ∃ d ds, Dp K H x d ∧ Dp K H y (.tuple ds) ∧ SeqAt.shaped d = true ∧ SeqAt.shaped (.tuple ds) = true ∧ Q (.bl (!ds.any fun z => PyData.eqv z d)) H
def rInDT (K : PySem.W.Frag) : R2 := fun x y H Q => ∃ d ds, Dp K H x d ∧ Dp K H y (.tuple ds) ∧ SeqAt.shaped d = true ∧ SeqAt.shaped (.tuple ds) = true ∧ Q (.bl (ds.any fun z => PyData.eqv z d)) H
theorem c_notInDT (K : PySem.W.Frag) (hu : X.A.units + 65 < cLine) (hK : X.K = K := by rfl) : OpR X (compareOp .NotIn) (rNotInDT K) := by
  subst hK
  intro pins s σ H x y v u Q I rx ry h
  obtain ⟨d, ds, hd, he, sd, se, q⟩ := h
  obtain ⟨as, r1⟩ := Dp.reads I d x v hd rx
  obtain ⟨bs, r2⟩ := Dp.reads I (.tuple ds) y u he ry
  exact SeqAt.notIn_tuple_reads r2 r1 (SeqAt.canLay_of_shaped se) (SeqAt.canLay_of_shaped sd) (room_in_shaped sd hu) ⟨.bl _, H, I, rfl, q⟩
theorem c_inDT (K : PySem.W.Frag) (hu : X.A.units + 65 < cLine) (hK : X.K = K := by rfl) : OpR X (compareOp .In) (rInDT K) := by
  subst hK
  intro pins s σ H x y v u Q I rx ry h
  obtain ⟨d, ds, hd, he, sd, se, q⟩ := h
  obtain ⟨as, r1⟩ := Dp.reads I d x v hd rx
  obtain ⟨bs, r2⟩ := Dp.reads I (.tuple ds) y u he ry
  exact SeqAt.in_tuple_reads r2 r1 (SeqAt.canLay_of_shaped se) (SeqAt.canLay_of_shaped sd) (room_in_shaped sd hu) ⟨.bl _, H, I, rfl, q⟩
end
end Wk
namespace Wk
open PySem PySem.Spec PyProof.Rows L2
theorem u65 {k : Nat} {A : Around} (r : Room k A) : A.units + 65 < cLine := by have := r.un; omega
section
variable {X : Cx}
theorem c_catA (K : PySem.W.Frag) (hK : X.K = K := by rfl) : OpR X (binaryOp .Add) (rCatA K) := by subst hK; exact op_catA
end
end Wk
namespace Wk
open PySem PySem.Spec PyProof.Rows L2
section
variable {X : Cx}
theorem m_indexD (K : PySem.W.Frag) (hu : X.A.units + 65 < cLine) (hK : X.K = K := by rfl) : MtR X "list.index" (rIndexD K) := by subst hK; exact mt_indexD hu
end
end Wk
namespace Wk
open PySem PySem.Spec PyProof.Rows L2
/-- a tuple made by the program, of which its object is known: it has no dict -/
def SqZ (H : Hp) (a : Addr) (xs : List V) : Prop := ∃ o : Obj, H a = some (.frz o (.tup xs)) ∧ o.dict = none ∧ o.cls = .type "tuple"
theorem SqZ.sqT {K : PySem.W.Frag} {H : Hp} {a : Addr} {xs : List V} (h : SqZ H a xs) : SqT K H a xs := let ⟨o, e, _⟩ := h; .inl (.inr ⟨o, e⟩)
theorem SqZ.mono {H H' : Hp} {a : Addr} {xs : List V} (s : Same H H') (h : SqZ H a xs) : SqZ H' a xs := let ⟨o, e, r⟩ := h; ⟨o, s _ _ e, r⟩
/-- tuple(x): a new one of a list, the same of a tuple -/
def rTupZ (K : PySem.W.Frag) : List V → Hp → VK → Prop := fun xs H Q => ∃ p ys, xs = [.ref p] ∧ ((SqL K H p ys ∧ ∀ l o, H l = none → o.dict = none → o.cls = .type "tuple" → Q (.ref l) (upd H l (.frz o (.tup ys)))) ∨ (SqT K H p ys ∧ Q (.ref p) H))
section
variable {X : Cx}
theorem c_tupZ (K : PySem.W.Frag) (hK : X.K = K := by rfl) : CallR X (.type "tuple") (rTupZ K) := by
  subst hK
  intro pins s σ H xs us Q I r h
  obtain ⟨p, ys, rfl, h⟩ := h
  obtain ⟨u, rfl, rx⟩ := vals1 r
  cases rx
  rcases h with ⟨hq, q⟩ | ⟨hq, q⟩
  · obtain ⟨its, r', pl, hz⟩ := I.list hq
    have hlen := r'.length
    refine call_tuple_list pl.isList (fun h' kp => ?_) (by simp only [List.size_toArray] <;> omega)
    have I1 : Inv X pins σ H { s with heap := h' } := I.kept (t' := s.toks) kp
    have I2 : Inv X pins σ (upd H h'.objs.size (.frz { cls := .type "tuple", data := .seq its.toArray } (.tup ys))) { s with heap := h'.push { cls := .type "tuple", data := .seq its.toArray } } :=
      I1.laid (t' := s.toks) (fun b o e => Heap.get?_push_of_some _ e) (Nat.le_refl _) ⟨Heap.get?_push_size _ rfl, hz, its, r', IsTup.new _ _⟩
    exact ⟨.ref h'.objs.size, _, I2, rfl, q _ _ (I1.hok.fresh (Nat.le_refl _)) rfl rfl⟩
  · obtain ⟨its, r', pl, hz⟩ := I.tuple hq
    exact call_tuple_same pl ⟨.ref p, H, I, rfl, q⟩
end
section
variable {K : PySem.W.Frag} {H : Hp} {Q : VK} {p : Addr} {xs : List V}
theorem z_tupL (hs : SqL K H p xs) (h : ∀ l o, H l = none → o.dict = none → o.cls = .type "tuple" → Q (.ref l) (upd H l (.frz o (.tup xs)))) : rTupZ K [.ref p] H Q := ⟨p, xs, rfl, .inl ⟨hs, h⟩⟩
theorem z_tupT (hs : SqT K H p xs) (h : Q (.ref p) H) : rTupZ K [.ref p] H Q := ⟨p, xs, rfl, .inr ⟨hs, h⟩⟩
end
end Wk
end
section
set_option Elab.async false
set_option linter.all false
set_option maxRecDepth 100000
/-! comprehensions over range(n) whose items are told by what holds of them; tables of groups in the heap. -/
namespace Wk
open PySem PySem.Spec PyProof.Rows L2
theorem _root_.L2.Same.sqT {K : PySem.W.Frag} {H H' : Hp} {a : Addr} {xs : List V} (e : Same H H') (h : SqT K H a xs) : SqT K H' a xs := by
  rcases h with (h | ⟨o, h⟩) | h
  · exact .inl (.inl (e _ _ h))
  · exact .inl (.inr ⟨o, e _ _ h⟩)
  · exact .inr h
theorem get_snoc {α : Type} {L : List α} {v w : α} {k : Nat} (h : (L ++ [v])[k]? = some w) : (k < L.length ∧ L[k]? = some w) ∨ (k = L.length ∧ w = v) := by
  by_cases c : k < L.length
  · rw [List.getElem?_append_left c] at h; exact .inl ⟨c, h⟩
  · rw [List.getElem?_append_right (by omega)] at h
    by_cases d : k - L.length = 0
    · rw [d] at h
      have e : v = w := by simpa using h
      exact .inr ⟨by omega, e.symm⟩
    · exfalso
      rw [List.getElem?_eq_none (by simp; omega)] at h
      cases h
theorem sqT_mut {K : PySem.W.Frag} {H H' : Hp} {a D : Addr} {xs L : List V} (hD : H D = some (.lst L)) (e : ExP D H H') (h : SqT K H a xs) : SqT K H' a xs := by
  rcases h with (h | ⟨o, h⟩) | h
  · exact .inl (.inl (e _ _ (ne_of h hD (by intro z; cases z)) h))
  · exact .inl (.inr ⟨o, e _ _ (ne_of h hD (by intro z; cases z)) h⟩)
  · exact .inr h
/-- what holds of a value, whatever lists change -/
def Mut (R : V → Hp → Prop) : Prop := ∀ v H1 H2 D L, H1 D = some (.lst L) → ExP D H1 H2 → R v H1 → R v H2
section
variable {K : PySem.W.Frag} {n : Nat} {ta : TA} {j : Nat} {te : TE} {vs : List Nat} {σ : L2.St} {H : Hp} {Q : VK}
theorem lc_rng (R : Nat → V → Hp → Prop) (hn : n ≤ 50000) (hta : ∀ R' : List V → Hp → Prop, R' [.int n] H → ta σ H R')
    (mono : ∀ i, Mut (R i))
    (step : ∀ (i : Nat) H1 (Q' : VK), i < n → Same H H1 → (∀ v H2, Same H1 H2 → R i v H2 → Q' v H2) → te ((wipe σ vs).set j (some (.int (i : Int)))) H1 Q')
    (done : ∀ D L H1, H D = none → Same H H1 → H1 D = some (.lst L) → L.length = n → (∀ i v, L[i]? = some v → R i v H1) → Q (.ref D) H1) (hw : ∀ x, wipe ((wipe σ vs).set j (some x)) vs = wipe σ vs := by intro _; rfl) : tLc (iRng1 ta) (gName j) tYes te vs σ H Q := by
  refine hta _ ⟨n, rfl, by omega, by omega, fun D hD => ?_⟩
  have en : ((n : Int)).toNat = n := Int.toNat_natCast n
  rw [en]
  refine lc_range (lo := 0) (n := n) (fun i H1 => ∃ L, Same H H1 ∧ H1 D = some (.lst L) ∧ L.length = i ∧ ∀ k v, L[k]? = some v → R k v H1) ⟨[], same_new hD, upd_same, rfl, fun k v e => by simp at e⟩ ?_ ?_
  · rintro i H1 hi ⟨L, s1, hL, len, r⟩
    have e0 : (0 : Int) + (i : Int) = (i : Int) := Int.zero_add _
    rw [e0]
    refine ⟨hw _, ?_⟩
    show te _ H1 _
    refine step i H1 _ hi s1 fun v H2 s2 rv => ?_
    have hL2 := s2 _ _ hL
    refine ⟨L, hL2, szlt (by omega), L ++ [v], fun b o e => ?_, upd_same, by rw [List.length_append, len]; rfl, fun k w e => ?_⟩
    · rw [upd_ne (ne_of_none e hD)]; exact s2 _ _ (s1 _ _ e)
    · rcases get_snoc e with ⟨_, q⟩ | ⟨q, rfl⟩
      · exact mono k w H2 _ D L hL2 ExP.upd (mono k w H1 H2 D L hL s2.exP (r k w q))
      · rw [q, len]
        exact mono i w H2 _ D L hL2 ExP.upd rv
  · rintro H1 ⟨L, s1, hL, len, r⟩
    exact done D L H1 hD s1 hL len r
/-- over range(n), the values plain -/
theorem lc_rngV (f : Nat → V) (hn : n ≤ 50000) (hta : ∀ R' : List V → Hp → Prop, R' [.int n] H → ta σ H R')
    (step : ∀ (i : Nat) H1 (Q' : VK), i < n → Same H H1 → (∀ H2, Same H1 H2 → Q' (f i) H2) → te ((wipe σ vs).set j (some (.int (i : Int)))) H1 Q')
    (done : ∀ D H1, H D = none → Same H H1 → H1 D = some (.lst ((List.range n).map f)) → Q (.ref D) H1) (hw : ∀ x, wipe ((wipe σ vs).set j (some x)) vs = wipe σ vs := by intro _; rfl) : tLc (iRng1 ta) (gName j) tYes te vs σ H Q := by
  refine lc_rng (hw := hw) (fun i v _ => v = f i) hn hta (fun i v H1 H2 D L _ _ h => h) (fun i H1 Q' hi s1 k => step i H1 Q' hi s1 fun H2 s2 => k _ _ s2 rfl) (fun D L H1 hD s1 hL len r => ?_)
  have e : L = (List.range n).map f := by
    apply List.ext_getElem?
    intro i
    rw [List.getElem?_map]
    by_cases c : i < n
    · have cl : i < L.length := by omega
      rw [List.getElem?_eq_getElem cl, List.getElem?_range c]
      exact congrArg some (r i _ (List.getElem?_eq_getElem cl))
    · rw [List.getElem?_eq_none (by omega), List.getElem?_eq_none (by rw [List.length_range]; omega)]
      rfl
  rw [e] at hL
  exact done D H1 hD s1 hL
end
/-! ### tables of groups -/
def rowV (n : Nat) (m : Nat → Nat → Nat) (x : Nat) : List V := (List.range n).map fun y => V.int ((m x y : Nat) : Int)
theorem rowV_len {n : Nat} {m : Nat → Nat → Nat} {x : Nat} : (rowV n m x).length = n := by unfold rowV; rw [List.length_map, List.length_range]
theorem rowV_get {n : Nat} {m : Nat → Nat → Nat} {x y : Nat} (h : y < n) : (rowV n m x)[y]? = some (.int ((m x y : Nat) : Int)) := by
  unfold rowV
  rw [List.getElem?_map, List.getElem?_range h]
  rfl
/-- the values L are n tuples, the rows of m -/
def Rows (K : PySem.W.Frag) (H : Hp) (n : Nat) (m : Nat → Nat → Nat) (L : List V) : Prop := L.length = n ∧ ∀ x v, L[x]? = some v → ∃ b, v = .ref b ∧ SqT K H b (rowV n m x)
/-- the same, of which the objects are known -/
def RowsZ (K : PySem.W.Frag) (H : Hp) (n : Nat) (m : Nat → Nat → Nat) (L : List V) : Prop := L.length = n ∧ ∀ x v, L[x]? = some v → ∃ b, v = .ref b ∧ SqZ H b (rowV n m x)
theorem RowsZ.rows {K : PySem.W.Frag} {H : Hp} {n : Nat} {m : Nat → Nat → Nat} {L : List V} (r : RowsZ K H n m L) : Rows K H n m L := ⟨r.1, fun x v e => let ⟨b, e1, q⟩ := r.2 x v e; ⟨b, e1, q.sqT⟩⟩
theorem sqZ_mut {H H' : Hp} {a D : Addr} {xs L : List V} (hD : H D = some (.lst L)) (e : ExP D H H') (h : SqZ H a xs) : SqZ H' a xs := by
  obtain ⟨o, h, r⟩ := h
  exact ⟨o, e _ _ (ne_of h hD (by intro z; cases z)) h, r⟩
theorem RowsZ.getZ {K : PySem.W.Frag} {H : Hp} {n : Nat} {m : Nat → Nat → Nat} {L : List V} (r : RowsZ K H n m L) {x : Nat} (h : x < n) : ∃ b, L[x]? = some (.ref b) ∧ SqZ H b (rowV n m x) := by
  have hl : x < L.length := by rw [r.1]; exact h
  obtain ⟨b, e, q⟩ := r.2 x _ (List.getElem?_eq_getElem hl)
  exact ⟨b, by rw [List.getElem?_eq_getElem hl, e], q⟩
theorem RowsZ.get {K : PySem.W.Frag} {H : Hp} {n : Nat} {m : Nat → Nat → Nat} {L : List V} (r : RowsZ K H n m L) {x : Nat} (h : x < n) : ∃ b, L[x]? = some (.ref b) ∧ SqT K H b (rowV n m x) := let ⟨b, e, q⟩ := r.getZ h; ⟨b, e, q.sqT⟩
theorem RowsZ.mono {K : PySem.W.Frag} {H H' : Hp} {n : Nat} {m : Nat → Nat → Nat} {L : List V} (s : Same H H') (r : RowsZ K H n m L) : RowsZ K H' n m L := ⟨r.1, fun x v e => let ⟨b, e1, q⟩ := r.2 x v e; ⟨b, e1, q.mono s⟩⟩
theorem RowsZ.mut {K : PySem.W.Frag} {H H' : Hp} {D : Addr} {L' : List V} {n : Nat} {m : Nat → Nat → Nat} {L : List V} (hD : H D = some (.lst L')) (s : ExP D H H') (r : RowsZ K H n m L) : RowsZ K H' n m L := ⟨r.1, fun x v e => let ⟨b, e1, q⟩ := r.2 x v e; ⟨b, e1, sqZ_mut hD s q⟩⟩
theorem RowsZ.congr {K : PySem.W.Frag} {H : Hp} {n : Nat} {m m' : Nat → Nat → Nat} {L : List V} (e : ∀ x y, x < n → y < n → m x y = m' x y) (r : RowsZ K H n m L) : RowsZ K H n m' L := ⟨r.1, fun x v h => by
  obtain ⟨b, e1, q⟩ := r.2 x v h
  have hx : x < n := by have := (List.getElem?_eq_some_iff.mp h).1; rw [r.1] at this; exact this
  have er : rowV n m x = rowV n m' x := by
    unfold rowV
    exact List.map_congr_left fun y hy => by rw [e x y hx (List.mem_range.mp hy)]
  exact ⟨b, e1, er ▸ q⟩⟩
theorem mut_rowZ {xs : List V} : Mut fun v H => ∃ b, v = .ref b ∧ SqZ H b xs := fun v H1 H2 D L hD s ⟨b, e, q⟩ => ⟨b, e, sqZ_mut hD s q⟩
/-- at a a list of the rows of m -/
def TabL (K : PySem.W.Frag) (H : Hp) (a : Addr) (n : Nat) (m : Nat → Nat → Nat) : Prop := ∃ L, H a = some (.lst L) ∧ RowsZ K H n m L
theorem Rows.get {K : PySem.W.Frag} {H : Hp} {n : Nat} {m : Nat → Nat → Nat} {L : List V} (r : Rows K H n m L) {x : Nat} (h : x < n) : ∃ b, L[x]? = some (.ref b) ∧ SqT K H b (rowV n m x) := by
  have hl : x < L.length := by rw [r.1]; exact h
  obtain ⟨b, e, q⟩ := r.2 x _ (List.getElem?_eq_getElem hl)
  exact ⟨b, by rw [List.getElem?_eq_getElem hl, e], q⟩
theorem Rows.mono {K : PySem.W.Frag} {H H' : Hp} {n : Nat} {m : Nat → Nat → Nat} {L : List V} (s : Same H H') (r : Rows K H n m L) : Rows K H' n m L := ⟨r.1, fun x v e => by
  obtain ⟨b, e1, q⟩ := r.2 x v e
  exact ⟨b, e1, s.sqT q⟩⟩
theorem TabL.mono {K : PySem.W.Frag} {H H' : Hp} {a : Addr} {n : Nat} {m : Nat → Nat → Nat} (s : Same H H') (t : TabL K H a n m) : TabL K H' a n m := by
  obtain ⟨L, h, r⟩ := t
  exact ⟨L, s _ _ h, r.mono s⟩
theorem Rows.mut {K : PySem.W.Frag} {H H' : Hp} {D : Addr} {L' : List V} {n : Nat} {m : Nat → Nat → Nat} {L : List V} (hD : H D = some (.lst L')) (s : ExP D H H') (r : Rows K H n m L) : Rows K H' n m L := ⟨r.1, fun x v e => by
  obtain ⟨b, e1, q⟩ := r.2 x v e
  exact ⟨b, e1, sqT_mut hD s q⟩⟩
theorem TabL.mut {K : PySem.W.Frag} {H H' : Hp} {a D : Addr} {L' : List V} {n : Nat} {m : Nat → Nat → Nat} (hD : H D = some (.lst L')) (ne : a ≠ D) (s : ExP D H H') (t : TabL K H a n m) : TabL K H' a n m := by
  obtain ⟨L, h, r⟩ := t
  exact ⟨L, s _ _ ne h, r.mut hD s⟩
/-- rows are told by the function below n alone -/
theorem Rows.congr {K : PySem.W.Frag} {H : Hp} {n : Nat} {m m' : Nat → Nat → Nat} {L : List V} (e : ∀ x y, x < n → y < n → m x y = m' x y) (r : Rows K H n m L) : Rows K H n m' L := ⟨r.1, fun x v h => by
  obtain ⟨b, e1, q⟩ := r.2 x v h
  have hx : x < n := by have := (List.getElem?_eq_some_iff.mp h).1; rw [r.1] at this; exact this
  have er : rowV n m x = rowV n m' x := by
    unfold rowV
    exact List.map_congr_left fun y hy => by rw [e x y hx (List.mem_range.mp hy)]
  exact ⟨b, e1, er ▸ q⟩⟩
theorem mut_row {K : PySem.W.Frag} {xs : List V} : Mut fun v H => ∃ b, v = .ref b ∧ SqT K H b xs := fun v H1 H2 D L hD s ⟨b, e, q⟩ => ⟨b, e, sqT_mut hD s q⟩
/-- a table of a group is handed back, new -/
def RetTab (K : PySem.W.Frag) (H : Hp) (n : Nat) (m : Nat → Nat → Nat) (Q : VK) : Prop := ∀ H' a, H a = none → Same H H' → TabL K H' a n m → Q (.ref a) H'
section
variable {K : PySem.W.Frag} {n : Nat} {ta : TA} {tl : TE} {j : Nat} {t : TS} {D : Ends} {σ : L2.St} {H : Hp}
/-- a turn of a loop: what follows it, a break, a return are handed on as letters -/
def TurnOf (Pv : L2.St → Hp → Prop) (D : Ends) (t : TS) (σ : L2.St) (H : Hp) : Prop :=
  ∀ (N B : L2.St → Hp → Prop) (R : V → Hp → Prop), (∀ σ H, Pv σ H → N σ H) → (∀ σ H, D.nx σ H → B σ H) → (∀ v H, D.rt v H → R v H) → t { nx := N, ct := N, bk := B, rt := R } σ H
theorem TurnOf.go {Pv : L2.St → Hp → Prop} {D : Ends} {t : TS} {σ : L2.St} {H : Hp} (h : TurnOf Pv D t σ H) : t { D with nx := Pv, ct := Pv, bk := D.nx } σ H := h Pv D.nx D.rt (fun _ _ q => q) (fun _ _ q => q) (fun _ _ q => q)
theorem f_rng (Pv : Nat → L2.St → Hp → Prop) (hn : n ≤ 1000000) (hta : ∀ R' : List V → Hp → Prop, R' [.int n] H → ta σ H R') (h0 : Pv 0 σ H)
    (step : ∀ (i : Nat) σ' H', i < n → Pv i σ' H' → TurnOf (Pv (i + 1)) D t (σ'.set j (some (.int (i : Int)))) H') (done : ∀ σ' H', Pv n σ' H' → D.nx σ' H') : tFor (iRng1 ta) (gName j) t D σ H := by
  refine hta _ ⟨n, rfl, by omega, by omega, ?_⟩
  have en : ((n : Int)).toNat = n := Int.toNat_natCast n
  rw [en]
  refine for_range (lo := 0) (n := n) Pv h0 (fun i σ' H' hi p => ?_) done
  have e0 : (0 : Int) + (i : Int) = (i : Int) := Int.zero_add _
  rw [e0]
  exact (step i σ' H' hi p).go
theorem f_lst {a : Addr} {xs : List V} (Pv : Nat → L2.St → Hp → Prop) (hs : SqL K H a xs) (htl : ∀ R' : V → Hp → Prop, R' (.ref a) H → tl σ H R') (h0 : Pv 0 σ H) (hl : ∀ i σ' H', Pv i σ' H' → SqL K H' a xs)
    (step : ∀ (i : Nat) x σ' H', xs[i]? = some x → Pv i σ' H' → TurnOf (Pv (i + 1)) D t (σ'.set j (some x)) H') (done : ∀ σ' H', Pv xs.length σ' H' → D.nx σ' H') : tFor (iList K tl) (gName j) t D σ H :=
  htl _ ⟨a, rfl, ⟨xs, hs⟩, for_list (K := K) (a := a) (xs := xs) Pv h0 (fun i σ' H' _ p => hl i σ' H' p) (fun i x σ' H' hx p => (step i x σ' H' hx p).go) done⟩
theorem f_tup {a : Addr} {xs : List V} (Pv : Nat → L2.St → Hp → Prop) (hs : SqT K H a xs) (htl : ∀ R' : V → Hp → Prop, R' (.ref a) H → tl σ H R') (h0 : Pv 0 σ H) (hl : ∀ i σ' H', Pv i σ' H' → SqT K H' a xs)
    (step : ∀ (i : Nat) x σ' H', xs[i]? = some x → Pv i σ' H' → TurnOf (Pv (i + 1)) D t (σ'.set j (some x)) H') (done : ∀ σ' H', Pv xs.length σ' H' → D.nx σ' H') : tFor (iTup K tl) (gName j) t D σ H :=
  htl _ ⟨a, rfl, ⟨xs, hs⟩, for_tup (K := K) (a := a) (xs := xs) Pv h0 (fun i σ' H' _ p => hl i σ' H' p) (fun i x σ' H' hx p => (step i x σ' H' hx p).go) done⟩
end
/-- a list L that grows at p from H0 on, its items told by R -/
structure Grow (R : Nat → V → Hp → Prop) (H0 : Hp) (p : Addr) (i : Nat) (H : Hp) : Prop where
  new : H0 p = none
  same : Same H0 H
  lst : ∃ L, H p = some (.lst L) ∧ L.length = i ∧ ∀ k v, L[k]? = some v → R k v H
theorem Grow.start {R : Nat → V → Hp → Prop} {H0 : Hp} {p : Addr} (h : H0 p = none) : Grow R H0 p 0 (upd H0 p (.lst [])) := ⟨h, same_new h, [], upd_same, rfl, fun k v e => by simp at e⟩
theorem Grow.snoc {R : Nat → V → Hp → Prop} {H0 H : Hp} {p : Addr} {i : Nat} {L : List V} {v : V} (mono : ∀ i, Mut (R i)) (g : Grow R H0 p i H) (hL : H p = some (.lst L)) (r : R i v H) : Grow R H0 p (i + 1) (upd H p (.lst (L ++ [v]))) := by
  obtain ⟨L', h', len, rr⟩ := g.lst
  have e : L = L' := by
    rw [hL] at h'
    injection h' with q; injection q
  subst e
  refine ⟨g.new, fun b o e => by rw [upd_ne (ne_of_none e g.new)]; exact g.same _ _ e, L ++ [v], upd_same, by rw [List.length_append, len]; rfl, fun k w e => ?_⟩
  rcases get_snoc e with ⟨_, q⟩ | ⟨q, rfl⟩
  · exact mono k w H _ p L hL ExP.upd (rr k w q)
  · rw [q, len]
    exact mono i w H _ p L hL ExP.upd r
theorem Grow.mono {R : Nat → V → Hp → Prop} {H0 H H' : Hp} {p : Addr} {i : Nat} (mono : ∀ i, Mut (R i)) (g : Grow R H0 p i H) (s : Same H H') : Grow R H0 p i H' := by
  obtain ⟨L, h, len, r⟩ := g.lst
  exact ⟨g.new, g.same.trans s, L, s _ _ h, len, fun k v e => mono k v H H' p L h s.exP (r k v e)⟩
section
variable {K : PySem.W.Frag} {σ : L2.St} {H : Hp} {D : Ends} {te : TE} {g t : TG} {u : TGs} {v : V} {r : List V} {R : L2.St → Hp → Prop} {i : Nat} {L : List V} {A : Addr → Prop}
theorem r_asgG (h : te σ H fun x H1 => g x σ H1 D.nx) : tAsg te g D σ H := h
theorem r_gName (h : R (σ.set i (some v)) H) : gName i v σ H R := h
theorem r_gNil (h : R σ H) : gNil [] σ H R := ⟨rfl, h⟩
theorem r_gCons (h : t v σ H fun σ' H' => u r σ' H' R) : gCons t u (v :: r) σ H R := ⟨v, r, rfl, h⟩
theorem r_gTup {n : Nat} {a : Addr} (hs : SqT K H a r) (hl : r.length = n) (h : u r σ H R) : gTup K n u (.ref a) σ H R := ⟨a, r, rfl, hs, hl, h⟩
theorem r_new (h : L.length ≤ 100000) (k : ∀ p, A p) : L.length ≤ sizeLine ∧ ∀ p, A p := ⟨szl h, k⟩
theorem r_par {i j : Nat} {ta : TA} (h : ta σ H fun vs H1 => ∃ v w, vs = [v, w] ∧ D.nx ((σ.set i (some v)).set j (some w)) H1) : tPar i j ta D σ H := h
end
theorem cdivN (a b : Nat) : ((a : Int) / (b : Int)) = ((a / b : Nat) : Int) := (Int.natCast_ediv _ _).symm
theorem cmodN (a b : Nat) : ((a : Int) % (b : Int)) = ((a % b : Nat) : Int) := (Int.natCast_emod _ _).symm
theorem caddN (a b : Nat) : ((a : Int) + (b : Int)) = ((a + b : Nat) : Int) := (Int.natCast_add _ _).symm
theorem cmulN (a b : Nat) : ((a : Int) * (b : Int)) = ((a * b : Nat) : Int) := (Int.natCast_mul _ _).symm
section
variable {σ : L2.St} {H : Hp} {D : Ends}
theorem r_par3 {i j l : Nat} {ta : TA} (h : ta σ H fun vs H1 => ∃ u v w, vs = [u, v, w] ∧ D.nx (((σ.set i (some u)).set j (some v)).set l (some w)) H1) : tPar3 i j l ta D σ H := h
theorem r_lstRg1 {ta : TE} {Q : VK} (h : ta σ H fun x H1 => ∃ n, x = .int n ∧ (RgOk 0 n ∧ ∀ q, H1 q = none → Q (.ref q) (upd H1 q (.lst (rgV 0 n))))) : tLstRg (tRg1 ta) σ H Q := h
theorem r_tupRg1 {ta : TE} {Q : VK} (h : ta σ H fun x H1 => ∃ n, x = .int n ∧ (RgOk 0 n ∧ ∀ q, H1 q = none → Q (.ref q) (upd H1 q (.tup (rgV 0 n))))) : tTupRg (tRg1 ta) σ H Q := h
end
/-- a list or tuple whose items are told one by one -/
theorem list_eq {L : List V} {f : Nat → V} {n : Nat} (len : L.length = n) (r : ∀ i v, L[i]? = some v → v = f i) : L = (List.range n).map f := by
  apply List.ext_getElem?
  intro i
  rw [List.getElem?_map]
  by_cases c : i < n
  · have cl : i < L.length := by omega
    rw [List.getElem?_eq_getElem cl, List.getElem?_range c]
    exact congrArg some (r i _ (List.getElem?_eq_getElem cl))
  · rw [List.getElem?_eq_none (by omega), List.getElem?_eq_none (by rw [List.length_range]; omega)]
    rfl
theorem mut_val {f : V} : Mut fun v _ => v = f := fun _ _ _ _ _ _ _ h => h
section
variable {K : PySem.W.Frag} {j : Nat} {tl te : TE} {vs : List Nat} {σ : L2.St} {H : Hp} {Q : VK} {a : Addr} {xs : List V}
/-- over a list: the items told by R -/
theorem lc_lst (R : Nat → V → Hp → Prop) (hs : SqL K H a xs) (hz : xs.length ≤ 50000) (htl : ∀ R' : V → Hp → Prop, R' (.ref a) H → tl σ H R') (mono : ∀ i, Mut (R i))
    (step : ∀ (i : Nat) x H1 (Q' : VK), xs[i]? = some x → Same H H1 → (∀ v H2, Same H1 H2 → R i v H2 → Q' v H2) → te ((wipe σ vs).set j (some x)) H1 Q')
    (done : ∀ D L H1, H D = none → Same H H1 → H1 D = some (.lst L) → L.length = xs.length → (∀ i v, L[i]? = some v → R i v H1) → Q (.ref D) H1) (hw : ∀ x, wipe ((wipe σ vs).set j (some x)) vs = wipe σ vs := by intro _; rfl) : tLc (iList K tl) (gName j) tYes te vs σ H Q := by
  refine htl _ ⟨a, rfl, ⟨xs, hs⟩, fun D hD => ?_⟩
  refine lc_list (K := K) (a := a) (xs := xs) (fun i H1 => ∃ L, Same H H1 ∧ H1 D = some (.lst L) ∧ L.length = i ∧ ∀ k v, L[k]? = some v → R k v H1) ⟨[], same_new hD, upd_same, rfl, fun k v e => by simp at e⟩ (fun i H1 _ ⟨_, s1, _⟩ => s1.seq hs) ?_ ?_
  · rintro i x H1 hx ⟨L, s1, hL, len, r⟩
    have hi : i < xs.length := (List.getElem?_eq_some_iff.mp hx).1
    refine ⟨hw _, ?_⟩
    show te _ H1 _
    refine step i x H1 _ hx s1 fun v H2 s2 rv => ?_
    have hL2 := s2 _ _ hL
    refine ⟨L, hL2, szlt (by omega), L ++ [v], fun b o e => ?_, upd_same, by rw [List.length_append, len]; rfl, fun k w e => ?_⟩
    · rw [upd_ne (ne_of_none e hD)]; exact s2 _ _ (s1 _ _ e)
    · rcases get_snoc e with ⟨_, q⟩ | ⟨q, rfl⟩
      · exact mono k w H2 _ D L hL2 ExP.upd (mono k w H1 H2 D L hL (L2.Same.exP s2) (r k w q))
      · rw [q, len]
        exact mono i w H2 _ D L hL2 ExP.upd rv
  · rintro H1 ⟨L, s1, hL, len, r⟩
    exact done D L H1 hD s1 hL len r
end
/-- a list of the numbers o 0 .. o (n - 1) -/
def natsV (n : Nat) (o : Nat → Nat) : List V := (List.range n).map fun i => V.int ((o i : Nat) : Int)
theorem natsV_len {n : Nat} {o : Nat → Nat} : (natsV n o).length = n := by unfold natsV; rw [List.length_map, List.length_range]
theorem natsV_get {n : Nat} {o : Nat → Nat} {i : Nat} (h : i < n) : (natsV n o)[i]? = some (.int ((o i : Nat) : Int)) := by
  unfold natsV
  rw [List.getElem?_map, List.getElem?_range h]
  rfl
theorem natsV_flat {n : Nat} {o : Nat → Nat} : (natsV n o).all flatV = true := by
  unfold natsV
  rw [List.all_map]
  exact List.all_eq_true.mpr fun _ _ => rfl
theorem rgV_nats (n : Nat) : rgV 0 (n : Int) = natsV n id := by
  unfold rgV natsV
  have e : ((n : Int) - 0).toNat = n := by omega
  rw [e]
  exact List.map_congr_left fun i _ => by rw [Int.zero_add]; rfl
section
variable {K : PySem.W.Frag} {j : Nat} {tl te : TE} {vs : List Nat} {σ : L2.St} {H : Hp} {Q : VK} {a : Addr} {xs : List V}
/-- over a tuple: the items told by R -/
theorem lc_tpl (R : Nat → V → Hp → Prop) (hs : SqT K H a xs) (hz : xs.length ≤ 50000) (htl : ∀ R' : V → Hp → Prop, R' (.ref a) H → tl σ H R') (mono : ∀ i, Mut (R i))
    (step : ∀ (i : Nat) x H1 (Q' : VK), xs[i]? = some x → Same H H1 → (∀ v H2, Same H1 H2 → R i v H2 → Q' v H2) → te ((wipe σ vs).set j (some x)) H1 Q')
    (done : ∀ D L H1, H D = none → Same H H1 → H1 D = some (.lst L) → L.length = xs.length → (∀ i v, L[i]? = some v → R i v H1) → Q (.ref D) H1) (hw : ∀ x, wipe ((wipe σ vs).set j (some x)) vs = wipe σ vs := by intro _; rfl) : tLc (iTup K tl) (gName j) tYes te vs σ H Q := by
  refine htl _ ⟨a, rfl, ⟨xs, hs⟩, fun D hD => ?_⟩
  refine lc_tup (K := K) (a := a) (xs := xs) (fun i H1 => ∃ L, Same H H1 ∧ H1 D = some (.lst L) ∧ L.length = i ∧ ∀ k v, L[k]? = some v → R k v H1) ⟨[], same_new hD, upd_same, rfl, fun k v e => by simp at e⟩ (fun i H1 _ ⟨_, s1, _⟩ => s1.sqT hs) ?_ ?_
  · rintro i x H1 hx ⟨L, s1, hL, len, r⟩
    have hi : i < xs.length := (List.getElem?_eq_some_iff.mp hx).1
    refine ⟨hw _, ?_⟩
    show te _ H1 _
    refine step i x H1 _ hx s1 fun v H2 s2 rv => ?_
    have hL2 := s2 _ _ hL
    refine ⟨L, hL2, szlt (by omega), L ++ [v], fun b o e => ?_, upd_same, by rw [List.length_append, len]; rfl, fun k w e => ?_⟩
    · rw [upd_ne (ne_of_none e hD)]; exact s2 _ _ (s1 _ _ e)
    · rcases get_snoc e with ⟨_, q⟩ | ⟨q, rfl⟩
      · exact mono k w H2 _ D L hL2 ExP.upd (mono k w H1 H2 D L hL (L2.Same.exP s2) (r k w q))
      · rw [q, len]
        exact mono i w H2 _ D L hL2 ExP.upd rv
  · rintro H1 ⟨L, s1, hL, len, r⟩
    exact done D L H1 hD s1 hL len r
end
end Wk
end
section
set_option linter.all false
/-! Groups on the numbers below n, as functions: the ones that are made. Core Lean. -/
namespace G
structure IsNe (n : Nat) (m : Nat → Nat → Nat) (e : Nat) : Prop where
  lt : e < n
  l : ∀ x, x < n → m e x = x
  r : ∀ x, x < n → m x e = x
structure Grp (n : Nat) (m : Nat → Nat → Nat) : Prop where
  cl : ∀ x y, x < n → y < n → m x y < n
  as : ∀ x y z, x < n → y < n → z < n → m (m x y) z = m x (m y z)
  ne : ∃ e, IsNe n m e ∧ ∀ x, x < n → ∃ y, y < n ∧ m x y = e ∧ m y x = e
theorem Grp.pos {n m} (g : Grp n m) : 0 < n := by
  obtain ⟨e, h, _⟩ := g.ne
  exact Nat.lt_of_le_of_lt (Nat.zero_le _) h.lt
theorem IsNe.uniq {n m e f} (a : IsNe n m e) (b : IsNe n m f) : e = f := (b.r e a.lt).symm.trans (a.l f b.lt)
/-! ### cyclic -/
def cyc (n : Nat) (x y : Nat) : Nat := (x + y) % n
theorem cyc_grp {n : Nat} (h : 0 < n) : Grp n (cyc n) where
  cl := fun x y _ _ => Nat.mod_lt _ h
  as := fun x y z _ _ _ => by
    unfold cyc
    rw [Nat.mod_add_mod, Nat.add_mod_mod, Nat.add_assoc]
  ne := ⟨0, ⟨h, fun x hx => by unfold cyc; rw [Nat.zero_add, Nat.mod_eq_of_lt hx], fun x hx => by unfold cyc; rw [Nat.add_zero, Nat.mod_eq_of_lt hx]⟩, fun x hx => by
    by_cases e : x = 0
    · subst e; exact ⟨0, h, by unfold cyc; simp, by unfold cyc; simp⟩
    · refine ⟨n - x, by omega, ?_, ?_⟩
      · unfold cyc; rw [show x + (n - x) = n by omega, Nat.mod_self]
      · unfold cyc; rw [show n - x + x = n by omega, Nat.mod_self]⟩
/-! ### products -/
def prd (k : Nat) (m1 m2 : Nat → Nat → Nat) (x y : Nat) : Nat := m1 (x / k) (y / k) * k + m2 (x % k) (y % k)
theorem dm {a b k : Nat} (h : b < k) : (a * k + b) / k = a ∧ (a * k + b) % k = b := by
  have hk : 0 < k := by omega
  constructor
  · rw [Nat.mul_comm, Nat.mul_add_div hk, Nat.div_eq_of_lt h, Nat.add_zero]
  · rw [Nat.mul_comm, Nat.mul_add_mod, Nat.mod_eq_of_lt h]
theorem lt_mul {a b n k : Nat} (ha : a < n) (hb : b < k) : a * k + b < n * k := by
  have : (a + 1) * k ≤ n * k := Nat.mul_le_mul_right _ ha
  rw [Nat.succ_mul] at this
  omega
theorem prd_grp {n k : Nat} {m1 m2 : Nat → Nat → Nat} (g1 : Grp n m1) (g2 : Grp k m2) : Grp (n * k) (prd k m1 m2) := by
  have hk := g2.pos
  have dv : ∀ x, x < n * k → x / k < n := fun x hx => Nat.div_lt_of_lt_mul (by rw [Nat.mul_comm]; exact hx)
  have md : ∀ x, x % k < k := fun x => Nat.mod_lt _ hk
  have sp : ∀ x, x / k * k + x % k = x := fun x => by rw [Nat.mul_comm]; exact Nat.div_add_mod x k
  have c2 : ∀ x y, m2 (x % k) (y % k) < k := fun x y => g2.cl _ _ (md x) (md y)
  refine ⟨fun x y hx hy => lt_mul (g1.cl _ _ (dv x hx) (dv y hy)) (c2 x y), fun x y z hx hy hz => ?_, ?_⟩
  · unfold prd
    rw [(dm (c2 x y)).1, (dm (c2 x y)).2, (dm (c2 y z)).1, (dm (c2 y z)).2, g1.as _ _ _ (dv x hx) (dv y hy) (dv z hz), g2.as _ _ _ (md x) (md y) (md z)]
  · obtain ⟨e1, ⟨l1, a1, b1⟩, i1⟩ := g1.ne
    obtain ⟨e2, ⟨l2, a2, b2⟩, i2⟩ := g2.ne
    refine ⟨e1 * k + e2, ⟨lt_mul l1 l2, fun x hx => ?_, fun x hx => ?_⟩, fun x hx => ?_⟩
    · unfold prd
      rw [(dm l2).1, (dm l2).2, a1 _ (dv x hx), a2 _ (md x), sp]
    · unfold prd
      rw [(dm l2).1, (dm l2).2, b1 _ (dv x hx), b2 _ (md x), sp]
    · obtain ⟨y1, h1, p1, q1⟩ := i1 _ (dv x hx)
      obtain ⟨y2, h2, p2, q2⟩ := i2 _ (md x)
      refine ⟨y1 * k + y2, lt_mul h1 h2, ?_, ?_⟩
      · unfold prd; rw [(dm h2).1, (dm h2).2, p1, p2]
      · unfold prd; rw [(dm h2).1, (dm h2).2, q1, q2]
/-! ### dihedral: (a, s) as a + n * s -/
def dih (n : Nat) (x y : Nat) : Nat := if x / n = 0 then (x % n + y % n) % n + n * (y / n) else (x % n + (n - y % n)) % n + n * (1 - y / n)
theorem dih_grp {n : Nat} (h : 0 < n) : Grp (2 * n) (dih n) := by
  have md : ∀ x, x % n < n := fun x => Nat.mod_lt _ h
  have dv : ∀ x, x < 2 * n → x / n < 2 := fun x hx => Nat.div_lt_of_lt_mul (by rw [Nat.mul_comm]; exact hx)
  have sp : ∀ x, x % n + n * (x / n) = x := fun x => Nat.mod_add_div x n
  have two : ∀ q : Nat, q < 2 → q = 0 ∨ q = 1 := by omega
  have d1 : ∀ a s, a < n → (a + n * s) / n = s := fun a s ha => by rw [Nat.add_mul_div_left _ _ h, Nat.div_eq_of_lt ha, Nat.zero_add]
  have m1 : ∀ a s, a < n → (a + n * s) % n = a := fun a s ha => by rw [Nat.add_mul_mod_self_left, Nat.mod_eq_of_lt ha]
  have lt : ∀ a s, a < n → s < 2 → a + n * s < 2 * n := fun a s ha hs => by
    have : s = 0 ∨ s = 1 := by omega
    rcases this with rfl | rfl <;> omega
  -- sums modulo n, with a number taken away
  have ms : ∀ a b, a < n → b < n → (a + (n - b)) % n = if b ≤ a then a - b else a + n - b := fun a b ha hb => by
    by_cases c : b ≤ a
    · rw [if_pos c, show a + (n - b) = (a - b) + n by omega, Nat.add_mod_right, Nat.mod_eq_of_lt (by omega)]
    · rw [if_neg c, Nat.mod_eq_of_lt (by omega)]; omega
  have ps : ∀ a b, a < n → b < n → (a + b) % n = if a + b < n then a + b else a + b - n := fun a b ha hb => by
    by_cases c : a + b < n
    · rw [if_pos c, Nat.mod_eq_of_lt c]
    · rw [if_neg c, Nat.mod_eq_sub_mod (by omega), Nat.mod_eq_of_lt (by omega)]
  have val : ∀ a s b t, a < n → s < 2 → b < n → t < 2 → dih n (a + n * s) (b + n * t) = if s = 0 then (a + b) % n + n * t else (a + (n - b)) % n + n * (1 - t) := fun a s b t ha hs hb ht => by
    unfold dih
    rw [d1 a s ha, d1 b t hb, m1 a s ha, m1 b t hb]
  refine ⟨fun x y hx hy => ?_, fun x y z hx hy hz => ?_, ?_⟩
  · unfold dih
    split
    · exact lt _ _ (md _) (dv y hy)
    · exact lt _ _ (md _) (Nat.lt_succ_of_le (Nat.sub_le 1 _))
  · rw [← sp x, ← sp y, ← sp z]
    generalize ha : x % n = a
    generalize hs : x / n = s
    generalize hb : y % n = b
    generalize ht : y / n = t
    generalize hc : z % n = c
    generalize hu : z / n = u
    have a0 : a < n := ha ▸ md x
    have b0 : b < n := hb ▸ md y
    have c0 : c < n := hc ▸ md z
    have s0 : s < 2 := hs ▸ dv x hx
    have t0 : t < 2 := ht ▸ dv y hy
    have u0 : u < 2 := hu ▸ dv z hz
    have es : s = 0 ∨ s = 1 := by omega
    have et : t = 0 ∨ t = 1 := by omega
    rw [val a s b t a0 s0 b0 t0, val b t c u b0 t0 c0 u0]
    rcases es with rfl | rfl
    · rcases et with rfl | rfl
      · simp only [if_true]
        rw [val _ _ _ _ (md _) (by omega) c0 u0, val _ _ _ _ a0 (by omega) (md _) u0]
        simp only [if_true]
        rw [Nat.mod_add_mod, Nat.add_mod_mod, Nat.add_assoc]
      · simp only [if_true, Nat.succ_ne_zero, if_false, Nat.one_ne_zero]
        rw [val _ _ _ _ (md _) (by omega) c0 u0, val _ _ _ _ a0 (by omega) (md _) (by omega)]
        simp only [if_true, Nat.one_ne_zero, if_false]
        rw [Nat.mod_add_mod, Nat.add_mod_mod, Nat.add_assoc]
    · have e1 : ∀ q, (if (1 : Nat) = 0 then q else (a + (n - b)) % n + n * (1 - t)) = (a + (n - b)) % n + n * (1 - t) := fun q => if_neg (by decide)
      rw [e1]
      rcases et with rfl | rfl
      · simp only [if_true]
        rw [val _ _ _ _ (md _) (by omega) c0 u0, val _ _ _ _ a0 (by omega) (md _) u0]
        simp only [Nat.sub_zero, Nat.one_ne_zero, if_false]
        rw [ms a b a0 b0, ps b c b0 c0]
        by_cases q : b ≤ a
        · rw [if_pos q]
          by_cases r : b + c < n
          · rw [if_pos r, ms _ _ (by omega) c0, ms _ _ a0 (by omega)]
            congr 1
            split <;> split <;> omega
          · rw [if_neg r, ms _ _ (by omega) c0, ms _ _ a0 (by omega)]
            congr 1
            split <;> split <;> omega
        · rw [if_neg q]
          by_cases r : b + c < n
          · rw [if_pos r, ms _ _ (by omega) c0, ms _ _ a0 (by omega)]
            congr 1
            split <;> split <;> omega
          · rw [if_neg r, ms _ _ (by omega) c0, ms _ _ a0 (by omega)]
            congr 1
            split <;> split <;> omega
      · simp only [Nat.sub_self, Nat.one_ne_zero, if_false]
        rw [val _ _ _ _ (md _) (by omega) c0 u0, val _ _ _ _ a0 (by omega) (md _) (by omega)]
        simp only [if_true, Nat.one_ne_zero, if_false]
        rw [ms a b a0 b0, ms b c b0 c0]
        have eu : 1 - (1 - u) = u := by omega
        rw [eu]
        congr 1
        by_cases q : b ≤ a
        · rw [if_pos q]
          by_cases r : c ≤ b
          · rw [if_pos r, ps _ _ (by omega) c0, ms _ _ a0 (by omega)]
            split <;> split <;> omega
          · rw [if_neg r, ps _ _ (by omega) c0, ms _ _ a0 (by omega)]
            split <;> split <;> omega
        · rw [if_neg q]
          by_cases r : c ≤ b
          · rw [if_pos r, ps _ _ (by omega) c0, ms _ _ a0 (by omega)]
            split <;> split <;> omega
          · rw [if_neg r, ps _ _ (by omega) c0, ms _ _ a0 (by omega)]
            split <;> split <;> omega
  · have v0 : ∀ x, x < 2 * n → dih n 0 x = x := fun x hx => by
      have := val 0 0 (x % n) (x / n) h (by omega) (md x) (dv x hx)
      rw [if_pos rfl, sp, Nat.mul_zero, Nat.add_zero, Nat.zero_add, Nat.mod_mod, sp] at this
      exact this
    refine ⟨0, ⟨by omega, v0, fun x hx => ?_⟩, fun x hx => ?_⟩
    · have := val (x % n) (x / n) 0 0 (md x) (dv x hx) h (by omega)
      rw [sp, Nat.mul_zero, Nat.add_zero] at this
      rw [this]
      have : x / n = 0 ∨ x / n = 1 := two _ (dv x hx)
      rcases this with e | e
      · rw [if_pos e, Nat.add_zero, Nat.add_zero, Nat.mod_mod]
        have := sp x; rw [e, Nat.mul_zero, Nat.add_zero] at this; exact this
      · rw [if_neg (by rw [e]; decide), Nat.sub_zero, Nat.add_mod_right, Nat.mod_mod]
        have := sp x; rw [e] at this; simpa using this
    · have : x / n = 0 ∨ x / n = 1 := two _ (dv x hx)
      have p0 := sp x
      rcases this with e | e
      · rw [e, Nat.mul_zero, Nat.add_zero] at p0
        have xl : x < n := by rw [← p0]; exact md x
        by_cases z : x = 0
        · subst z; exact ⟨0, by omega, v0 0 (by omega), v0 0 (by omega)⟩
        · refine ⟨n - x, by omega, ?_, ?_⟩
          · have := val x 0 (n - x) 0 xl (by omega) (by omega) (by omega)
            rw [Nat.mul_zero, Nat.add_zero, Nat.add_zero, if_pos rfl, show x + (n - x) = n by omega, Nat.mod_self] at this
            exact this
          · have := val (n - x) 0 x 0 (by omega) (by omega) xl (by omega)
            rw [Nat.mul_zero, Nat.add_zero, Nat.add_zero, if_pos rfl, show n - x + x = n by omega, Nat.mod_self] at this
            exact this
      · refine ⟨x, hx, ?_, ?_⟩
        all_goals
          have := val (x % n) (x / n) (x % n) (x / n) (md x) (dv x hx) (md x) (dv x hx)
          rw [sp, e, if_neg (by decide), show x % n + (n - x % n) = n by have := md x; omega, Nat.mod_self] at this
          simpa using this
/-! ### renamed -/
structure Perm (n : Nat) (o p : Nat → Nat) : Prop where
  ol : ∀ x, x < n → o x < n
  pl : ∀ x, x < n → p x < n
  po : ∀ x, x < n → p (o x) = x
  op : ∀ x, x < n → o (p x) = x
def ren (m : Nat → Nat → Nat) (o p : Nat → Nat) (x y : Nat) : Nat := p (m (o x) (o y))
theorem ren_grp {n : Nat} {m : Nat → Nat → Nat} {o p : Nat → Nat} (g : Grp n m) (h : Perm n o p) : Grp n (ren m o p) := by
  have c : ∀ x y, x < n → y < n → m (o x) (o y) < n := fun x y hx hy => g.cl _ _ (h.ol x hx) (h.ol y hy)
  refine ⟨fun x y hx hy => h.pl _ (c x y hx hy), fun x y z hx hy hz => ?_, ?_⟩
  · unfold ren
    rw [h.op _ (c x y hx hy), h.op _ (c y z hy hz), g.as _ _ _ (h.ol x hx) (h.ol y hy) (h.ol z hz)]
  · obtain ⟨e, ⟨l, a, b⟩, i⟩ := g.ne
    refine ⟨p e, ⟨h.pl e l, fun x hx => ?_, fun x hx => ?_⟩, fun x hx => ?_⟩
    · unfold ren; rw [h.op e l, a _ (h.ol x hx), h.po x hx]
    · unfold ren; rw [h.op e l, b _ (h.ol x hx), h.po x hx]
    · obtain ⟨y, hy, p1, p2⟩ := i (o x) (h.ol x hx)
      refine ⟨p y, h.pl y hy, ?_, ?_⟩
      · unfold ren; rw [h.op y hy, p1]
      · unfold ren; rw [h.op y hy, p2]
end G
end
section
set_option linter.all false

namespace G
/-! ### the quaternions: the law's own formula -/
def qN (u v : Nat) : Bool := !((u == 1 && v == 2) || (u == 2 && v == 3) || (u == 3 && v == 1))
def qua (x y : Nat) : Nat :=
  if 0 < x / 2 ∧ x / 2 = y / 2 then 1 - (x + y) % 2
  else if 0 < x / 2 ∧ 0 < y / 2 then 2 * (6 - x / 2 - y / 2) + ((x + y) % 2 + if qN (x / 2) (y / 2) then 1 else 0) % 2
  else 2 * (x / 2 + y / 2) + (x + y) % 2
theorem qua_grp : Grp 8 qua where
  cl := by
    have h : ∀ x : Fin 8, ∀ y : Fin 8, qua x y < 8 := by decide +kernel
    exact fun x y hx hy => h ⟨x, hx⟩ ⟨y, hy⟩
  as := by
    have h : ∀ x : Fin 8, ∀ y : Fin 8, ∀ z : Fin 8, qua (qua x y) z = qua x (qua y z) := by decide +kernel
    exact fun x y z hx hy hz => h ⟨x, hx⟩ ⟨y, hy⟩ ⟨z, hz⟩
  ne := by
    have h1 : ∀ x : Fin 8, qua 0 x = x ∧ qua x 0 = x := by decide +kernel
    have h2 : ∀ x : Fin 8, ∃ y : Fin 8, qua x y = 0 ∧ qua y x = 0 := by decide +kernel
    refine ⟨0, ⟨by decide, fun x hx => (h1 ⟨x, hx⟩).1, fun x hx => (h1 ⟨x, hx⟩).2⟩, fun x hx => ?_⟩
    obtain ⟨y, p⟩ := h2 ⟨x, hx⟩
    exact ⟨y, y.2, p⟩
/-! ### the permutations of three numbers -/
def prow (k : Nat) (row : List Nat) (n : Nat) : List (List Nat) := ((List.range n).filter fun v => decide (v ∉ row)).map fun v => row ++ [v]
def pstep (k : Nat) (fs : List (List Nat)) : List (List Nat) := fs.flatMap fun row => prow k row k
def pit (k : Nat) : Nat → List (List Nat)
  | 0 => [[]]
  | n + 1 => pstep k (pit k n)
def perms3 : List (List Nat) := [[0, 1, 2], [0, 2, 1], [1, 0, 2], [1, 2, 0], [2, 0, 1], [2, 1, 0]]
theorem pit3 : pit 3 3 = perms3 := by decide +kernel
theorem pit_small : ∀ i : Fin 4, (pit 3 i).length ≤ 6 ∧ ∀ r, r ∈ pit 3 i → r.length ≤ 3 := by decide +kernel
theorem prow_succ (k : Nat) (row : List Nat) (n : Nat) : prow k row (n + 1) = prow k row n ++ if n ∈ row then [] else [row ++ [n]] := by
  unfold prow
  rw [List.range_succ, List.filter_append, List.map_append]
  congr 1
  by_cases c : n ∈ row
  · rw [if_pos c, List.filter_cons, if_neg (by simp [c])]
    rfl
  · rw [if_neg c, List.filter_cons, if_pos (by simp [c])]
    rfl
theorem prow_len (k : Nat) (row : List Nat) (n : Nat) : (prow k row n).length ≤ n := by
  unfold prow
  rw [List.length_map]
  exact Nat.le_trans (List.length_filter_le _ _) (by rw [List.length_range]; exact Nat.le_refl _)
/-- x after y, by the places of the tuples -/
def cmp3 (x y : Nat) : List Nat := (perms3.getD y []).map fun v => (perms3.getD x []).getD v 0
def sym (x y : Nat) : Nat := perms3.findIdx fun r => decide (r = cmp3 x y)
theorem sym_grp : Grp 6 sym where
  cl := by
    have h : ∀ x : Fin 6, ∀ y : Fin 6, sym x y < 6 := by decide +kernel
    exact fun x y hx hy => h ⟨x, hx⟩ ⟨y, hy⟩
  as := by
    have h : ∀ x : Fin 6, ∀ y : Fin 6, ∀ z : Fin 6, sym (sym x y) z = sym x (sym y z) := by decide +kernel
    exact fun x y z hx hy hz => h ⟨x, hx⟩ ⟨y, hy⟩ ⟨z, hz⟩
  ne := by
    have h1 : ∀ x : Fin 6, sym 0 x = x ∧ sym x 0 = x := by decide +kernel
    have h2 : ∀ x : Fin 6, ∃ y : Fin 6, sym x y = 0 ∧ sym y x = 0 := by decide +kernel
    refine ⟨0, ⟨by decide, fun x hx => (h1 ⟨x, hx⟩).1, fun x hx => (h1 ⟨x, hx⟩).2⟩, fun x hx => ?_⟩
    obtain ⟨y, p⟩ := h2 ⟨x, hx⟩
    exact ⟨y, y.2, p⟩
end G
end
section
set_option linter.all false
/-! Powers and orders in a group on the numbers below n. Core Lean. -/
namespace G
def pw (m : Nat → Nat → Nat) (e x : Nat) : Nat → Nat
  | 0 => e
  | k + 1 => m (pw m e x k) x
section
variable {n e x : Nat} {m : Nat → Nat → Nat}
theorem pw_lt (g : Grp n m) (he : IsNe n m e) (hx : x < n) : ∀ k, pw m e x k < n
  | 0 => he.lt
  | k + 1 => g.cl _ _ (pw_lt g he hx k) hx
theorem pw_one (he : IsNe n m e) (hx : x < n) : pw m e x 1 = x := he.l x hx
theorem pw_add (g : Grp n m) (he : IsNe n m e) (hx : x < n) (a : Nat) : ∀ b, pw m e x (a + b) = m (pw m e x a) (pw m e x b)
  | 0 => (he.r _ (pw_lt g he hx a)).symm
  | b + 1 => by
    show m (pw m e x (a + b)) x = m (pw m e x a) (m (pw m e x b) x)
    rw [pw_add g he hx a b]
    exact g.as _ _ _ (pw_lt g he hx a) (pw_lt g he hx b) hx
theorem cancel (g : Grp n m) (he : IsNe n m e) {a b : Nat} (ha : a < n) (hb : b < n) (h : m a b = a) : b = e := by
  obtain ⟨e', he', hi⟩ := g.ne
  have ee : e' = e := he'.uniq he
  subst ee
  obtain ⟨c, hc, _, h2⟩ := hi a ha
  have h3 : m (m c a) b = m c a := by rw [g.as c a b hc ha hb, h]
  rw [h2, he'.l b hb] at h3
  exact h3
/-- numbers below n, n + 1 of them: two are alike -/
theorem pigeon : ∀ (n : Nat) (f : Nat → Nat), (∀ i, i ≤ n → f i < n) → ∃ i j, i < j ∧ j ≤ n ∧ f i = f j
  | 0, f, h => absurd (h 0 (Nat.le_refl _)) (Nat.not_lt_zero _)
  | n + 1, f, h => by
    by_cases c : ∃ i, i < n + 1 ∧ f i = f (n + 1)
    · obtain ⟨i, hi, q⟩ := c
      exact ⟨i, n + 1, hi, Nat.le_refl _, q⟩
    · -- swap the last value out
      have c' : ∀ i, i < n + 1 → f i ≠ f (n + 1) := fun i hi q => c ⟨i, hi, q⟩
      obtain ⟨i, j, hij, hj, q⟩ := pigeon n (fun i => if f i = n then f (n + 1) else f i) (fun i hi => by
        have h1 := h i (by omega)
        have h2 := h (n + 1) (Nat.le_refl _)
        have h3 := c' i (by omega)
        show (if f i = n then f (n + 1) else f i) < n
        by_cases z : f i = n
        · rw [if_pos z]; omega
        · rw [if_neg z]; omega)
      have q' : (if f i = n then f (n + 1) else f i) = (if f j = n then f (n + 1) else f j) := q
      have h1 := c' i (by omega)
      have h2 := c' j (by omega)
      refine ⟨i, j, hij, by omega, ?_⟩
      by_cases z1 : f i = n <;> by_cases z2 : f j = n
      · rw [z1, z2]
      · rw [if_pos z1, if_neg z2] at q'
        exact absurd q'.symm h2
      · rw [if_neg z1, if_pos z2] at q'
        exact absurd q' h1
      · rw [if_neg z1, if_neg z2] at q'
        exact q'
/-- k is x's order -/
structure IsOrd (n : Nat) (m : Nat → Nat → Nat) (e x k : Nat) : Prop where
  pos : 0 < k
  le : k ≤ n
  at_ : pw m e x k = e
  least : ∀ j, 0 < j → j < k → pw m e x j ≠ e
theorem least_of {p : Nat → Prop} : ∀ k, 0 < k → p k → ∃ j, 0 < j ∧ j ≤ k ∧ p j ∧ ∀ i, 0 < i → i < j → ¬ p i := by
  intro k
  induction k using Nat.strongRecOn with
  | ind k ih =>
    intro hk hp
    by_cases c : ∃ i, 0 < i ∧ i < k ∧ p i
    · obtain ⟨i, h1, h2, h3⟩ := c
      obtain ⟨j, a, b, r⟩ := ih i h2 h1 h3
      exact ⟨j, a, by omega, r⟩
    · exact ⟨k, hk, Nat.le_refl _, hp, fun i h1 h2 h3 => c ⟨i, h1, h2, h3⟩⟩
theorem ord_ex (g : Grp n m) (he : IsNe n m e) (hx : x < n) : ∃ k, IsOrd n m e x k := by
  obtain ⟨i, j, hij, hj, q⟩ := pigeon n (pw m e x) (fun i _ => pw_lt g he hx i)
  have h1 : pw m e x j = m (pw m e x i) (pw m e x (j - i)) := by
    rw [← pw_add g he hx i (j - i)]
    congr 1
    omega
  have h2 : pw m e x (j - i) = e := cancel g he (pw_lt g he hx i) (pw_lt g he hx _) (by rw [← h1, q])
  obtain ⟨k, k1, k2, k3, k4⟩ := least_of (p := fun k => pw m e x k = e) (j - i) (by omega) h2
  exact ⟨k, k1, by omega, k3, k4⟩
theorem IsOrd.uniq {k k' : Nat} (a : IsOrd n m e x k) (b : IsOrd n m e x k') : k = k' := by
  rcases Nat.lt_trichotomy k k' with h | h | h
  · exact absurd a.at_ (b.least k a.pos h)
  · exact h
  · exact absurd b.at_ (a.least k' b.pos h)
/-- the inverse of a member is one only -/
theorem inv_uniq (g : Grp n m) (he : IsNe n m e) {y z : Nat} (hx : x < n) (hy : y < n) (hz : z < n) (h1 : m x y = e) (h2 : m z x = e) : y = z := by
  have h3 : m (m z x) y = m z (m x y) := g.as z x y hz hx hy
  rw [h1, h2, he.l y hy, he.r z hz] at h3
  exact h3
end
end G
end
section
set_option linter.all false
/-! the walk that finds a homomorphism by its values at generators -/
namespace G
def Hom (n : Nat) (m1 m2 : Nat → Nat → Nat) (f : Nat → Nat) : Prop := ∀ x y, x < n → y < n → f (m1 x y) = m2 (f x) (f y)
structure Wlk (n k : Nat) (m1 m2 : Nat → Nat → Nat) (S Vs : List Nat) (e e2 : Nat) (A : List Nat) (F : Nat → Nat) (i sl : Nat) : Prop where
  nd : A.Nodup
  lt : ∀ x ∈ A, x < n
  flt : ∀ x ∈ A, F x < k
  head : A[0]? = some e
  fe : F e = e2
  reach : ∀ (j x : Nat), A[j]? = some x → 0 < j → ∃ (j' x' s y v : Nat), j' < j ∧ A[j']? = some x' ∧ S[s]? = some y ∧ Vs[s]? = some v ∧ x = m1 x' y ∧ F x = m2 (F x') v
  fin : ∀ (j x s y v : Nat), A[j]? = some x → (j < i ∨ (j = i ∧ s < sl)) → S[s]? = some y → Vs[s]? = some v → m1 x y ∈ A ∧ F (m1 x y) = m2 (F x) v
section
variable {n k : Nat} {m1 m2 : Nat → Nat → Nat} {S Vs : List Nat} {e e2 : Nat} {A : List Nat} {F : Nat → Nat} {i sl : Nat}
theorem Wlk.start (he : e < n) (he2 : e2 < k) (hF : F e = e2) : Wlk n k m1 m2 S Vs e e2 [e] F 0 0 where
  nd := by simp
  lt := fun x hx => by rw [List.mem_singleton.mp hx]; exact he
  flt := fun x hx => by rw [List.mem_singleton.mp hx, hF]; exact he2
  head := rfl
  fe := hF
  reach := fun j x h hj => by
    cases j with
    | zero => omega
    | succ j => simp at h
  fin := fun j x s y v _ h => by omega
theorem Wlk.known (W : Wlk n k m1 m2 S Vs e e2 A F i sl) {x y v : Nat} (hx : A[i]? = some x) (hy : S[sl]? = some y) (hv : Vs[sl]? = some v) (h1 : m1 x y ∈ A) (h2 : F (m1 x y) = m2 (F x) v) : Wlk n k m1 m2 S Vs e e2 A F i (sl + 1) :=
  ⟨W.nd, W.lt, W.flt, W.head, W.fe, W.reach, fun j x' s y' v' hj hs hy' hv' => by
      rcases hs with hs | ⟨rfl, hs⟩
      · exact W.fin j x' s y' v' hj (.inl hs) hy' hv'
      · by_cases c : s = sl
        · subst c
          rw [hx] at hj; rw [hy] at hy'; rw [hv] at hv'
          cases hj; cases hy'; cases hv'
          exact ⟨h1, h2⟩
        · exact W.fin j x' s y' v' hj (.inr ⟨rfl, by omega⟩) hy' hv'⟩
theorem get_old {A : List Nat} {z j x : Nat} (h : (A ++ [z])[j]? = some x) (hz : x ≠ z ∨ j < A.length) : A[j]? = some x := by
  by_cases c : j < A.length
  · rwa [List.getElem?_append_left c] at h
  · rw [List.getElem?_append_right (by omega)] at h
    exfalso
    rcases hz with hz | hz
    · by_cases d : j - A.length = 0
      · rw [d] at h
        exact hz (Option.some.inj h).symm
      · rw [List.getElem?_eq_none (by simp; omega)] at h
        cases h
    · exact c hz
theorem Wlk.new (W : Wlk n k m1 m2 S Vs e e2 A F i sl) (cl1 : ∀ x y, x < n → y < n → m1 x y < n) (cl2 : ∀ x y, x < k → y < k → m2 x y < k) (hS : ∀ y ∈ S, y < n) (hVs : ∀ v ∈ Vs, v < k) {x y v : Nat} (hx : A[i]? = some x) (hy : S[sl]? = some y) (hv : Vs[sl]? = some v) (hz : m1 x y ∉ A) :
    Wlk n k m1 m2 S Vs e e2 (A ++ [m1 x y]) (fun u => if u = m1 x y then m2 (F x) v else F u) i (sl + 1) := by
  have xA := List.mem_of_getElem? hx
  have old : ∀ u ∈ A, (if u = m1 x y then m2 (F x) v else F u) = F u := fun u hu => if_neg fun (q : u = m1 x y) => hz (q ▸ hu)
  have eA : e ∈ A := List.mem_of_getElem? W.head
  have ap : ∀ {j u : Nat}, A[j]? = some u → (A ++ [m1 x y])[j]? = some u := fun {j u} h => by
    have hl := (List.getElem?_eq_some_iff.mp h).1
    rw [List.getElem?_append_left hl]
    exact h
  refine ⟨?_, fun u hu => ?_, fun u hu => ?_, ap W.head, ?_, fun j u hj j0 => ?_, fun j u s y' v' hj hs hy' hv' => ?_⟩
  · rw [List.nodup_append]
    exact ⟨W.nd, by simp, fun a ha b hb q => by rw [List.mem_singleton.mp hb] at q; exact hz (q ▸ ha)⟩
  · rcases List.mem_append.mp hu with hu | hu
    · exact W.lt u hu
    · rw [List.mem_singleton.mp hu]
      exact cl1 _ _ (W.lt x xA) (hS _ (List.mem_of_getElem? hy))
  · rcases List.mem_append.mp hu with hu | hu
    · rw [old u hu]; exact W.flt u hu
    · rw [List.mem_singleton.mp hu, if_pos rfl]
      exact cl2 _ _ (W.flt x xA) (hVs _ (List.mem_of_getElem? hv))
  · rw [old e eA]; exact W.fe
  · by_cases c : j < A.length
    · have hj' := get_old hj (.inr c)
      obtain ⟨j', x', s, y', v', h1, h2, h3, h4, h5, h6⟩ := W.reach j u hj' j0
      refine ⟨j', x', s, y', v', h1, ap h2, h3, h4, h5, ?_⟩
      rw [old u (List.mem_of_getElem? hj'), old x' (List.mem_of_getElem? h2)]
      exact h6
    · have hu : u = m1 x y := by
        refine Classical.byContradiction fun q => c ?_
        exact (List.getElem?_eq_some_iff.mp (get_old hj (.inl q))).1
      subst hu
      have ji : i < j := by
        have := (List.getElem?_eq_some_iff.mp hx).1
        omega
      exact ⟨i, x, sl, y, v, ji, ap hx, hy, hv, rfl, by rw [if_pos rfl, old x xA]⟩
  · by_cases c : j < A.length
    · have hj' := get_old hj (.inr c)
      have uA := List.mem_of_getElem? hj'
      by_cases d : j < i ∨ (j = i ∧ s < sl)
      · obtain ⟨h1, h2⟩ := W.fin j u s y' v' hj' d hy' hv'
        exact ⟨List.mem_append_left _ h1, by rw [old _ h1, old u uA]; exact h2⟩
      · have ej : j = i := by omega
        have es : s = sl := by omega
        subst ej; subst es
        rw [hx] at hj'; rw [hy] at hy'; rw [hv] at hv'
        cases hj'; cases hy'; cases hv'
        exact ⟨List.mem_append_right _ (List.mem_singleton.mpr rfl), by rw [if_pos rfl, old x xA]⟩
    · exfalso
      have := (List.getElem?_eq_some_iff.mp hx).1
      omega
theorem Wlk.next (W : Wlk n k m1 m2 S Vs e e2 A F i S.length) : Wlk n k m1 m2 S Vs e e2 A F (i + 1) 0 :=
  ⟨W.nd, W.lt, W.flt, W.head, W.fe, W.reach, fun j x s y v hj hs hy hv => W.fin j x s y v hj (by
      have := (List.getElem?_eq_some_iff.mp hy).1
      omega) hy hv⟩
theorem Wlk.skip (W : Wlk n k m1 m2 S Vs e e2 A F i 0) (h : A.length ≤ i) : Wlk n k m1 m2 S Vs e e2 A F (i + 1) 0 :=
  ⟨W.nd, W.lt, W.flt, W.head, W.fe, W.reach, fun j x s y v hj hs hy hv => W.fin j x s y v hj (by
      have := (List.getElem?_eq_some_iff.mp hj).1
      omega) hy hv⟩
theorem Wlk.hom (W : Wlk n k m1 m2 S Vs e e2 A F n 0) (g1 : Grp n m1) (g2 : Grp k m2) (he : IsNe n m1 e) (he2 : IsNe k m2 e2) (hS : ∀ y ∈ S, y < n) (hVs : ∀ v ∈ Vs, v < k) (full : ∀ x, x < n → x ∈ A) : Hom n m1 m2 F := by
  have al : A.length ≤ n := by
    have := List.Nodup.length_le_of_subset W.nd (l₂ := List.range n) fun x hx => List.mem_range.mpr (W.lt x hx)
    rwa [List.length_range] at this
  have Fl : ∀ x, x < n → F x < k := fun x hx => W.flt x (full x hx)
  have st : ∀ x s y v, x < n → S[s]? = some y → Vs[s]? = some v → F (m1 x y) = m2 (F x) v := fun x s y v hx hy hv => by
    obtain ⟨j, hj, ej⟩ := List.getElem_of_mem (full x hx)
    exact (W.fin j x s y v (by rw [List.getElem?_eq_getElem hj, ej]) (.inl (by omega)) hy hv).2
  have key : ∀ (j y : Nat), A[j]? = some y → ∀ x, x < n → F (m1 x y) = m2 (F x) (F y) := by
    intro j
    induction j using Nat.strongRecOn with
    | ind j ih =>
      intro y hj x hx
      by_cases c : 0 < j
      · obtain ⟨j', x', s, y', v, h1, h2, h3, h4, h5, h6⟩ := W.reach j y hj c
        have hx' := W.lt x' (List.mem_of_getElem? h2)
        have hy' := hS _ (List.mem_of_getElem? h3)
        have hv := hVs _ (List.mem_of_getElem? h4)
        rw [h6, h5, ← g1.as x x' y' hx hx' hy', st _ s y' v (g1.cl _ _ hx hx') h3 h4, ih j' h1 x' h2 x hx, g2.as _ _ _ (Fl x hx) (Fl x' hx') hv]
      · have j0 : j = 0 := by omega
        subst j0
        rw [W.head] at hj
        cases hj
        rw [W.fe, he.r x hx, he2.r _ (Fl x hx)]
  intro x y hx hy
  obtain ⟨j, hj, ej⟩ := List.getElem_of_mem (full y hy)
  exact key j y (by rw [List.getElem?_eq_getElem hj, ej]) x hx
end
end G
end
section
set_option linter.all false
/-! votes -/
namespace G
/-- inv tells the inverses -/
def InvOf (k : Nat) (m : Nat → Nat → Nat) (e : Nat) (inv : Nat → Nat) : Prop := ∀ x, x < k → inv x < k ∧ m x (inv x) = e ∧ m (inv x) x = e
theorem InvOf.uniq {k : Nat} {m : Nat → Nat → Nat} {e : Nat} {i j : Nat → Nat} (g : Grp k m) (he : IsNe k m e) (a : InvOf k m e i) (b : InvOf k m e j) : ∀ x, x < k → i x = j x := fun x hx =>
  inv_uniq g he hx (a x hx).1 (b x hx).1 (a x hx).2.1 (b x hx).2.2
/-- what y votes for at x -/
def vote (m1 m2 : Nat → Nat → Nat) (inv f : Nat → Nat) (x y : Nat) : Nat := m2 (f (m1 x y)) (inv (f y))
/-- how many of the first j elements vote for h at x -/
def vts (m1 m2 : Nat → Nat → Nat) (inv f : Nat → Nat) (x j h : Nat) : Nat := ((List.range j).filter fun y => vote m1 m2 inv f x y == h).length
section
variable {n k : Nat} {m1 m2 : Nat → Nat → Nat} {inv f : Nat → Nat} {x j h : Nat}
theorem vts_zero : vts m1 m2 inv f x 0 h = 0 := rfl
theorem vts_succ : vts m1 m2 inv f x (j + 1) h = if h = vote m1 m2 inv f x j then vts m1 m2 inv f x j h + 1 else vts m1 m2 inv f x j h := by
  unfold vts
  rw [List.range_succ, List.filter_append, List.length_append]
  by_cases c : h = vote m1 m2 inv f x j
  · rw [if_pos c]
    simp [c]
  · rw [if_neg c]
    have : ¬ (vote m1 m2 inv f x j = h) := fun q => c q.symm
    simp [this]
theorem vts_le : vts m1 m2 inv f x j h ≤ j := by
  unfold vts
  have := List.length_filter_le (fun y => vote m1 m2 inv f x y == h) (List.range j)
  rwa [List.length_range] at this
theorem vote_lt {e2 : Nat} (g1 : Grp n m1) (g2 : Grp k m2) (hi : InvOf k m2 e2 inv) (hf : ∀ x, x < n → f x < k) (hx : x < n) (hj : j < n) : vote m1 m2 inv f x j < k :=
  g2.cl _ _ (hf _ (g1.cl _ _ hx hj)) (hi _ (hf _ hj)).1
theorem vote_congr {inv' : Nat → Nat} (hf : ∀ x, x < n → f x < k) (h : ∀ x, x < k → inv x = inv' x) (hj : j < n) : vote m1 m2 inv f x j = vote m1 m2 inv' f x j := by
  unfold vote
  rw [h _ (hf _ hj)]
end
/-- the least place below k with the greatest value -/
structure IsAm (k : Nat) (c : Nat → Nat) (j : Nat) : Prop where
  lt : j < k
  le : ∀ h, h < k → c h ≤ c j
  least : ∀ i, i < j → c i < c j
theorem am_ex {c : Nat → Nat} : ∀ {k : Nat}, 0 < k → ∃ j, IsAm k c j
  | 0, h => by omega
  | 1, _ => ⟨0, by omega, fun h hh => by rw [show h = 0 by omega]; exact Nat.le_refl _, fun i hi => by omega⟩
  | k + 2, _ => by
    obtain ⟨j, hj⟩ := am_ex (c := c) (k := k + 1) (by omega)
    by_cases q : c j < c (k + 1)
    · refine ⟨k + 1, by omega, fun h hh => ?_, fun i hi => ?_⟩
      · by_cases d : h = k + 1
        · rw [d]; exact Nat.le_refl _
        · have := hj.le h (by omega); omega
      · have := hj.le i (by omega); omega
    · refine ⟨j, by have := hj.lt; omega, fun h hh => ?_, hj.least⟩
      by_cases d : h = k + 1
      · rw [d]; omega
      · exact hj.le h (by omega)
theorem IsAm.uniq {k : Nat} {c : Nat → Nat} {i j : Nat} (a : IsAm k c i) (b : IsAm k c j) : i = j := by
  rcases Nat.lt_trichotomy i j with h | h | h
  · have := b.least i h
    have := a.le j b.lt
    omega
  · exact h
  · have := a.least j h
    have := b.le i a.lt
    omega
end G
end
section
set_option Elab.async false
set_option linter.all false
set_option maxRecDepth 100000
namespace Wk
open PySem PySem.Spec PyProof.Rows L2
/-- the law's state of drawing stands at p, its copy of the script at q -/
def DS (H : Hp) (p q : Addr) : Prop := ∃ (ns : List Int) (i b l s : Int), H p = some (.lst [.ref q, .int i, .int b, .int l, .int s]) ∧ H q = some (.lst (ns.map V.int)) ∧ ns.length ≤ 63 ∧ 0 ≤ i ∧ i ≤ 63 ∧ 0 ≤ b ∧ 0 ≤ l ∧ l ≤ 60 ∧ 0 ≤ s ∧ s < 2147483648 ∧ (l = 0 → b = 0)
def spStart (K : PySem.W.Frag) : Sp := fun vs H Q _ => ∃ (a : Addr) (ns : List Int), vs = [.ref a] ∧ SqL K H a (ns.map V.int) ∧ ns.length ≤ 63 ∧ ∀ H' p q, H p = none → Same H H' → DS H' p q → Q (.ref p) H'
def spDraw : Sp := fun vs H Q _ => ∃ (p q : Addr) (lim : Int), vs = [.ref p, .int lim] ∧ DS H p q ∧ lim < 2 ^ 100 ∧ ∀ H' r, ExP p H H' → DS H' p q → 0 ≤ r → (0 < lim → r < lim) → Q (.int r) H'
theorem DS.mono {H H' : Hp} {p q : Addr} (s : Same H H') (d : DS H p q) : DS H' p q := by
  obtain ⟨ns, i, b, l, z, h1, h2, r⟩ := d
  exact ⟨ns, i, b, l, z, s _ _ h1, s _ _ h2, r⟩
theorem DS.ne {H : Hp} {p q a : Addr} (d : DS H p q) (h : H a = none) : a ≠ p ∧ a ≠ q := by
  obtain ⟨ns, i, b, l, z, h1, h2, r⟩ := d
  exact ⟨(ne_of_none h1 h).symm, (ne_of_none h2 h).symm⟩
theorem DS.mut {H H' : Hp} {p q D : Addr} (d : DS H p q) (hp : D ≠ p) (hq : D ≠ q) (s : ExP D H H') : DS H' p q := by
  obtain ⟨ns, i, b, l, z, h1, h2, r⟩ := d
  exact ⟨ns, i, b, l, z, s _ _ hp.symm h1, s _ _ hq.symm h2, r⟩
theorem TabL.exP {K : PySem.W.Frag} {H H' : Hp} {a p q : Addr} {n : Nat} {m : Nat → Nat → Nat} (ap : a ≠ p) (d : DS H p q) (s : ExP p H H') (t : TabL K H a n m) : TabL K H' a n m := by
  obtain ⟨ns, i, b, l, z, h1, _⟩ := d
  exact t.mut h1 ap s
/-! ### permutations out of lists -/
theorem perm_erase {α : Type} : ∀ {l : List α} {k : Nat} {x : α}, l[k]? = some x → (x :: l.eraseIdx k).Perm l
  | a :: l, 0, x, h => by
    have e : a = x := Option.some.inj h
    subst e
    exact List.Perm.refl _
  | a :: l, k + 1, x, h => by
    have ih := perm_erase (l := l) (k := k) (x := x) h
    exact (List.Perm.swap a x _).trans (ih.cons a)
theorem perm_of {n : Nat} {l : List Nat} (h : l.Perm (List.range n)) : ∃ o p : Nat → Nat, G.Perm n o p ∧ l = (List.range n).map o := by
  have len : l.length = n := by rw [h.length_eq, List.length_range]
  have mem : ∀ x, x ∈ l ↔ x < n := fun x => by rw [h.mem_iff, List.mem_range]
  have nd : l.Nodup := h.nodup_iff.mpr List.nodup_range
  let o : Nat → Nat := fun i => l.getD i 0
  have ho : ∀ i (hi : i < n), o i = l[i]'(by omega) := fun i hi => by
    show l.getD i 0 = _
    rw [List.getD_eq_getElem?_getD, List.getElem?_eq_getElem (by omega)]
    rfl
  have ex : ∀ x, x < n → ∃ i, i < n ∧ o i = x := fun x hx => by
    obtain ⟨i, hi, e⟩ := List.getElem_of_mem ((mem x).mpr hx)
    exact ⟨i, by omega, by rw [ho i (by omega), e]⟩
  have inj : ∀ i j, i < n → j < n → o i = o j → i = j := fun i j hi hj e => by
    rw [ho i hi, ho j hj] at e
    exact (List.getElem_inj nd).mp e
  refine ⟨o, fun x => if h : ∃ i, i < n ∧ o i = x then h.choose else 0, ⟨fun x hx => ?_, fun x hx => ?_, fun x hx => ?_, fun x hx => ?_⟩, ?_⟩
  · rw [ho x hx]
    exact (mem _).mp (List.getElem_mem _)
  · show (if h : ∃ i, i < n ∧ o i = x then h.choose else 0) < n
    rw [dif_pos (ex x hx)]
    exact (ex x hx).choose_spec.1
  · show (if h : ∃ i, i < n ∧ o i = o x then h.choose else 0) = x
    have q : ∃ i, i < n ∧ o i = o x := ⟨x, hx, rfl⟩
    rw [dif_pos q]
    exact inj _ _ q.choose_spec.1 hx q.choose_spec.2
  · show o (if h : ∃ i, i < n ∧ o i = x then h.choose else 0) = x
    rw [dif_pos (ex x hx)]
    exact (ex x hx).choose_spec.2
  · apply List.ext_getElem?
    intro i
    rw [List.getElem?_map]
    by_cases c : i < n
    · rw [List.getElem?_eq_getElem (by omega), List.getElem?_range c, Option.map_some, ho i c]
    · rw [List.getElem?_eq_none (by omega), List.getElem?_eq_none (by rw [List.length_range]; omega)]
      rfl
theorem map_erase {α β : Type} (f : α → β) : ∀ (l : List α) (k : Nat), (l.map f).eraseIdx k = (l.eraseIdx k).map f
  | [], k => rfl
  | a :: l, 0 => rfl
  | a :: l, k + 1 => by
    show f a :: (l.map f).eraseIdx k = f a :: (l.eraseIdx k).map f
    rw [map_erase f l k]
theorem seq_ix {r : Int} {n : Nat} (h0 : 0 ≤ r) (h : r < n) : seqIndex? r n = some r.toNat := by
  have e : ixN n r = some r.toNat := by unfold ixN; rw [if_pos h0, if_pos h]
  exact (ixN_seq e).1
/-- the numbers below n in some order -/
def PermL (H : Hp) (a : Addr) (n : Nat) (o : Nat → Nat) : Prop := H a = some (.lst (natsV n o))
def natL (l : List Nat) : List V := l.map fun (x : Nat) => V.int (x : Int)
theorem natL_len {l : List Nat} : (natL l).length = l.length := List.length_map ..
theorem natL_range (n : Nat) : natL (List.range n) = natsV n id := rfl
theorem natL_flat {l : List Nat} : (natL l).all flatV = true := by
  unfold natL
  rw [List.all_map]
  exact List.all_eq_true.mpr fun _ _ => rfl
theorem inV_natL (v : Nat) : ∀ l : List Nat, inV (.int (v : Int)) (natL l) = decide (v ∈ l)
  | [] => rfl
  | a :: l => by
    have ih := inV_natL v l
    unfold inV at ih ⊢
    show (eqV (.int (a : Int)) (.int (v : Int)) || (natL l).any fun y => eqV y (.int (v : Int))) = decide (v ∈ a :: l)
    rw [ih]
    have e : eqV (.int (a : Int)) (.int (v : Int)) = decide (v = a) := by
      show ((a : Int) == (v : Int)) = decide (v = a)
      by_cases c : v = a
      · subst c; simp
      · rw [decide_eq_false c]; exact beq_eq_false_iff_ne.mpr (by omega)
    rw [e]
    simp [List.mem_cons]
theorem n_notIn {K : PySem.W.Frag} {H : Hp} {Q : VK} {x : V} {p : Addr} {xs : List V} (h : SqL K H p xs ∨ SqT K H p xs) (hx : flatV x = true) (ha : xs.all flatV = true) (q : Q (.bl (!inV x xs)) H) : rIn K true x (.ref p) H Q := ⟨p, xs, rfl, h, hx, ha, q⟩
theorem n_isIn {K : PySem.W.Frag} {H : Hp} {Q : VK} {x : V} {p : Addr} {xs : List V} (h : SqL K H p xs ∨ SqT K H p xs) (hx : flatV x = true) (ha : xs.all flatV = true) (q : Q (.bl (inV x xs)) H) : rIn K false x (.ref p) H Q := ⟨p, xs, rfl, h, hx, ha, q⟩
/-! ### what the table makers promise -/
def spCyc (K : PySem.W.Frag) : Sp := fun vs H Q _ => ∃ n : Nat, vs = [.int n] ∧ n ≤ 60 ∧ 0 < n ∧ RetTab K H n (G.cyc n) Q
def spBoth (K : PySem.W.Frag) : Sp := fun vs H Q _ => ∃ (a b : Addr) (n k : Nat) (m1 m2 : Nat → Nat → Nat), vs = [.ref a, .ref b] ∧ n * k ≤ 60 ∧ 0 < n ∧ 0 < k ∧ TabL K H a n m1 ∧ TabL K H b k m2 ∧ RetTab K H (n * k) (G.prd k m1 m2) Q
def spDih (K : PySem.W.Frag) : Sp := fun vs H Q _ => ∃ n : Nat, vs = [.int n] ∧ n ≤ 30 ∧ 0 < n ∧ RetTab K H (2 * n) (G.dih n) Q
def spQua (K : PySem.W.Frag) : Sp := fun vs H Q _ => vs = [] ∧ RetTab K H 8 G.qua Q
def spRen (K : PySem.W.Frag) : Sp := fun vs H Q _ => ∃ (a b : Addr) (n : Nat) (m : Nat → Nat → Nat) (o p : Nat → Nat), vs = [.ref a, .ref b] ∧ n ≤ 60 ∧ G.Grp n m ∧ TabL K H a n m ∧ PermL H b n o ∧ G.Perm n o p ∧ RetTab K H n (G.ren m o p) Q
def spMix : Sp := fun vs H Q _ => ∃ (p q : Addr) (n : Nat), vs = [.ref p, .int n] ∧ n ≤ 60 ∧ DS H p q ∧ ∀ H' a o o', H a = none → ExP p H H' → DS H' p q → PermL H' a n o → G.Perm n o o' → Q (.ref a) H'
/-- a table of a group of 1 to most elements, new, the state drawn from -/
def RetGrp (K : PySem.W.Frag) (p q : Addr) (most : Nat) (H : Hp) (Q : VK) : Prop := ∀ H' a n m, H a = none → ExP p H H' → DS H' p q → G.Grp n m → n ≤ most → TabL K H' a n m → Q (.ref a) H'
def spGrp (K : PySem.W.Frag) : Sp := fun vs H Q _ => ∃ (p q : Addr) (most : Nat), vs = [.ref p, .int most] ∧ 0 < most ∧ most ≤ 60 ∧ DS H p q ∧ RetGrp K p q most H Q
def spSym (K : PySem.W.Frag) : Sp := fun vs H Q _ => vs = [.int 3] ∧ ∀ H' a m, H a = none → Same H H' → G.Grp 6 m → TabL K H' a 6 m → Q (.ref a) H'
end Wk
end
section
set_option Elab.async false
set_option linter.all false
set_option maxRecDepth 100000
namespace Wk
open PySem PySem.Spec PyProof.Rows L2
def top (i : Nat) : Stmt := PySem.Challenge.pw_sevenninths_k10_renamed_groups.main.body.getD i (.Pass ⟨0, 0, 0, 0⟩)
abbrev s__wall : Stmt := top 0
abbrev s_InvalidNumber___init__ : Stmt := inClass (top 3) 0
abbrev s_InvalidGroup___init__ : Stmt := inClass (top 4) 0
abbrev s_InvalidSubset___init__ : Stmt := inClass (top 5) 0
abbrev s_InvalidMap___init__ : Stmt := inClass (top 6) 0
abbrev s_is_whole : Stmt := top 8
abbrev s_is_within : Stmt := top 9
abbrev s_is_sequence : Stmt := top 10
abbrev s_is_number_row : Stmt := top 11
abbrev s_is_member : Stmt := top 12
abbrev s_is_member_row : Stmt := top 13
abbrev s_require_member : Stmt := top 14
abbrev s_Group___init__ : Stmt := inClass (top 17) 0
abbrev s_Group___eq__ : Stmt := inClass (top 17) 1
abbrev s_Group_commutative : Stmt := inClass (top 17) 2
abbrev s_Group_product : Stmt := inClass (top 17) 3
abbrev s_Group_inverse : Stmt := inClass (top 17) 4
abbrev s_Group_order : Stmt := inClass (top 17) 5
abbrev s_Group_power : Stmt := inClass (top 17) 6
abbrev s__judged_rows : Stmt := top 18
abbrev s__is_row : Stmt := top 19
abbrev s__judged_neutral : Stmt := top 20
abbrev s__judged_inverses : Stmt := top 21
abbrev s__judge_products : Stmt := top 22
abbrev s__group_of : Stmt := top 24
abbrev s_renamed_group : Stmt := top 25
abbrev s__law_integer : Stmt := top 27
abbrev s__law_start : Stmt := top 28
abbrev s__law_draw : Stmt := top 29
abbrev s__law_wide : Stmt := top 30
abbrev s__law_odd : Stmt := top 31
abbrev s__law_cyclic : Stmt := top 32
abbrev s__law_both : Stmt := top 33
abbrev s__law_dihedral : Stmt := top 34
abbrev s__law_permutations : Stmt := top 35
abbrev s__law_symmetric : Stmt := top 36
abbrev s__law_quaternions : Stmt := top 37
abbrev s__law_mixed : Stmt := top 38
abbrev s__law_renamed : Stmt := top 39
abbrev s__law_plain_group : Stmt := top 40
abbrev s__law_group : Stmt := top 41
abbrev s__law_neutral : Stmt := top 42
abbrev s__law_numbers_are : Stmt := top 43
abbrev s__law_rows_are : Stmt := top 44
abbrev s__law_told : Stmt := top 45
abbrev s__law_refused : Stmt := top 46
abbrev s__law_body : Stmt := top 47
abbrev s_law : Stmt := top 48
theorem sc__wall : FnScope ["k"] ["k"] (defScope s__wall) := ⟨rfl, rfl, rfl, by decide +kernel, rfl, by decide +kernel, by decide +kernel⟩
theorem sc_InvalidNumber___init__ : FnScope ["self", "value"] ["self", "value"] (defScope s_InvalidNumber___init__) := ⟨rfl, rfl, rfl, by decide +kernel, rfl, by decide +kernel, by decide +kernel⟩
theorem sc_InvalidGroup___init__ : FnScope ["self", "part", "place"] ["self", "part", "place"] (defScope s_InvalidGroup___init__) := ⟨rfl, rfl, rfl, by decide +kernel, rfl, by decide +kernel, by decide +kernel⟩
theorem sc_InvalidSubset___init__ : FnScope ["self", "value"] ["self", "value"] (defScope s_InvalidSubset___init__) := ⟨rfl, rfl, rfl, by decide +kernel, rfl, by decide +kernel, by decide +kernel⟩
theorem sc_InvalidMap___init__ : FnScope ["self", "value"] ["self", "value"] (defScope s_InvalidMap___init__) := ⟨rfl, rfl, rfl, by decide +kernel, rfl, by decide +kernel, by decide +kernel⟩
theorem sc_is_whole : FnScope ["value"] ["value"] (defScope s_is_whole) := ⟨rfl, rfl, rfl, by decide +kernel, rfl, by decide +kernel, by decide +kernel⟩
theorem sc_is_within : FnScope ["value", "least", "most"] ["value", "least", "most"] (defScope s_is_within) := ⟨rfl, rfl, rfl, by decide +kernel, rfl, by decide +kernel, by decide +kernel⟩
theorem sc_is_sequence : FnScope ["value"] ["value"] (defScope s_is_sequence) := ⟨rfl, rfl, rfl, by decide +kernel, rfl, by decide +kernel, by decide +kernel⟩
theorem sc_is_number_row : FnScope ["value", "length", "bound", "x"] ["value", "length", "bound"] (defScope s_is_number_row) := ⟨rfl, rfl, rfl, by decide +kernel, rfl, by decide +kernel, by decide +kernel⟩
theorem sc_is_member : FnScope ["group", "value"] ["group", "value"] (defScope s_is_member) := ⟨rfl, rfl, rfl, by decide +kernel, rfl, by decide +kernel, by decide +kernel⟩
theorem sc_is_member_row : FnScope ["group", "value", "length"] ["group", "value", "length"] (defScope s_is_member_row) := ⟨rfl, rfl, rfl, by decide +kernel, rfl, by decide +kernel, by decide +kernel⟩
theorem sc_require_member : FnScope ["group", "value"] ["group", "value"] (defScope s_require_member) := ⟨rfl, rfl, rfl, by decide +kernel, rfl, by decide +kernel, by decide +kernel⟩
theorem sc_Group___init__ : FnScope ["self", "table"] ["self", "table"] (defScope s_Group___init__) := ⟨rfl, rfl, rfl, by decide +kernel, rfl, by decide +kernel, by decide +kernel⟩
theorem sc_Group___eq__ : FnScope ["self", "other"] ["self", "other"] (defScope s_Group___eq__) := ⟨rfl, rfl, rfl, by decide +kernel, rfl, by decide +kernel, by decide +kernel⟩
theorem sc_Group_commutative : FnScope ["self"] ["self"] (defScope s_Group_commutative) := ⟨rfl, rfl, rfl, by decide +kernel, rfl, by decide +kernel, by decide +kernel⟩
theorem sc_Group_product : FnScope ["self", "x", "y"] ["self", "x", "y"] (defScope s_Group_product) := ⟨rfl, rfl, rfl, by decide +kernel, rfl, by decide +kernel, by decide +kernel⟩
theorem sc_Group_inverse : FnScope ["self", "x"] ["self", "x"] (defScope s_Group_inverse) := ⟨rfl, rfl, rfl, by decide +kernel, rfl, by decide +kernel, by decide +kernel⟩
theorem sc_Group_order : FnScope ["self", "x", "count", "reached"] ["self", "x"] (defScope s_Group_order) := ⟨rfl, rfl, rfl, by decide +kernel, rfl, by decide +kernel, by decide +kernel⟩
theorem sc_Group_power : FnScope ["self", "x", "k", "reached", "_"] ["self", "x", "k"] (defScope s_Group_power) := ⟨rfl, rfl, rfl, by decide +kernel, rfl, by decide +kernel, by decide +kernel⟩
theorem sc__judged_rows : FnScope ["table", "size", "x", "row"] ["table"] (defScope s__judged_rows) := ⟨rfl, rfl, rfl, by decide +kernel, rfl, by decide +kernel, by decide +kernel⟩
theorem sc__is_row : FnScope ["row", "size", "value"] ["row", "size"] (defScope s__is_row) := ⟨rfl, rfl, rfl, by decide +kernel, rfl, by decide +kernel, by decide +kernel⟩
theorem sc__judged_neutral : FnScope ["table", "e", "row", "x"] ["table"] (defScope s__judged_neutral) := ⟨rfl, rfl, rfl, by decide +kernel, rfl, by decide +kernel, by decide +kernel⟩
theorem sc__judged_inverses : FnScope ["table", "neutral", "inverses", "x", "row", "y", "xy", "partners"] ["table", "neutral"] (defScope s__judged_inverses) := ⟨rfl, rfl, rfl, by decide +kernel, rfl, by decide +kernel, by decide +kernel⟩
theorem sc__judge_products : FnScope ["table", "x", "row", "y", "xy", "z", "yz"] ["table"] (defScope s__judge_products) := ⟨rfl, rfl, rfl, by decide +kernel, rfl, by decide +kernel, by decide +kernel⟩
theorem sc__group_of : FnScope ["members", "products", "number", "member", "numbers", "row"] ["members", "products"] (defScope s__group_of) := ⟨rfl, rfl, rfl, by decide +kernel, rfl, by decide +kernel, by decide +kernel⟩
theorem sc_renamed_group : FnScope ["group", "order", "x", "y"] ["group", "order"] (defScope s_renamed_group) := ⟨rfl, rfl, rfl, by decide +kernel, rfl, by decide +kernel, by decide +kernel⟩
theorem sc__law_integer : FnScope ["value"] ["value"] (defScope s__law_integer) := ⟨rfl, rfl, rfl, by decide +kernel, rfl, by decide +kernel, by decide +kernel⟩
theorem sc__law_start : FnScope ["script"] ["script"] (defScope s__law_start) := ⟨rfl, rfl, rfl, by decide +kernel, rfl, by decide +kernel, by decide +kernel⟩
theorem sc__law_draw : FnScope ["state", "limit", "cell", "got"] ["state", "limit"] (defScope s__law_draw) := ⟨rfl, rfl, rfl, by decide +kernel, rfl, by decide +kernel, by decide +kernel⟩
theorem sc__law_wide : FnScope ["state", "number", "k", "limit"] ["state"] (defScope s__law_wide) := ⟨rfl, rfl, rfl, by decide +kernel, rfl, by decide +kernel, by decide +kernel⟩
theorem sc__law_odd : FnScope ["state", "kind"] ["state"] (defScope s__law_odd) := ⟨rfl, rfl, rfl, by decide +kernel, rfl, by decide +kernel, by decide +kernel⟩
theorem sc__law_cyclic : FnScope ["n", "x", "y"] ["n"] (defScope s__law_cyclic) := ⟨rfl, rfl, rfl, by decide +kernel, rfl, by decide +kernel, by decide +kernel⟩
theorem sc__law_both : FnScope ["one", "other", "m", "rows", "x", "top", "low", "y"] ["one", "other"] (defScope s__law_both) := ⟨rfl, rfl, rfl, by decide +kernel, rfl, by decide +kernel, by decide +kernel⟩
theorem sc__law_dihedral : FnScope ["n", "rows", "x", "row", "y", "a", "s", "b", "t"] ["n"] (defScope s__law_dihedral) := ⟨rfl, rfl, rfl, by decide +kernel, rfl, by decide +kernel, by decide +kernel⟩
theorem sc__law_permutations : FnScope ["k", "found", "step", "longer", "row", "value"] ["k"] (defScope s__law_permutations) := ⟨rfl, rfl, rfl, by decide +kernel, rfl, by decide +kernel, by decide +kernel⟩
theorem sc__law_symmetric : FnScope ["k", "rows", "table", "one", "other", "value"] ["k"] (defScope s__law_symmetric) := ⟨rfl, rfl, rfl, by decide +kernel, rfl, by decide +kernel, by decide +kernel⟩
theorem sc__law_quaternions : FnScope ["rows", "x", "row", "y", "u", "v", "sign"] [] (defScope s__law_quaternions) := ⟨rfl, rfl, rfl, by decide +kernel, rfl, by decide +kernel, by decide +kernel⟩
theorem sc__law_mixed : FnScope ["state", "n", "left", "found", "k"] ["state", "n"] (defScope s__law_mixed) := ⟨rfl, rfl, rfl, by decide +kernel, rfl, by decide +kernel, by decide +kernel⟩
theorem sc__law_renamed : FnScope ["table", "order", "x", "places", "y"] ["table", "order"] (defScope s__law_renamed) := ⟨rfl, rfl, rfl, by decide +kernel, rfl, by decide +kernel, by decide +kernel⟩
theorem sc__law_plain_group : FnScope ["state", "most", "kind", "first"] ["state", "most"] (defScope s__law_plain_group) := ⟨rfl, rfl, rfl, by decide +kernel, rfl, by decide +kernel, by decide +kernel⟩
theorem sc__law_group : FnScope ["state", "most", "table"] ["state", "most"] (defScope s__law_group) := ⟨rfl, rfl, rfl, by decide +kernel, rfl, by decide +kernel, by decide +kernel⟩
theorem sc__law_neutral : FnScope ["table", "whole", "e"] ["table"] (defScope s__law_neutral) := ⟨rfl, rfl, rfl, by decide +kernel, rfl, by decide +kernel, by decide +kernel⟩
theorem sc__law_numbers_are : FnScope ["got", "due", "k"] ["got", "due"] (defScope s__law_numbers_are) := ⟨rfl, rfl, rfl, by decide +kernel, rfl, by decide +kernel, by decide +kernel⟩
theorem sc__law_rows_are : FnScope ["got", "due", "k"] ["got", "due"] (defScope s__law_rows_are) := ⟨rfl, rfl, rfl, by decide +kernel, rfl, by decide +kernel, by decide +kernel⟩
theorem sc__law_told : FnScope ["group", "table", "order", "due", "k", "got", "x", "back"] ["group", "table", "order"] (defScope s__law_told) := ⟨rfl, rfl, rfl, by decide +kernel, rfl, by decide +kernel, by decide +kernel⟩
theorem sc__law_refused : FnScope ["group", "value", "e"] ["group", "value"] (defScope s__law_refused) := ⟨rfl, rfl, rfl, by decide +kernel, rfl, by decide +kernel, by decide +kernel⟩
theorem sc__law_body : FnScope ["script", "state", "table", "n", "order", "group", "at", "row", "odd", "bad", "x", "value"] ["script"] (defScope s__law_body) := ⟨rfl, rfl, rfl, by decide +kernel, rfl, by decide +kernel, by decide +kernel⟩
theorem sc_law : FnScope ["script"] ["script"] (defScope s_law) := ⟨rfl, rfl, rfl, by decide +kernel, rfl, by decide +kernel, by decide +kernel⟩
structure Txt (mg : Str → Option Value) : Prop where
  n_list : mg "list" = none
  n_len : mg "len" = none
  n_abs : mg "abs" = none
  n_int : mg "int" = none
  n_max : mg "max" = none
  n_range : mg "range" = none
  n_tuple : mg "tuple" = none
  n_isinstance : mg "isinstance" = none
  n_bool : mg "bool" = none
  n_all : mg "all" = none
  n_enumerate : mg "enumerate" = none
end Wk
end
section
set_option Elab.async false
set_option linter.all false
set_option maxRecDepth 100000
namespace Wk
open PySem PySem.Spec PyProof.Rows L2
local macro_rules | `(tactic| walk_at "hp") => `(tactic| first | assumption | exact upd_same | exact (upd_ne (ne_of_none (by assumption) (by assumption))).trans (by assumption) | (rw [upd_ne (by first | assumption | exact Ne.symm (by assumption))]; walk_at "hp"))
local macro_rules | `(tactic| walk_at "sq") => `(tactic| first | assumption | exact SqL.of (by assumption) | exact SqT.of (by assumption) | exact SqL.of (by walk_at "hp") | exact SqT.of (by walk_at "hp") | (refine Same.seq ?_ ?_ <;> assumption))
local macro_rules | `(tactic| walk_at "cmul") => `(tactic| first | exact .inr ⟨by decide, by decide⟩ | exact .inl ⟨by decide, by decide⟩ | exact .inr ⟨by omega, by omega⟩ | exact .inl ⟨by omega, by omega⟩)
local macro_rules | `(tactic| walk_at "cdiv") => `(tactic| first | exact ⟨by decide, by decide⟩ | exact wide_div (b := 64) (by omega) (by omega) (by decide) (by decide) | exact wide_div (b := 128) (by omega) (by omega) (by decide) (by decide))
local macro_rules | `(tactic| walk_at "rd1") => `(tactic| first
  | ((with_reducible show tVar _ _ _ _); refine Wk.r_var rfl ?_)
  | (with_reducible first
    | refine Wk.r_c ?_ | refine Wk.r_op ?_ | refine Wk.r_cons ?_ | refine Wk.r_nil ?_
    | refine Wk.r_seq ?_ | refine Wk.r_next ?_ | refine Wk.r_set ?_ | refine Wk.r_asgS ?_ | refine Wk.r_ret ?_ | refine Wk.r_drop ?_ | refine Wk.r_if ?_
    | refine Wk.r_asgG ?_ | refine Wk.r_gName ?_ | refine Wk.r_gCons ?_ | refine Wk.r_gNil ?_ | refine Wk.r_par ?_ | refine Wk.r_par3 ?_ | refine Wk.r_lstRg1 ?_ | refine Wk.r_tupRg1 ?_ | refine ⟨_, _, _, rfl, ?_⟩ | refine Wk.r_un ?_ | refine Wk.r_I0 ?_ | refine Wk.r_U ?_
    | refine Wk.r_test ?_ | refine Wk.r_B ?_ | refine Wk.r_k ?_ | refine Wk.r_not ?_ | refine Wk.r_and ?_ | refine Wk.r_or ?_ | refine Wk.r_andV ?_ | refine Wk.r_orV ?_ | refine Wk.r_notV ?_
    | refine Wk.r_CB ?_ | refine Wk.r_chain ?_ | refine Wk.r_fld ?_ | refine Wk.r_sfld ?_ | refine Wk.r_lst ?_ | refine Wk.r_tup ?_ | refine Wk.r_call ?_ | refine Wk.r_BM ?_ | refine Wk.r_BM0 ?_ | refine Wk.r_T ?_ | refine Wk.r_nT ?_ | refine Wk.r_nF ?_ | refine Wk.r_F ?_
    | refine Or.inl ⟨_, rfl, ?_⟩ | refine Or.inr ⟨_, rfl, ?_⟩ | refine ⟨_, rfl, ?_⟩ | refine ⟨_, _, rfl, ?_⟩)
  | ((with_reducible refine Wk.r_eq ?c0 ?_); (case c0 => rfl)) | ((with_reducible refine Wk.r_ne ?c0 ?_); (case c0 => rfl))
  | ((with_reducible refine Wk.r_pow ?c0 ?_); (case c0 => exact ⟨by decide, by decide, by decide⟩))
  | ((with_reducible refine Wk.r_mul ?c0 ?_); (case c0 => walk_at "cmul")) | ((with_reducible refine Wk.r_mod ?c0 ?_); (case c0 => first | decide | omega)) | ((with_reducible refine Wk.r_div ?c0 ?_); (case c0 => walk_at "cdiv"))
  | ((with_reducible refine Wk.r_new ?c0 ?_); (case c0 => (simp only [List.length_cons, List.length_nil]; omega)))
  | ((with_reducible show gTup _ _ _ _ _ _ _); refine Wk.r_gTup (by walk_at "sq") (by rfl) ?_)
  | (refine Wk.r_tyL (by walk_at "hp") ?_)
  | ((with_reducible show rSetL _ _ _ _ _); refine Wk.r_setL (by walk_at "hp") (by rfl) ?_)
  | ((with_reducible show rIxL _ _ _ _ _); refine Wk.r_ixL (by walk_at "sq") (by rfl) ?_) | ((with_reducible show rIxT _ _ _ _ _); refine Wk.r_ixT (by walk_at "sq") (by rfl) ?_)
  | ((with_reducible show rLenOf _ _ _ _); first | refine Wk.n_lenL (by walk_at "sq") ?_ | refine Wk.n_lenT (by walk_at "sq") ?_)
  | ((with_reducible show rListOf _ _ _ _); first | refine Wk.n_listL (by walk_at "sq") ?_ | refine Wk.n_listT (by walk_at "sq") ?_)
  | ((with_reducible show rTupZ _ _ _ _); first | refine Wk.z_tupL (by walk_at "sq") ?_ | refine Wk.z_tupT (by walk_at "sq") ?_)
  | ((with_reducible show rTupOf _ _ _ _); first | refine Wk.n_tupL (by walk_at "sq") ?_ | refine Wk.n_tupT (by walk_at "sq") ?_))
local macro_rules | `(tactic| walk_at "rd") => `(tactic| repeat (walk_at "rd1"))

section
variable {P : Program} {w : World} {K : PySem.W.Frag} {mg : Str → Option Value} {base : Heap}
theorem k__law_start (T : Txt mg) (a : At K mg "_law_start" s__law_start ["script"]) : Keep P w K mg base 1 "_law_start" ["script"] (spStart K) := by
  refine Keep.of a sc__law_start (fun vs H Q E h => ?_) (fun f cdv A outer s H vs Q E hr h => ?_)
  · obtain ⟨a, ns, rfl, _⟩ := h
    rfl
  · obtain ⟨a, ns, rfl, hS, hl, k⟩ := h
    refine ⟨_, (pss_one (ps_ret (pe_lst (pa_cons (pe_callTy (c_list K) (by rfl) T.n_list (by decide +kernel) (pa_cons (pv 0) pa_nil)) (pa_cons pe_int (pa_cons pe_int (pa_cons pe_int (pa_cons pe_int pa_nil)))))))), ?_⟩
    walk_at "rd"
    intro q hq
    walk_at "rd"
    intro p hp
    have npq : q ≠ p := fun e => by rw [e, upd_same] at hp; cases hp
    have hp0 : H p = none := by rw [upd_ne npq.symm] at hp; exact hp
    exact k _ p q hp0 ((same_new hq).trans (same_new hp)) ⟨ns, 0, 0, 0, 7, upd_same, by rw [upd_ne npq, upd_same], hl, by decide, by decide, by decide, by decide, by decide, by decide, by decide, fun _ => rfl⟩
theorem k__law_draw (T : Txt mg) (a : At K mg "_law_draw" s__law_draw ["state", "limit"]) : Keep P w K mg base 1 "_law_draw" ["state", "limit"] spDraw := by
  refine Keep.of a sc__law_draw (fun vs H Q E h => ?_) (fun f cdv A outer s H vs Q E hr h => ?_)
  · obtain ⟨p, q, lim, rfl, _⟩ := h
    rfl
  · obtain ⟨p, q, lim, rfl, ⟨ns, i, b, l, z, hp, hq, hn, i0, i63, b0, l0, l60, z0, z1, lb⟩, hlim, k⟩ := h
    refine ⟨_, (Evl.pss_cut (ps_if (pt_cmpR op_lt (pv 1) pe_int (nomark _)) (pss_one (ps_set (i := 1) sc__law_draw.nd rfl (by first | exact Or.inl rfl | exact Or.inr rfl) pe_int)) pss_nil)
    (Evl.pss_cut (ps_if (PW.pt (pw_and (pt_cmpR op_eq (pe_ix (x_list K) (pv 0) pe_int (fun _ _ => rfl)) pe_int (nomark _)) (pw_and1 (pt_cmpR op_lt (pe_ix (x_list K) (pv 0) pe_int (fun _ _ => rfl)) (pe_callB (c_len K) (by rfl) T.n_len (by decide +kernel) (pa_cons (pe_ix (x_list K) (pv 0) pe_int (fun _ _ => rfl)) pa_nil)) (nomark _))))) (pss_cons (ps_set (i := 2) sc__law_draw.nd rfl (by first | exact Or.inl rfl | exact Or.inr rfl) (pe_callB call_abs (by rfl) T.n_abs (by decide +kernel) (pa_cons (pe_callTy call_int1 (by rfl) T.n_int (by decide +kernel) (pa_cons (pe_ix (x_list K) (pe_ix (x_list K) (pv 0) pe_int (fun _ _ => rfl)) (pe_ix (x_list K) (pv 0) pe_int (fun _ _ => rfl)) (fun _ _ => rfl)) pa_nil)) pa_nil)))
    (pss_cons (ps_asg (pe_op op_add (pe_ix (x_list K) (pv 0) pe_int (fun _ _ => rfl)) pe_int) (pg_sub (pv 0) pe_int set_list))
    (pss_cons (ps_asg pe_int (pg_sub (pv 0) pe_int set_list))
    (pss_one (ps_if (pt_cmpR op_ge (pv 2) (pe_op op_pow pe_int pe_int) (nomark _)) (pss_cons (ps_asg (pv 2) (pg_sub (pv 0) pe_int set_list))
    (pss_one (ps_asg pe_int (pg_sub (pv 0) pe_int set_list)))) (pss_one (ps_asg (pe_op op_mod (pe_callTy call_int1 (by rfl) T.n_int (by decide +kernel) (pa_cons (pe_op op_add (pe_op op_add (pe_op op_mul (pe_ix (x_list K) (pv 0) pe_int (fun _ _ => rfl)) pe_int) (pv 2)) (pe_ix (x_list K) (pv 0) pe_int (fun _ _ => rfl))) pa_nil)) pe_int) (pg_sub (pv 0) pe_int set_list)))))))) pss_nil)
    (pss_cons (ps_if (pt_cmpR op_gt (pe_ix (x_list K) (pv 0) pe_int (fun _ _ => rfl)) pe_int (nomark _)) (pss_cons (ps_set (i := 3) sc__law_draw.nd rfl (by first | exact Or.inl rfl | exact Or.inr rfl) (pe_op op_mod (pe_callTy call_int1 (by rfl) T.n_int (by decide +kernel) (pa_cons (pe_ix (x_list K) (pv 0) pe_int (fun _ _ => rfl)) pa_nil)) (pv 1)))
    (pss_cons (ps_asg (pe_op op_fdivW (pe_ix (x_list K) (pv 0) pe_int (fun _ _ => rfl)) (pv 1)) (pg_sub (pv 0) pe_int set_list))
    (pss_cons (ps_asg (pe_op op_sub (pe_ix (x_list K) (pv 0) pe_int (fun _ _ => rfl)) pe_int) (pg_sub (pv 0) pe_int set_list))
    (pss_cons (ps_if (PW.pt (pw_or (pt_cmpR op_eq (pe_ix (x_list K) (pv 0) pe_int (fun _ _ => rfl)) pe_int (nomark _)) (pw_or1 (pt_cmpR op_eq (pe_ix (x_list K) (pv 0) pe_int (fun _ _ => rfl)) pe_int (nomark _))))) (pss_cons (ps_asg pe_int (pg_sub (pv 0) pe_int set_list))
    (pss_one (ps_asg pe_int (pg_sub (pv 0) pe_int set_list)))) pss_nil)
    (pss_one (ps_ret (pv 3))))))) pss_nil)
    (pss_cons (ps_asg (pe_callB (call_max2 rfl) (by rfl) T.n_max (by decide +kernel) (pa_cons pe_int (pa_cons (pe_op op_sub (pe_ix (x_list K) (pv 0) pe_int (fun _ _ => rfl)) pe_int) pa_nil))) (pg_sub (pv 0) pe_int set_list))
    (pss_cons (ps_asg (pe_op op_mod (pe_callTy call_int1 (by rfl) T.n_int (by decide +kernel) (pa_cons (pe_op op_add (pe_op op_mul (pe_ix (x_list K) (pv 0) pe_int (fun _ _ => rfl)) pe_int) pe_int) pa_nil)) pe_int) (pg_sub (pv 0) pe_int set_list))
    (pss_one (ps_ret (pe_op op_mod (pe_callTy call_int1 (by rfl) T.n_int (by decide +kernel) (pa_cons (pe_op op_mod (pe_callTy call_int1 (by rfl) T.n_int (by decide +kernel) (pa_cons (pe_op op_add (pe_op op_mul (pe_ix (x_list K) (pv 0) pe_int (fun _ _ => rfl)) pe_int) pe_int) pa_nil)) pe_int) pa_nil)) (pv 1))))))))), ?_⟩
    refine ⟨fun σ' H' => H' = H ∧ ∃ lim' : Int, σ' = [some (.ref p), some (.int lim'), none, none] ∧ 1 ≤ lim' ∧ lim' < 2 ^ 100 ∧ ((0 < lim ∧ lim' = lim) ∨ lim ≤ 0 ∧ lim' = 1), ?_, ?_⟩
    · walk_at "rd"
      refine r_if1 (fun c => ?_) (fun c => ?_)
      · walk_at "rd"
        exact ⟨rfl, 1, rfl, by decide, by decide, by omega⟩
      · walk_at "rd"
        exact ⟨rfl, lim, rfl, by omega, hlim, by omega⟩
    rintro σ' H' ⟨rfl, lim', rfl, l1, l2, l3⟩
    refine ⟨fun σ' H2 => ∃ (v : Option V) (i b l z : Int), σ' = [some (.ref p), some (.int lim'), v, none] ∧ H2 = upd H' p (.lst [.ref q, .int i, .int b, .int l, .int z]) ∧ 0 ≤ i ∧ i ≤ 63 ∧ 0 ≤ b ∧ 0 ≤ l ∧ l ≤ 60 ∧ 0 ≤ z ∧ z < 2147483648 ∧ (l = 0 → b = 0), ?_, ?_⟩
    · walk_at "rd"
      have npq : q ≠ p := ne_of hq hp (by intro e; injection e with e; cases ns with | nil => cases e | cons a r => (injection e with e _; cases e))
      have stay : ∀ v : Option V, ∃ (v' : Option V) (i' b' l' z' : Int), [some (.ref p), some (.int lim'), v, none] = [some (.ref p), some (.int lim'), v', (none : Option V)] ∧ H' = upd H' p (.lst [.ref q, .int i', .int b', .int l', .int z']) ∧ 0 ≤ i' ∧ i' ≤ 63 ∧ 0 ≤ b' ∧ 0 ≤ l' ∧ l' ≤ 60 ∧ 0 ≤ z' ∧ z' < 2147483648 ∧ (l' = 0 → b' = 0) := fun v =>
        ⟨v, i, b, l, z, rfl, (by funext c; by_cases e : c = p
                                 · rw [e, upd_same, hp]
                                 · rw [upd_ne e]), i0, i63, b0, l0, l60, z0, z1, lb⟩
      refine r_ifI (fun c => ?_) (fun c => ?_)
      · walk_at "rd"
        refine r_if1 (fun c2 => ?_) (fun c2 => ?_)
        · rw [List.length_map] at c2
          obtain ⟨y, hy, ay⟩ := at_map i0 c2
          walk_at "rd"
          refine r_ixL (by walk_at "sq") ay ?_
          walk_at "rd"
          have f1 : (63 : Int).toNat = 63 := rfl
          refine r_if1 (fun c3 => ?_) (fun c3 => ?_)
          · walk_at "rd"
            exact ⟨_, i + 1, _, 60, z, rfl, (by simp only [upd_upd]; rfl), by omega, by omega, by split <;> omega, by decide, by decide, z0, z1, fun e => by omega⟩
          · walk_at "rd"
            have e1 : (10 : Int) ^ Int.toNat 18 = 1000000000000000000 := by decide
            rw [e1] at c3
            exact ⟨_, i + 1, b, 4, _, rfl, (by simp only [upd_upd]; rfl), by omega, by omega, b0, by decide, by decide, Int.emod_nonneg _ (by decide), Int.lt_of_lt_of_le (Int.emod_lt_of_pos _ (by decide)) (by decide), fun e => by omega⟩
        · walk_at "rd"
          exact stay none
      · walk_at "rd"
        exact stay none
    rintro σ' H2 ⟨v, i, b, l, z, rfl, rfl, i0, i63, b0, l0, l60, z0, z1, lb⟩
    have npq : q ≠ p := ne_of hq hp (by intro e; injection e with e; cases ns with | nil => cases e | cons a r => (injection e with e _; cases e))
    have fin : ∀ (i b l z r : Int) (H3 : Hp), H3 = upd H' p (.lst [.ref q, .int i, .int b, .int l, .int z]) → 0 ≤ i → i ≤ 63 → 0 ≤ b → 0 ≤ l → l ≤ 60 → 0 ≤ z → z < 2147483648 → (l = 0 → b = 0) → 0 ≤ r → r < lim' → Q (.int r) H3 := by
      intro i b l z r H3 e i0 i63 b0 l0 l60 z0 z1 lb r0 r1
      subst e
      exact k _ r ExP.upd ⟨ns, i, b, l, z, upd_same, by rw [upd_ne npq]; exact hq, hn, i0, i63, b0, l0, l60, z0, z1, lb⟩ r0 (by omega)
    walk_at "rd"
    refine r_if1 (fun c => ?_) (fun c => ?_)
    · walk_at "rd"
      have g0 : 0 ≤ b % lim' := Int.emod_nonneg _ (by omega)
      have g1 : b % lim' < lim' := Int.emod_lt_of_pos _ (by omega)
      have h0 : 0 ≤ b / lim' := Int.ediv_nonneg b0 (by omega)
      have hl : l ≠ 0 := fun e => by have := lb e; omega
      refine r_ifI (fun c2 => ?_) (fun c2 => ?_)
      · walk_at "rd"
        exact fin i 0 0 z _ _ (by simp only [upd_upd]; rfl) i0 i63 (by decide) (by decide) (by decide) z0 z1 (fun _ => rfl) g0 g1
      · walk_at "rd"
        refine r_ifI (fun c3 => ?_) (fun c3 => ?_)
        · walk_at "rd"
          exact fin i 0 0 z _ _ (by simp only [upd_upd]; rfl) i0 i63 (by decide) (by decide) (by decide) z0 z1 (fun _ => rfl) g0 g1
        · walk_at "rd"
          exact fin i (b / lim') (l - 1) z _ _ (by simp only [upd_upd]; rfl) i0 i63 h0 (by omega) (by omega) z0 z1 (fun e => absurd e c3) g0 g1
    · walk_at "rd"
      exact fin i b _ _ _ _ (by simp only [upd_upd]; rfl) i0 i63 b0 (by split <;> omega) (by split <;> omega) (Int.emod_nonneg _ (by decide)) (Int.lt_of_lt_of_le (Int.emod_lt_of_pos _ (by decide)) (by decide)) (fun _ => by omega) (Int.emod_nonneg _ (by omega)) (Int.emod_lt_of_pos _ (by omega))
end
end Wk
end
section
set_option Elab.async false
set_option linter.all false
set_option maxRecDepth 100000
namespace Wk
open PySem PySem.Spec PyProof.Rows L2
local macro_rules | `(tactic| walk_at "hp") => `(tactic| first | assumption | exact upd_same | exact (upd_ne (ne_of_none (by assumption) (by assumption))).trans (by assumption) | (rw [upd_ne (by first | assumption | exact Ne.symm (by assumption))]; walk_at "hp"))
local macro_rules | `(tactic| walk_at "sq") => `(tactic| first | assumption | exact SqL.of (by assumption) | exact SqT.of (by assumption) | exact SqL.of (by walk_at "hp") | exact SqT.of (by walk_at "hp") | (refine Same.seq ?_ ?_ <;> assumption))
local macro_rules | `(tactic| walk_at "cmul") => `(tactic| first | exact .inr ⟨by decide, by decide⟩ | exact .inl ⟨by decide, by decide⟩ | exact .inr ⟨by omega, by omega⟩ | exact .inl ⟨by omega, by omega⟩)
local macro_rules | `(tactic| walk_at "cdiv") => `(tactic| first | exact ⟨by decide, by decide⟩ | exact wide_div (b := 64) (by omega) (by omega) (by decide) (by decide) | exact wide_div (b := 128) (by omega) (by omega) (by decide) (by decide))
local macro_rules | `(tactic| walk_at "rd1") => `(tactic| first
  | ((with_reducible show tVar _ _ _ _); refine Wk.r_var rfl ?_)
  | (with_reducible first
    | refine Wk.r_c ?_ | refine Wk.r_op ?_ | refine Wk.r_cons ?_ | refine Wk.r_nil ?_
    | refine Wk.r_seq ?_ | refine Wk.r_next ?_ | refine Wk.r_set ?_ | refine Wk.r_asgS ?_ | refine Wk.r_ret ?_ | refine Wk.r_drop ?_ | refine Wk.r_if ?_
    | refine Wk.r_asgG ?_ | refine Wk.r_gName ?_ | refine Wk.r_gCons ?_ | refine Wk.r_gNil ?_ | refine Wk.r_par ?_ | refine Wk.r_par3 ?_ | refine Wk.r_lstRg1 ?_ | refine Wk.r_tupRg1 ?_ | refine ⟨_, _, _, rfl, ?_⟩ | refine Wk.r_un ?_ | refine Wk.r_I0 ?_ | refine Wk.r_U ?_
    | refine Wk.r_test ?_ | refine Wk.r_B ?_ | refine Wk.r_k ?_ | refine Wk.r_not ?_ | refine Wk.r_and ?_ | refine Wk.r_or ?_ | refine Wk.r_andV ?_ | refine Wk.r_orV ?_ | refine Wk.r_notV ?_
    | refine Wk.r_CB ?_ | refine Wk.r_chain ?_ | refine Wk.r_fld ?_ | refine Wk.r_sfld ?_ | refine Wk.r_lst ?_ | refine Wk.r_tup ?_ | refine Wk.r_call ?_ | refine Wk.r_BM ?_ | refine Wk.r_BM0 ?_ | refine Wk.r_T ?_ | refine Wk.r_nT ?_ | refine Wk.r_nF ?_ | refine Wk.r_F ?_
    | refine Or.inl ⟨_, rfl, ?_⟩ | refine Or.inr ⟨_, rfl, ?_⟩ | refine ⟨_, rfl, ?_⟩ | refine ⟨_, _, rfl, ?_⟩)
  | ((with_reducible refine Wk.r_eq ?c0 ?_); (case c0 => rfl)) | ((with_reducible refine Wk.r_ne ?c0 ?_); (case c0 => rfl))
  | ((with_reducible refine Wk.r_pow ?c0 ?_); (case c0 => exact ⟨by decide, by decide, by decide⟩))
  | ((with_reducible refine Wk.r_mul ?c0 ?_); (case c0 => walk_at "cmul")) | ((with_reducible refine Wk.r_mod ?c0 ?_); (case c0 => first | decide | omega)) | ((with_reducible refine Wk.r_div ?c0 ?_); (case c0 => walk_at "cdiv"))
  | ((with_reducible refine Wk.r_new ?c0 ?_); (case c0 => (simp only [List.length_cons, List.length_nil]; omega)))
  | ((with_reducible show gTup _ _ _ _ _ _ _); refine Wk.r_gTup (by walk_at "sq") (by rfl) ?_)
  | (refine Wk.r_tyL (by walk_at "hp") ?_)
  | ((with_reducible show rSetL _ _ _ _ _); refine Wk.r_setL (by walk_at "hp") (by rfl) ?_)
  | ((with_reducible show rIxL _ _ _ _ _); refine Wk.r_ixL (by walk_at "sq") (by rfl) ?_) | ((with_reducible show rIxT _ _ _ _ _); refine Wk.r_ixT (by walk_at "sq") (by rfl) ?_)
  | ((with_reducible show rLenOf _ _ _ _); first | refine Wk.n_lenL (by walk_at "sq") ?_ | refine Wk.n_lenT (by walk_at "sq") ?_)
  | ((with_reducible show rListOf _ _ _ _); first | refine Wk.n_listL (by walk_at "sq") ?_ | refine Wk.n_listT (by walk_at "sq") ?_)
  | ((with_reducible show rTupZ _ _ _ _); first | refine Wk.z_tupL (by walk_at "sq") ?_ | refine Wk.z_tupT (by walk_at "sq") ?_)
  | ((with_reducible show rTupOf _ _ _ _); first | refine Wk.n_tupL (by walk_at "sq") ?_ | refine Wk.n_tupT (by walk_at "sq") ?_))
local macro_rules | `(tactic| walk_at "rd") => `(tactic| repeat (walk_at "rd1"))

section
variable {P : Program} {w : World} {K : PySem.W.Frag} {mg : Str → Option Value} {base : Heap}
theorem k__law_mixed (T : Txt mg) (k__law_draw : Keep P w K mg base 1 "_law_draw" ["state", "limit"] spDraw) (a : At K mg "_law_mixed" s__law_mixed ["state", "n"]) : Keep P w K mg base 2 "_law_mixed" ["state", "n"] spMix := by
  refine Keep.of a sc__law_mixed (fun vs H Q E h => ?_) (fun f cdv A outer s H vs Q E hr h => ?_)
  · obtain ⟨p, q, n, rfl, _⟩ := h
    rfl
  · obtain ⟨p, q, n, rfl, hn, ds, kk⟩ := h
    refine ⟨_, (pss_cons (ps_set (i := 2) sc__law_mixed.nd rfl (by first | exact Or.inl rfl | exact Or.inr rfl) (pe_listRg rfl (by rfl) T.n_list (prg_1 (by rfl) T.n_range (pv 1))))
    (pss_cons (ps_set (i := 3) sc__law_mixed.nd rfl (by first | exact Or.inl rfl | exact Or.inr rfl) (pe_lst pa_nil))
    (pss_cons (ps_for PassesOwn.never rfl (pi_range1 (by rfl) T.n_range (pa_cons (pv 1) pa_nil)) (pg_name (i := 4) sc__law_mixed.nd rfl (by first | exact Or.inl rfl | exact Or.inr rfl)) (pss_one (ps_expr (e_bm K PySem.F.plainAttrs_list PySem.F.slot_list_append PySem.F.type_list_append mt_append (pv 3) (pa_cons (e_bm K PySem.F.plainAttrs_list PySem.F.slot_list_pop PySem.F.type_list_pop mt_popAt (pv 2) (pa_cons (pe_k k__law_draw (hr.mono (by decide)) (by rfl) (pa_cons (pv 0) (pa_cons (pe_callB (c_len K) (by rfl) T.n_len (by decide +kernel) (pa_cons (pv 2) pa_nil)) pa_nil))) pa_nil)) pa_nil)))))
    (pss_one (ps_ret (pv 3)))))), ?_⟩
    walk_at "rd"
    refine ⟨RgOk.of_le (by omega) (by omega) (by omega) (by omega), fun la ha => ?_⟩
    walk_at "rd"
    intro fa hf
    walk_at "rd"
    obtain ⟨nlp, nlq⟩ := ds.ne ha
    have hf0 : H fa = none := Same.free (same_new ha) hf
    obtain ⟨nfp, nfq⟩ := ds.ne hf0
    have nlf : la ≠ fa := ne_of_none upd_same hf
    refine f_rng (n := n) (fun i σ' H' => ∃ (v4 : Option V) (l fd : List Nat), σ' = [some (.ref p), some (.int n), some (.ref la), some (.ref fa), v4] ∧ ExP p H H' ∧ DS H' p q ∧ H' la = some (.lst (natL l)) ∧ H' fa = some (.lst (natL fd)) ∧ fd.length = i ∧ l.length = n - i ∧ (fd ++ l).Perm (List.range n)) (by omega) (fun R' h => ?_) ?_ ?_ ?_
    · walk_at "rd"
      exact h
    · refine ⟨none, List.range n, [], rfl, ((same_new ha).trans (same_new hf)).exP, ds.mono ((same_new ha).trans (same_new hf)), ?_, upd_same, rfl, List.length_range, List.Perm.refl _⟩
      rw [upd_ne nlf, upd_same, rgV_nats, natL_range]
    · rintro i σ' H' hi ⟨v4, l, fd, rfl, s1, d1, hl, hfd, lf, ll, pm⟩ N B R hN hB hR
      walk_at "rd"
      have e1 : (natL l).length = n - i := natL_len.trans ll
      have pos : (0 : Int) < ((natL l).length : Int) := by omega
      refine ⟨p, q, _, rfl, d1, by omega, fun H2 r s2 d2 r0 r1 => ?_⟩
      have r1 := r1 pos
      have hl2 := s2 _ _ nlp hl
      have hf2 := s2 _ _ nfp hfd
      have hk : r.toNat < l.length := by omega
      have hx : l[r.toNat]? = some l[r.toNat] := List.getElem?_eq_getElem hk
      walk_at "rd"
      refine ⟨la, natL l, r, r.toNat, .int ((l[r.toNat] : Nat) : Int), rfl, rfl, hl2, by omega, by omega, seq_ix r0 r1, by unfold natL; rw [List.getElem?_map, hx]; rfl, ?_⟩
      have e2 : (natL l).eraseIdx r.toNat = natL (l.eraseIdx r.toNat) := by unfold natL; exact map_erase _ _ _
      rw [e2]
      walk_at "rd"
      refine Wk.r_append (xs := natL fd) (by rw [upd_ne nlf.symm]; exact hf2) (szlt (by rw [natL_len]; omega)) ?_
      have e3 : natL fd ++ [.int ((l[r.toNat] : Nat) : Int)] = natL (fd ++ [l[r.toNat]]) := by unfold natL; rw [List.map_append]; rfl
      rw [e3]
      have s3 : ExP p H (upd (upd H2 la (.lst (natL (l.eraseIdx r.toNat)))) fa (.lst (natL (fd ++ [l[r.toNat]])))) := fun b o nb e => by
        rw [upd_ne (ne_of_none e hf0), upd_ne (ne_of_none e ha)]
        exact s2 _ _ nb (s1 _ _ nb e)
      refine hN _ _ ⟨_, l.eraseIdx r.toNat, fd ++ [l[r.toNat]], rfl, s3, ?_, by rw [upd_ne nlf]; exact upd_same, upd_same, by rw [List.length_append, lf]; rfl, by rw [List.length_eraseIdx_of_lt hk]; omega, ?_⟩
      · exact (d2.mut nlp nlq ExP.upd).mut nfp nfq ExP.upd
      · refine List.Perm.trans ?_ pm
        rw [List.append_assoc]
        exact (perm_erase hx).append_left fd
    · rintro σ' H' ⟨v4, l, fd, rfl, s1, d1, hl, hfd, lf, ll, pm⟩
      have el : l = [] := List.eq_nil_of_length_eq_zero (by omega)
      subst el
      rw [List.append_nil] at pm
      obtain ⟨o, o', hp, e⟩ := perm_of pm
      walk_at "rd"
      refine kk H' fa o o' hf0 s1 d1 ?_ hp
      show H' fa = some (.lst (natsV n o))
      rw [hfd, e]
      unfold natL natsV
      rw [List.map_map]
      rfl
end
end Wk
end
section
set_option Elab.async false
set_option linter.all false
set_option maxRecDepth 100000
/-! for i, x in enumerate(t), t a tuple: a walk of my own over what the library says of such iterators. -/
namespace PySem
open Sem (wp)
/-- enumerate(v), one argument, v told by how it begins -/
theorem myEnumNew {v : Value} {o : Obj} {H : Heap → Prop} (B : Begins v o H) :
    Meets (Builtin.«enumerate.__new__» ⟨[.type "enumerate", v], []⟩) (fun _ R s => H s.heap ∧
      R (.ok (.ret (.ref (s.heap.push o).objs.size)))
        { s with heap := (s.heap.push o).push { cls := .type "enumerate", data := .fields #[.none, .bool false, .ref s.heap.objs.size, rawInt 0, .none, .none] } }) :=
  .of_wp fun prog w A R s h => by
    obtain ⟨hp, g, d, tk, os⟩ := s
    obtain ⟨h1, h⟩ := h
    have sub := sub_enumerate
    have go : ∀ (A : Around) (E : Value → Shared → Prop) (Q : Value → Shared → Prop), Q (.ref hp.objs.size) ⟨hp.push o, g, d, tk, os⟩ → wpAny (model prog w) A (pyIter v) Q E ⟨hp, g, d, tk, os⟩ := fun A E Q q => B.iter prog w A E ⟨hp, g, d, tk, os⟩ Q h1 q
    wp_walk
    refine wpAny_stack_any fun st => wpAny_pure ?_
    split
    · rename_i c _ _ _ _ _
      cases (c == Value.type "enumerate") <;> (wp_walk using go; exact ⟨_, rfl, h⟩)
    · wp_walk using go
      exact ⟨_, rfl, h⟩
end PySem
end
section
set_option Elab.async false
set_option linter.all false
set_option maxRecDepth 100000
namespace PySem
section
variable {prog : Program} {w : World} {A : Around} {E : Value → Shared → Prop} {s : Shared}
theorem myEnumCall {v : Value} {o : Obj} {H : Heap → Prop} {Q : Value → Shared → Prop} (B : Begins v o H) (h1 : H s.heap)
    (h : ∀ h', IsEnum h' (s.heap.objs.size + 1) s.heap.objs.size 0 .none → h'.get? s.heap.objs.size = some o → (∀ b o', s.heap.get? b = some o' → h'.get? b = some o') → Q (.ref (s.heap.objs.size + 1)) { s with heap := h' }) :
    wpAny (model prog w) A (call (.type "enumerate") [v]) Q E s := by
  refine callType_new F.called_enumerate (by decide) (F.typeCall_enumerate_1 _) (F.newCall_enumerate_1 _) (fun obj => F.args_object_init_2 obj _) F.entry_enumerate_new (myEnumNew B) ⟨h1, ?_⟩
  have z : (s.heap.push o).objs.size = s.heap.objs.size + 1 := Heap.size_push ..
  show _ ∧ _
  rw [z]
  have en : IsEnum ((s.heap.push o).push { cls := .type "enumerate", data := .fields #[.none, .bool false, .ref s.heap.objs.size, rawInt 0, .none, .none] }) (s.heap.objs.size + 1) s.heap.objs.size 0 .none := by
    have q := Heap.get?_push_size (s.heap.push o) (o := { cls := .type "enumerate", data := .fields #[.none, .bool false, .ref s.heap.objs.size, rawInt 0, .none, .none] }) rfl
    rw [z] at q
    exact q
  exact ⟨⟨_, en, rfl⟩, h _ en (Heap.get?_push_of_some _ (Heap.get?_push_size _ B.free)) fun b o' x => Heap.get?_push_of_some _ (Heap.get?_push_of_some _ x)⟩
end
end PySem
namespace Wk
open PySem PySem.Spec PyProof.Rows L2
/-- the tuple at a, each item in a new pair with its place -/
def IteT (K : PySem.W.Frag) (a : Addr) : It where
  go := fun i H => ∃ (xs : List V) (x : V), SqT K H a xs ∧ xs[i]? = some x
  yld := fun i H v H' => ∃ T x, v = .ref T ∧ H T = none ∧ H' = upd H T (.tup [.int (i : Nat), x]) ∧ ∀ xs, SqT K H a xs → xs[i]? = some x
  stop := fun i H => ∃ xs : List V, SqT K H a xs ∧ xs.length ≤ i
theorem turnT {P : Program} {w : World} {K : PySem.W.Frag} {elts : List Expr} {kk : Nat} {tpos : Pos} (a e it : Addr) :
    Turn P w K (.Tuple elts kk tpos) (IteT K a) [e, it] e (fun i h => (∃ old, IsEnum h e it ((i : Nat) : Int) old) ∧ h.IsTupleIter it a i ∧ e ≠ it ∧ a ≠ it ∧ a ≠ e) where
  mem := List.mem_cons_self
  obj := fun i h st b hb => by
    obtain ⟨⟨old, he⟩, ⟨o, ho, hc, hd⟩, _⟩ := st
    rcases List.mem_cons.mp hb with z | z
    · subst z
      refine ⟨_, he, fun v q => ?_⟩
      cases q
    · have z := List.mem_singleton.mp z
      subst z
      exact ⟨o, ho, fun v q => by rw [hd] at q; cases q⟩
  keep := fun i h h' st k => by
    obtain ⟨⟨old, he⟩, hi, r⟩ := st
    exact ⟨⟨old, k e (by simp) _ he⟩, hi.at fun o q => k it (by simp) o q, r⟩
  item := by
    intro X hP hw hK hc i pins s σ H E I hf st hg
    subst hP hw hK
    obtain ⟨⟨old, he⟩, hit, hne, hai, hae⟩ := st
    obtain ⟨xs, x, hq, hx⟩ := hg
    obtain ⟨its, rv, p, hz⟩ := I.tuple hq
    obtain ⟨u, hu, ru⟩ := rv.get hx
    have tup : s.heap.IsTuple a its.toArray := p
    have lt : i < its.toArray.size := by
      have q := (List.getElem?_eq_some_iff.mp hu).1
      simpa using q
    have hel : e < s.heap.objs.size := Heap.lt_size he
    have hil : it < s.heap.objs.size := by obtain ⟨_, q, _⟩ := hit; exact Heap.lt_size q
    have hh : X.A.in1.handled = none := I.ok.hd hc
    refine wpAny_pyNext_enum_itemD (Draws.tuple hh it a hai its.toArray) he ⟨hit, tup⟩ lt hne (by simp [hne, hae.symm]) fun y h' tk hy ho st' hT hsz hk => ?_
    have ey : y = u := by
      have q : its.toArray[i]? = some u := by simpa using hu
      exact Option.some.inj (hy.symm.trans q)
    subst ey
    refine ⟨_, rfl, wpAny_letOwnedTupleGo_enum (s := { s with heap := h', toks := tk + 1 }) ho fun h'' he' sb => ?_⟩
    have hT2 : h''.get? s.heap.objs.size = some { cls := .type "tuple", data := .seq #[.int i tk, y] } := (sb.2 _ (Nat.ne_of_gt hel)).trans hT
    have new : ObjOk X.prog X.w (upd H s.heap.objs.size (.tup [.int (i : Nat), x])) h'' s.heap.objs.size (.tup [.int (i : Nat), x]) :=
      ⟨by show 2 ≤ sizeLine; decide, [.int i tk, y], .cons ⟨_, rfl⟩ (.cons ru .nil), ⟨_, hT2, rfl, _, rfl⟩⟩
    have I1 : Inv X pins σ (upd H s.heap.objs.size (.tup [.int (i : Nat), x])) { s with heap := h'', toks := tk + 1 } :=
      I.turnedNew (ch := [e, it]) (fun b ob hb q => (sb.2 b (fun z => hb (by simp [z]))).trans (hk b ob (fun z => hb (by simp [z])) (fun z => hb (by simp [z])) q)) hf (Nat.le_refl _) new
    refine ⟨.ref s.heap.objs.size, _, I1, rfl, ⟨_, x, rfl, I.hok.fresh (Nat.le_refl _), rfl, fun ys hy' => by rw [I.tuple_inj hy' hq]; exact hx⟩, ⟨⟨y, ?_⟩, st'.1.at fun o q => (sb.2 it (Ne.symm hne)).trans q, hne, hai, hae⟩, fun b hb => ?_⟩
    · have e1 : ((i + 1 : Nat) : Int) = (i : Int) + 1 := by omega
      rw [e1]
      exact he'
    · have hb' : b < s.heap.objs.size := by
        rcases List.mem_cons.mp hb with z | z
        · rw [z]; exact hel
        · rw [List.mem_singleton.mp z]; exact hil
      rw [upd_ne (Nat.ne_of_lt hb')]
      exact (hf b hb).1
  done := by
    intro X hP hw hK hc i pins s σ H E I hf st hg
    subst hP hw hK
    obtain ⟨⟨old, he⟩, hit, hne, hai, hae⟩ := st
    obtain ⟨xs, hq, hx⟩ := hg
    obtain ⟨its, rv, p, hz⟩ := I.tuple hq
    have tup : s.heap.IsTuple a its.toArray := p
    have hh : X.A.in1.handled = none := I.ok.hd hc
    obtain ⟨f0, f1, f2, f3, f4, f5⟩ := hf it (by simp)
    have hl := rv.length
    have no : its.toArray[i]? = none := by
      simp only [List.getElem?_toArray]
      exact List.getElem?_eq_none (by omega)
    -- nothing is drawn any more
    have D : Draws X.prog X.w X.A.in1 it [it, a] 0 (fun _ _ => False) (fun _ h => h.IsTupleIter it a i ∧ h.IsTuple a its.toArray) :=
      { live := fun _ _ q => let ⟨o, z, _⟩ := q.1; ⟨o, z⟩
        frame := fun _ _ _ q k => ⟨q.1.at fun o z => k it (by simp) o z, q.2.at fun o z => k a (by simp) o z⟩
        item := fun _ _ _ _ q => absurd q (Nat.not_lt_zero _)
        done := fun _ _ _ q k => wpAny_nextOf_tuple_end hh q.1 q.2 no k }
    exact wpAny_pyNext_enum_endD D he ⟨hit, tup⟩ fun h' eb => ⟨rfl, I.turned (t' := s.toks) (fun b o hb q => eb b o hb q) f0 f1 f3 f4 f5⟩
  self := fun A i s Q E st h => let ⟨⟨_, he⟩, _⟩ := st; wpAny_pyIter_enum he h
def iEnumT (K : PySem.W.Frag) (ta : TA) : TI := fun σ H R => ta σ H fun vs H1 => ∃ a xs, vs = [.ref a] ∧ SqT K H1 a xs ∧ R (IteT K a) H1
theorem i_enumT (K : PySem.W.Frag) {X : Cx} {e : Expr} {ta : TA} {p pos tpos : Pos} {elts : List Expr} {kk : Nat} (hg : Gl X "enumerate") (hm : X.mg "enumerate" = none) (ha : PA X [e] ta) (hK : X.K = K := by rfl)
    (hs : starEach [e] X.env = [(false, eval e X.env)] := by rfl) : PI X (.Tuple elts kk tpos) (.Call (.Name "enumerate" p) [e] [] pos) (iEnumT K ta) := by
  subst hK
  refine ⟨fun pins s σ H R I h => ?_⟩
  refine Call_ (ld_blt I hg hm boot_enumerate (PyProof.Rows.callWith_type1 (thn (ha.run pos pins s σ H _ I h) fun us s1 q1 => ?_) hs rfl))
  obtain ⟨vs, H1, I1, r1, a, xs, ex, hq, q⟩ := q1
  subst ex
  obtain ⟨u, rfl, r⟩ := vals1 r1
  cases r
  obtain ⟨its, rv, tup, hz⟩ := I1.tuple hq
  have al : a < s1.heap.objs.size := tup.lt
  refine myEnumCall (begins_tuple a its.toArray) tup fun h' he hit hk => wpAny_pyIter_enum he ?_
  have I2 : Inv X pins σ H1 { s1 with heap := h' } := I1.kept (t' := s1.toks) hk
  refine ⟨s1.heap.objs.size + 1, [s1.heap.objs.size + 1, s1.heap.objs.size], _, _, H1, rfl, I2, turnT a (s1.heap.objs.size + 1) s1.heap.objs.size, ⟨⟨.none, he⟩, ⟨_, hit, rfl, rfl⟩, Nat.succ_ne_self _, Nat.ne_of_lt al, Nat.ne_of_lt (Nat.lt_succ_of_lt al)⟩, fun b hb => ?_, q⟩
  have le : s1.heap.objs.size ≤ b := by
    rcases List.mem_cons.mp hb with z | z
    · rw [z]; exact Nat.le_succ _
    · rw [List.mem_singleton.mp z]; exact Nat.le_refl _
  exact I1.fpOk le (I1.hok.fresh le)
theorem i_enumL (K : PySem.W.Frag) {X : Cx} {e : Expr} {ta : TA} {p pos tpos : Pos} {elts : List Expr} {kk : Nat} (hg : Gl X "enumerate") (hm : X.mg "enumerate" = none) (ha : PA X [e] ta) (hK : X.K = K := by rfl)
    (hs : starEach [e] X.env = [(false, eval e X.env)] := by rfl) : PI X (.Tuple elts kk tpos) (.Call (.Name "enumerate" p) [e] [] pos) (iEnum K ta) := by
  subst hK
  exact pi_enum hg hm ha hs
/-! loops over them -/
section
variable {K : PySem.W.Frag} {ta : TA} {t : TS} {g : TG} {D : Ends} {σ : L2.St} {H : Hp} {a : Addr} {xs : List V}
theorem f_enumT (Pv : Nat → L2.St → Hp → Prop) (hs : SqT K H a xs) (hta : ∀ R' : List V → Hp → Prop, R' [.ref a] H → ta σ H R') (h0 : Pv 0 σ H) (hl : ∀ i σ' H', Pv i σ' H' → SqT K H' a xs)
    (step : ∀ (i : Nat) x σ' H' T, xs[i]? = some x → Pv i σ' H' → H' T = none → g (.ref T) σ' (upd H' T (.tup [.int (i : Int), x])) fun σ2 H2 => TurnOf (Pv (i + 1)) D t σ2 H2) (done : ∀ σ' H', Pv xs.length σ' H' → D.nx σ' H') (gm : ∀ v σ H R R', (∀ σ H, R σ H → R' σ H) → g v σ H R → g v σ H R') : tFor (iEnumT K ta) g t D σ H := by
  refine hta _ ⟨a, xs, rfl, hs, fun i m σ' H' => m = xs.length - i ∧ i ≤ xs.length ∧ Pv i σ' H', ⟨xs.length, by simp, Nat.zero_le _, h0⟩, ?_⟩
  rintro i m σ' H' ⟨rfl, hi, p⟩
  have q := hl i σ' H' p
  by_cases lt : i < xs.length
  · refine .inr ⟨⟨xs, xs[i], q, List.getElem?_eq_getElem lt⟩, Pv (i + 1), fun σ2 H2 p' => ⟨xs.length - (i + 1), by omega, rfl, lt, p'⟩, fun v H2 y => ?_⟩
    obtain ⟨T, x, rfl, hT, rfl, hx⟩ := y
    exact gm _ _ _ _ _ (fun _ _ z => z.go) (step i x σ' H' T (hx xs q) p hT)
  · have e : i = xs.length := by omega
    subst e
    exact .inl ⟨⟨xs, q, Nat.le_refl _⟩, done σ' H' p⟩
end
/-- the target i, x of such a loop -/
theorem g2_mono {K : PySem.W.Frag} {n i j : Nat} (v : V) (σ : L2.St) (H : Hp) (R R' : L2.St → Hp → Prop) (h : ∀ σ H, R σ H → R' σ H) (q : gTup K n (gCons (gName i) (gCons (gName j) gNil)) v σ H R) : gTup K n (gCons (gName i) (gCons (gName j) gNil)) v σ H R' := by
  obtain ⟨a, xs, rfl, hs, hl, v1, r1, rfl, v2, r2, rfl, e, q⟩ := q
  exact ⟨a, _, rfl, hs, hl, v1, _, rfl, v2, _, rfl, e, h _ _ q⟩
end Wk
end
section
set_option Elab.async false
set_option linter.all false
set_option maxRecDepth 100000
namespace Wk
open PySem PySem.Spec PyProof.Rows L2
section
variable {K : PySem.W.Frag} {ta : TA} {t : TS} {g : TG} {D : Ends} {σ : L2.St} {H : Hp} {a : Addr} {xs : List V}
theorem f_enumL (Pv : Nat → L2.St → Hp → Prop) (hs : SqL K H a xs) (hta : ∀ R' : List V → Hp → Prop, R' [.ref a] H → ta σ H R') (h0 : Pv 0 σ H) (hl : ∀ i σ' H', Pv i σ' H' → SqL K H' a xs)
    (step : ∀ (i : Nat) x σ' H' T, xs[i]? = some x → Pv i σ' H' → H' T = none → g (.ref T) σ' (upd H' T (.tup [.int (i : Int), x])) fun σ2 H2 => TurnOf (Pv (i + 1)) D t σ2 H2) (done : ∀ σ' H', Pv xs.length σ' H' → D.nx σ' H') (gm : ∀ v σ H R R', (∀ σ H, R σ H → R' σ H) → g v σ H R → g v σ H R') : tFor (iEnum K ta) g t D σ H := by
  refine hta _ ⟨a, xs, rfl, hs, fun i m σ' H' => m = xs.length - i ∧ i ≤ xs.length ∧ Pv i σ' H', ⟨xs.length, by simp, Nat.zero_le _, h0⟩, ?_⟩
  rintro i m σ' H' ⟨rfl, hi, p⟩
  have q := hl i σ' H' p
  by_cases lt : i < xs.length
  · refine .inr ⟨⟨xs, xs[i], q, List.getElem?_eq_getElem lt⟩, Pv (i + 1), fun σ2 H2 p' => ⟨xs.length - (i + 1), by omega, rfl, lt, p'⟩, fun v H2 y => ?_⟩
    obtain ⟨T, x, rfl, hT, rfl, hx⟩ := y
    exact gm _ _ _ _ _ (fun _ _ z => z.go) (step i x σ' H' T (hx xs q) p hT)
  · have e : i = xs.length := by omega
    subst e
    exact .inl ⟨⟨xs, q, Nat.le_refl _⟩, done σ' H' p⟩
end
theorem i_enumS (K : PySem.W.Frag) {X : Cx} {e : Expr} {ta : TA} {p pos tpos : Pos} {elts : List Expr} {kk : Nat} (hg : Gl X "enumerate") (hm : X.mg "enumerate" = none) (ha : PA X [e] ta) (hK : X.K = K := by rfl)
    (hs : starEach [e] X.env = [(false, eval e X.env)] := by rfl) : PI X (.Tuple elts kk tpos) (.Call (.Name "enumerate" p) [e] [] pos) (fun σ H R => iEnum K ta σ H R ∨ iEnumT K ta σ H R) := PI.or (i_enumL K hg hm ha hK hs) (i_enumT K hg hm ha hK hs)
theorem tFor_inl {wi wi' : TI} {g : TG} {t : TS} {D : Ends} {σ : L2.St} {H : Hp} (h : tFor wi g t D σ H) : tFor (fun σ H R => wi σ H R ∨ wi' σ H R) g t D σ H := Or.inl h
theorem tFor_inr {wi wi' : TI} {g : TG} {t : TS} {D : Ends} {σ : L2.St} {H : Hp} (h : tFor wi' g t D σ H) : tFor (fun σ H R => wi σ H R ∨ wi' σ H R) g t D σ H := Or.inr h
theorem tLc_inl {wi wi' : TI} {g : TG} {t : TT} {te : TE} {vs : List Nat} {σ : L2.St} {H : Hp} {Q : VK} (h : tLc wi g t te vs σ H Q) : tLc (fun σ H R => wi σ H R ∨ wi' σ H R) g t te vs σ H Q := Or.inl h
theorem tLc_inr {wi wi' : TI} {g : TG} {t : TT} {te : TE} {vs : List Nat} {σ : L2.St} {H : Hp} {Q : VK} (h : tLc wi' g t te vs σ H Q) : tLc (fun σ H R => wi σ H R ∨ wi' σ H R) g t te vs σ H Q := Or.inr h
/-! comprehensions that leave turns out -/
section
variable {K : PySem.W.Frag} {n : Nat} {ta : TA} {j l : Nat} {tt : TT} {te : TE} {vs : List Nat} {σ : L2.St} {H : Hp} {Q : VK} {a : Addr} {xs : List V}
open Evl in
theorem lc_turnF {f : Nat → Bool} {v : Nat → V} {D : Addr} {i : Nat} {σ2 : L2.St} {H1 : Hp} (hi : i < 50000) (hD : H D = none) (s1 : Same H H1) (hL : H1 D = some (.lst (given i f v)))
    (step : ∀ QT : Bool → Hp → Prop, (∀ H2, Same H1 H2 → QT (f i) H2) → tt σ2 H1 QT)
    (val : ∀ H2 (Q' : VK), f i = true → Same H1 H2 → (∀ H3, Same H2 H3 → Q' (v i) H3) → te σ2 H2 Q') :
    tt σ2 H1 fun b H3 => if b = true then te σ2 H3 fun y H4 => ∃ acc, H4 D = some (.lst acc) ∧ acc.length < sizeLine ∧ (Same H (upd H4 D (.lst (acc ++ [y]))) ∧ (upd H4 D (.lst (acc ++ [y]))) D = some (.lst (given (i + 1) f v))) else (Same H H3 ∧ H3 D = some (.lst (given (i + 1) f v))) := by
  refine step _ fun H2 s2 => ?_
  cases hf : f i with
  | true =>
    show te σ2 H2 _
    refine val H2 _ hf s2 fun H3 s3 => ⟨given i f v, s3 _ _ (s2 _ _ hL), szlt (by have := given_len i f v; omega), fun b o e => ?_, ?_⟩
    · rw [upd_ne (ne_of_none e hD)]; exact s3 _ _ (s2 _ _ (s1 _ _ e))
    · rw [given_yes hf]; exact upd_same
  | false =>
    show Same H H2 ∧ H2 D = some (.lst (given (i + 1) f v))
    rw [given_no hf]
    exact ⟨s1.trans s2, s2 _ _ hL⟩
open Evl in
theorem lc_rngF (f : Nat → Bool) (v : Nat → V) (hn : n ≤ 40000) (hta : ∀ R' : List V → Hp → Prop, R' [.int n] H → ta σ H R')
    (step : ∀ (i : Nat) H1 (QT : Bool → Hp → Prop), i < n → Same H H1 → (∀ H2, Same H1 H2 → QT (f i) H2) → tt ((wipe σ vs).set j (some (.int (i : Int)))) H1 QT)
    (val : ∀ (i : Nat) H1 (Q' : VK), i < n → f i = true → Same H H1 → (∀ H2, Same H1 H2 → Q' (v i) H2) → te ((wipe σ vs).set j (some (.int (i : Int)))) H1 Q')
    (done : ∀ D H1, H D = none → Same H H1 → H1 D = some (.lst (given n f v)) → Q (.ref D) H1) (hw : ∀ x, wipe ((wipe σ vs).set j (some x)) vs = wipe σ vs := by intro _; rfl) : tLc (iRng1 ta) (gName j) tt te vs σ H Q := by
  refine hta _ ⟨n, rfl, by omega, by omega, fun D hD => ?_⟩
  have en : ((n : Int)).toNat = n := Int.toNat_natCast n
  rw [en]
  refine lc_range (lo := 0) (n := n) (fun i H1 => Same H H1 ∧ H1 D = some (.lst (given i f v))) ⟨same_new hD, upd_same⟩ ?_ ?_
  · rintro i H1 hi ⟨s1, hL⟩
    have e0 : (0 : Int) + (i : Int) = (i : Int) := Int.zero_add _
    rw [e0]
    refine ⟨hw _, ?_⟩
    exact lc_turnF (by omega) hD s1 hL (fun QT k => step i H1 QT hi s1 k) (fun H2 Q' hf s2 k => val i H2 Q' hi hf (s1.trans s2) k)
  · rintro H1 ⟨s1, hL⟩
    exact done D H1 hD s1 hL
open Evl in
/-- over enumerate(tuple): the target i, x -/
theorem lc_enumF (f : Nat → Bool) (v : Nat → V) (hs : SqT K H a xs) (hz : xs.length ≤ 40000) (hta : ∀ R' : List V → Hp → Prop, R' [.ref a] H → ta σ H R')
    (step : ∀ (i : Nat) x H1 (QT : Bool → Hp → Prop), xs[i]? = some x → Same H H1 → (∀ H2, Same H1 H2 → QT (f i) H2) → tt (((wipe σ vs).set j (some (.int (i : Int)))).set l (some x)) H1 QT)
    (val : ∀ (i : Nat) x H1 (Q' : VK), xs[i]? = some x → f i = true → Same H H1 → (∀ H2, Same H1 H2 → Q' (v i) H2) → te (((wipe σ vs).set j (some (.int (i : Int)))).set l (some x)) H1 Q')
    (done : ∀ D H1, H D = none → Same H H1 → H1 D = some (.lst (given xs.length f v)) → Q (.ref D) H1) (hw : ∀ x y, wipe (((wipe σ vs).set j (some x)).set l (some y)) vs = wipe σ vs := by intro _ _; rfl) :
    tLc (iEnumT K ta) (gTup K 2 (gCons (gName j) (gCons (gName l) gNil))) tt te vs σ H Q := by
  refine hta _ ⟨a, xs, rfl, hs, fun D hD => ?_⟩
  refine ⟨fun i m H1 => m = xs.length - i ∧ i ≤ xs.length ∧ Same H H1 ∧ H1 D = some (.lst (given i f v)), ⟨xs.length, by simp, Nat.zero_le _, same_new hD, upd_same⟩, ?_⟩
  rintro i m H1 ⟨rfl, hi, s1, hL⟩
  have q := s1.sqT hs
  by_cases lt : i < xs.length
  · refine .inr ⟨⟨xs, xs[i], q, List.getElem?_eq_getElem lt⟩, fun H' => Same H H' ∧ H' D = some (.lst (given (i + 1) f v)), fun H2 p' => ⟨xs.length - (i + 1), by omega, rfl, lt, p'⟩, fun z H2 y => ?_⟩
    obtain ⟨T, x, rfl, hT, rfl, hx⟩ := y
    have hx' := hx xs q
    refine r_gTup (SqT.of upd_same) rfl (r_gCons (r_gName (r_gCons (r_gName (r_gNil ⟨hw _ _, ?_⟩)))))
    have s2 := s1.trans (same_new (o := .tup [.int (i : Int), x]) hT)
    exact lc_turnF (by omega) hD s2 (same_new hT _ _ hL) (fun QT k => step i x _ QT hx' s2 k) (fun H2 Q' hf s3 k => val i x H2 Q' hx' hf (s2.trans s3) k)
  · have e : i = xs.length := by omega
    subst e
    exact .inl ⟨⟨xs, q, Nat.le_refl _⟩, done D H1 hD s1 hL⟩
theorem given_none {n : Nat} {f : Nat → Bool} {v : Nat → V} (h : ∀ i, i < n → f i = false) : Evl.given n f v = [] := by
  unfold Evl.given
  rw [List.filter_eq_nil_iff.mpr fun i hi => by rw [h i (List.mem_range.mp hi)]; decide]
  rfl
theorem given_len0 {n : Nat} {f : Nat → Bool} {v : Nat → V} : (Evl.given n f v).length = 0 ↔ ∀ i, i < n → f i = false := by
  unfold Evl.given
  rw [List.length_map, List.length_eq_zero_iff, List.filter_eq_nil_iff]
  exact ⟨fun h i hi => by simpa using h i (List.mem_range.mpr hi), fun h i hi => by rw [h i (List.mem_range.mp hi)]; decide⟩
end
/-! steps of my own -/
section
variable {K : PySem.W.Frag} {H : Hp} {Q : VK} {ta tb tc : TE} {r r' : R2} {σ : L2.St} {x : V} {bs : List Bool} {p : Addr} {C dx : Addr} {fs : List (Str × V)} {f : Str} {v : V}
theorem r_nT {A B : Prop} (h : B) : if (!true) = true then A else B := h
theorem r_nF {A B : Prop} (h : A) : if (!false) = true then A else B := h
theorem r_chain (h : ta σ H fun x H1 => tb σ H1 fun y H2 => r x y H2 fun z H3 => ∃ k, z = .bl k ∧ (if k = true then tc σ H3 fun w' H4 => r' y w' H4 Q else Q (.bl false) H3)) : tChain r r' ta tb tc σ H Q := h
theorem n_isi {c : V} {t u : Value} {b : Bool} (k : ClsV c u) (ty : TyX K H x t) (e : PySem.W.kitOne K t u = some b) (q : Q (.bl b) H) : rIsi K [x, c] H Q := ⟨x, c, t, u, b, rfl, k, ty, e, q⟩
theorem n_isiB {n m : String} {b : Bool} (ty : TyX K H x (.type n)) (e : kitB n m = some b) (q : Q (.bl b) H) : rIsi K [x, .ty m] H Q := n_isi (.ty m) ty (kit_ty e) q
theorem n_isiT {cs : List V} {t : Value} {us : List Value} {b : Bool} (hT : H p = some (.tup cs)) (k : Paired ClsV cs us) (ty : TyX K H x t) (e : PySem.W.kitAny K t us = some b) (q : Q (.bl b) H) : rIsiT K [x, .ref p] H Q := ⟨x, p, cs, t, us, b, rfl, hT, k, ty, e, q⟩
theorem n_all (hs : SqL K H p (bs.map V.bl)) (q : Q (.bl (bs.all id)) H) : rAll K [.ref p] H Q := ⟨p, bs, rfl, hs, q⟩
theorem r_fld (h : ta σ H fun x H1 => ∃ a C dx fs v, x = .ref a ∧ H1 a = some (.ins C dx fs) ∧ Cls K C ∧ NoAttr K C f ∧ fs.lookup f = some v ∧ Q v H1) : tFld K ta f σ H Q := h
theorem n_fld {a : Addr} (e : H a = some (.ins C dx fs)) (c : Cls K C) (n : NoAttr K C f) (l : fs.lookup f = some v) (q : Q v H) : ∃ a' C dx fs v, V.ref a = .ref a' ∧ H a' = some (.ins C dx fs) ∧ Cls K C ∧ NoAttr K C f ∧ fs.lookup f = some v ∧ Q v H := ⟨a, C, dx, fs, v, rfl, e, c, n, l, q⟩
theorem r_sfld {tv : TE} {D : Ends} (h : tv σ H fun y H1 => ta σ H1 fun x H2 => ∃ a C dx fs, x = .ref a ∧ H2 a = some (.ins C dx fs) ∧ Cls K C ∧ NoAttr K C f ∧ fs.length < 1000 ∧ D.nx σ (upd H2 a (.ins C dx (putF f y fs)))) : sFld K ta tv f D σ H := h
end
/-- the type of a list or a tuple -/
theorem sq_ty {K : PySem.W.Frag} {H : Hp} {a : Addr} {xs : List V} (h : SqT K H a xs) : TyX K H (.ref a) (.type "tuple") := by
  rcases h with (e | ⟨o, e⟩) | ⟨o, its, n, e, c, _⟩
  · exact .base (.tup e)
  · exact .fTuple e
  · exact .kTuple e c
theorem sl_ty {K : PySem.W.Frag} {H : Hp} {a : Addr} {xs : List V} (h : SqL K H a xs) : TyX K H (.ref a) (.type "list") := by
  rcases h with (e | ⟨o, e⟩) | ⟨o, its, n, e, c, _⟩
  · exact .base (.lst e)
  · exact .base (.frz e)
  · exact .kList e c
end Wk
end
section
set_option Elab.async false
set_option linter.all false
set_option maxRecDepth 100000
namespace Wk
open PySem PySem.Spec PyProof.Rows L2
local macro_rules | `(tactic| walk_at "hp") => `(tactic| first | assumption | exact upd_same | exact (upd_ne (ne_of_none (by assumption) (by assumption))).trans (by assumption) | (rw [upd_ne (by first | assumption | exact Ne.symm (by assumption))]; walk_at "hp"))
local macro_rules | `(tactic| walk_at "sq") => `(tactic| first | assumption | exact SqL.of (by assumption) | exact SqT.of (by assumption) | exact SqL.of (by walk_at "hp") | exact SqT.of (by walk_at "hp") | (refine Same.seq ?_ ?_ <;> assumption))
local macro_rules | `(tactic| walk_at "cmul") => `(tactic| first | exact .inr ⟨by decide, by decide⟩ | exact .inl ⟨by decide, by decide⟩ | exact .inr ⟨by omega, by omega⟩ | exact .inl ⟨by omega, by omega⟩)
local macro_rules | `(tactic| walk_at "cdiv") => `(tactic| first | exact ⟨by decide, by decide⟩ | exact wide_div (b := 64) (by omega) (by omega) (by decide) (by decide) | exact wide_div (b := 128) (by omega) (by omega) (by decide) (by decide))
local macro_rules | `(tactic| walk_at "rd1") => `(tactic| first
  | ((with_reducible show tVar _ _ _ _); refine Wk.r_var rfl ?_)
  | (with_reducible first
    | refine Wk.r_c ?_ | refine Wk.r_op ?_ | refine Wk.r_cons ?_ | refine Wk.r_nil ?_
    | refine Wk.r_seq ?_ | refine Wk.r_next ?_ | refine Wk.r_set ?_ | refine Wk.r_asgS ?_ | refine Wk.r_ret ?_ | refine Wk.r_drop ?_ | refine Wk.r_if ?_
    | refine Wk.r_asgG ?_ | refine Wk.r_gName ?_ | refine Wk.r_gCons ?_ | refine Wk.r_gNil ?_ | refine Wk.r_par ?_ | refine Wk.r_par3 ?_ | refine Wk.r_lstRg1 ?_ | refine Wk.r_tupRg1 ?_ | refine ⟨_, _, _, rfl, ?_⟩ | refine Wk.r_un ?_ | refine Wk.r_I0 ?_ | refine Wk.r_U ?_
    | refine Wk.r_test ?_ | refine Wk.r_B ?_ | refine Wk.r_k ?_ | refine Wk.r_not ?_ | refine Wk.r_and ?_ | refine Wk.r_or ?_ | refine Wk.r_andV ?_ | refine Wk.r_orV ?_ | refine Wk.r_notV ?_
    | refine Wk.r_CB ?_ | refine Wk.r_chain ?_ | refine Wk.r_fld ?_ | refine Wk.r_sfld ?_ | refine Wk.r_lst ?_ | refine Wk.r_tup ?_ | refine Wk.r_call ?_ | refine Wk.r_BM ?_ | refine Wk.r_BM0 ?_ | refine Wk.r_T ?_ | refine Wk.r_nT ?_ | refine Wk.r_nF ?_ | refine Wk.r_F ?_
    | refine Or.inl ⟨_, rfl, ?_⟩ | refine Or.inr ⟨_, rfl, ?_⟩ | refine ⟨_, rfl, ?_⟩ | refine ⟨_, _, rfl, ?_⟩)
  | ((with_reducible refine Wk.r_eq ?c0 ?_); (case c0 => rfl)) | ((with_reducible refine Wk.r_ne ?c0 ?_); (case c0 => rfl))
  | ((with_reducible refine Wk.r_pow ?c0 ?_); (case c0 => exact ⟨by decide, by decide, by decide⟩))
  | ((with_reducible refine Wk.r_mul ?c0 ?_); (case c0 => walk_at "cmul")) | ((with_reducible refine Wk.r_mod ?c0 ?_); (case c0 => first | decide | omega)) | ((with_reducible refine Wk.r_div ?c0 ?_); (case c0 => walk_at "cdiv"))
  | ((with_reducible refine Wk.r_new ?c0 ?_); (case c0 => (simp only [List.length_cons, List.length_nil]; omega)))
  | ((with_reducible show gTup _ _ _ _ _ _ _); refine Wk.r_gTup (by walk_at "sq") (by rfl) ?_)
  | (refine Wk.r_tyL (by walk_at "hp") ?_)
  | ((with_reducible show rSetL _ _ _ _ _); refine Wk.r_setL (by walk_at "hp") (by rfl) ?_)
  | ((with_reducible show rIxL _ _ _ _ _); refine Wk.r_ixL (by walk_at "sq") (by rfl) ?_) | ((with_reducible show rIxT _ _ _ _ _); refine Wk.r_ixT (by walk_at "sq") (by rfl) ?_)
  | ((with_reducible show rLenOf _ _ _ _); first | refine Wk.n_lenL (by walk_at "sq") ?_ | refine Wk.n_lenT (by walk_at "sq") ?_)
  | ((with_reducible show rListOf _ _ _ _); first | refine Wk.n_listL (by walk_at "sq") ?_ | refine Wk.n_listT (by walk_at "sq") ?_)
  | ((with_reducible show rTupZ _ _ _ _); first | refine Wk.z_tupL (by walk_at "sq") ?_ | refine Wk.z_tupT (by walk_at "sq") ?_)
  | ((with_reducible show rTupOf _ _ _ _); first | refine Wk.n_tupL (by walk_at "sq") ?_ | refine Wk.n_tupT (by walk_at "sq") ?_))
local macro_rules | `(tactic| walk_at "rd") => `(tactic| repeat (walk_at "rd1"))

section
variable {P : Program} {w : World} {K : PySem.W.Frag} {mg : Str → Option Value} {base : Heap}
theorem k__law_cyclic (T : Txt mg) (a : At K mg "_law_cyclic" s__law_cyclic ["n"]) : Keep P w K mg base 1 "_law_cyclic" ["n"] (spCyc K) := by
  refine Keep.of a sc__law_cyclic (fun vs H Q E h => ?_) (fun f cdv A outer s H vs Q E hr h => ?_)
  · obtain ⟨n, rfl, _⟩ := h
    rfl
  · obtain ⟨n, rfl, hn, h0, k⟩ := h
    refine ⟨_, (pss_one (ps_ret (pe_lc (own := [("x", 1)]) rfl sc__law_cyclic.nd (pi_range1 (by rfl) T.n_range (pa_cons (pv 0) pa_nil)) (blkOk_by (N := ["n", "x", "y"]) (sc := defScope s__law_cyclic) (by decide +kernel)) (fun _ _ _ _ _ => (pg_name (i := 1) sc__law_cyclic.nd rfl (by first | exact Or.inl rfl | exact Or.inr rfl))) (fun _ _ _ _ _ => pts_nil) (fun _ _ _ _ _ => (pe_callTy (c_tupZ K) (by rfl) T.n_tuple (by decide +kernel) (pa_cons (pe_lc (own := [("y", 2)]) rfl sc__law_cyclic.nd (pi_range1 (by rfl) T.n_range (pa_cons (pv 0) pa_nil)) (blkOk_by (by kernel_rfl)) (fun _ _ _ _ _ => (pg_name (i := 2) sc__law_cyclic.nd rfl (by first | exact Or.inl rfl | exact Or.inr rfl))) (fun _ _ _ _ _ => pts_nil) (fun _ _ _ _ _ => (pe_op op_mod (pe_callTy call_int1 (by rfl) T.n_int (by decide +kernel) (pa_cons (pe_op op_add (pv 1) (pv 2)) pa_nil)) (pv 0)))) pa_nil)))))), ?_⟩
    walk_at "rd"
    refine lc_rng (n := n) (fun i v H => ∃ b, v = .ref b ∧ SqZ H b (rowV n (G.cyc n) i)) (by omega) (fun R' h => ?_) (fun i => mut_rowZ) (fun i H1 Q' hi s1 k1 => ?_) (fun D L H1 hD s1 hL len r => ?_)
    · walk_at "rd"
      exact h
    · walk_at "rd"
      refine lc_rngV (n := n) (fun y => .int ((G.cyc n i y : Nat) : Int)) (by omega) (fun R' h => ?_) (fun y H2 Q2 hy s2 k2 => ?_) (fun D H2 hD s2 hL => ?_)
      · walk_at "rd"
        exact h
      · walk_at "rd"
        have e : ((i : Int) + (y : Int)) % (n : Int) = ((G.cyc n i y : Nat) : Int) := by unfold G.cyc; exact (Int.natCast_emod _ _).symm
        rw [e]
        exact k2 _ (Same.refl _)
      · walk_at "rd"
        intro q ob hq ho hc
        exact k1 _ _ (s2.trans (same_new hq)) ⟨q, rfl, ob, upd_same, ho, hc⟩
    · walk_at "rd"
      exact k H1 D hD s1 ⟨L, hL, len, r⟩

theorem k__law_both (T : Txt mg) (a : At K mg "_law_both" s__law_both ["one", "other"]) : Keep P w K mg base 1 "_law_both" ["one", "other"] (spBoth K) := by
  refine Keep.of a sc__law_both (fun vs H Q E h => ?_) (fun f cdv A outer s H vs Q E hr h => ?_)
  · obtain ⟨a, b, n, k, m1, m2, rfl, _⟩ := h
    rfl
  · obtain ⟨a, b, n, k, m1, m2, rfl, hnk, n0, k0, ta, tb, kk⟩ := h
    have kb : k ≤ 60 := Nat.le_trans (Nat.le_mul_of_pos_left k n0) hnk
    have nb : n ≤ 60 := Nat.le_trans (Nat.le_mul_of_pos_right n k0) hnk
    obtain ⟨L1, hL1, r1⟩ := id ta
    obtain ⟨L2, hL2, r2⟩ := id tb
    refine ⟨_, (pss_cons (ps_set (i := 2) sc__law_both.nd rfl (by first | exact Or.inl rfl | exact Or.inr rfl) (pe_callB (c_len K) (by rfl) T.n_len (by decide +kernel) (pa_cons (pv 1) pa_nil)))
    (pss_cons (ps_set (i := 3) sc__law_both.nd rfl (by first | exact Or.inl rfl | exact Or.inr rfl) (pe_lst pa_nil))
    (pss_cons (ps_for PassesOwn.never rfl (pi_range1 (by rfl) T.n_range (pa_cons (pe_op op_mul (pe_callB (c_len K) (by rfl) T.n_len (by decide +kernel) (pa_cons (pv 0) pa_nil)) (pv 2)) pa_nil)) (pg_name (i := 4) sc__law_both.nd rfl (by first | exact Or.inl rfl | exact Or.inr rfl)) (pss_cons (ps_set (i := 5) sc__law_both.nd rfl (by first | exact Or.inl rfl | exact Or.inr rfl) (pe_ix (x_list K) (pv 0) (pe_op op_fdivW (pv 4) (pv 2)) (fun _ _ => rfl)))
    (pss_cons (ps_set (i := 6) sc__law_both.nd rfl (by first | exact Or.inl rfl | exact Or.inr rfl) (pe_ix (x_list K) (pv 1) (pe_op op_mod (pe_callTy call_int1 (by rfl) T.n_int (by decide +kernel) (pa_cons (pv 4) pa_nil)) (pv 2)) (fun _ _ => rfl)))
    (pss_one (ps_expr (e_bm K PySem.F.plainAttrs_list PySem.F.slot_list_append PySem.F.type_list_append mt_append (pv 3) (pa_cons (pe_callTy (c_tupZ K) (by rfl) T.n_tuple (by decide +kernel) (pa_cons (pe_lc (own := [("y", 7)]) rfl sc__law_both.nd (pi_range1 (by rfl) T.n_range (pa_cons (pe_op op_mul (pe_callB (c_len K) (by rfl) T.n_len (by decide +kernel) (pa_cons (pv 0) pa_nil)) (pv 2)) pa_nil)) (blkOk_by (N := ["one", "other", "m", "rows", "x", "top", "low", "y"]) (sc := defScope s__law_both) (by decide +kernel)) (fun _ _ _ _ _ => (pg_name (i := 7) sc__law_both.nd rfl (by first | exact Or.inl rfl | exact Or.inr rfl))) (fun _ _ _ _ _ => pts_nil) (fun _ _ _ _ _ => (pe_op op_add (pe_op op_mul (pe_ix (x_tup K) (pv 5) (pe_op op_fdivW (pv 7) (pv 2)) (fun _ _ => rfl)) (pv 2)) (pe_ix (x_tup K) (pv 6) (pe_op op_mod (pe_callTy call_int1 (by rfl) T.n_int (by decide +kernel) (pa_cons (pv 7) pa_nil)) (pv 2)) (fun _ _ => rfl))))) pa_nil)) pa_nil)))))))
    (pss_one (ps_ret (pv 3)))))), ?_⟩
    walk_at "rd"
    have e2 : L2.length = k := r2.1
    have e1 : L1.length = n := r1.1
    intro p hp
    walk_at "rd"
    have c1 : (n : Int) * (k : Int) = ((n * k : Nat) : Int) := by rw [Int.natCast_mul]
    refine f_rng (n := n * k) (fun i σ' H' => (∃ v4 v5 v6 : Option V, σ' = [some (.ref a), some (.ref b), some (.int k), some (.ref p), v4, v5, v6, none]) ∧ Grow (fun x v H => ∃ q, v = .ref q ∧ SqZ H q (rowV (n * k) (G.prd k m1 m2) x)) H p i H') (by omega) (fun R' h => ?_)
      ⟨⟨none, none, none, by rw [← e2]; rfl⟩, Grow.start hp⟩ ?_ ?_
    · walk_at "rd"
      rw [e1, e2, c1]
      exact h
    · rintro i σ' H' hi ⟨⟨v4, v5, v6, rfl⟩, g⟩ N B R hN hB hR
      have h1 : H' a = some (.lst L1) := g.same _ _ hL1
      have h2 : H' b = some (.lst L2) := g.same _ _ hL2
      obtain ⟨L, hL, len, _⟩ := id g.lst
      have dv : i / k < n := Nat.div_lt_of_lt_mul (by rw [Nat.mul_comm]; exact hi)
      have md : ∀ x, x % k < k := fun x => Nat.mod_lt _ k0
      have c2 : (i : Int) / (k : Int) = ((i / k : Nat) : Int) := (Int.natCast_ediv _ _).symm
      have c3 : (i : Int) % (k : Int) = ((i % k : Nat) : Int) := (Int.natCast_emod _ _).symm
      obtain ⟨q1, g1, s1⟩ := r1.get dv
      obtain ⟨q2, g2, s2⟩ := r2.get (md i)
      have s1' := g.same.sqT s1
      have s2' := g.same.sqT s2
      walk_at "rd"
      rw [c2]
      refine Wk.r_ixL (by walk_at "sq") (atI_nat g1) ?_
      walk_at "rd"
      rw [c3]
      refine Wk.r_ixL (by walk_at "sq") (atI_nat g2) ?_
      walk_at "rd"
      refine lc_rngV (n := n * k) (fun y => .int ((G.prd k m1 m2 i y : Nat) : Int)) (by omega) (fun R' h => ?_) (fun y H2 Q2 hy t2 k2 => ?_) (fun Dl H2 hD t2 hDL => ?_)
      · walk_at "rd"
        rw [e1, c1]
        exact h
      · have s1'' := t2.sqT s1'
        have s2'' := t2.sqT s2'
        have dy : y / k < n := Nat.div_lt_of_lt_mul (by rw [Nat.mul_comm]; exact hy)
        have c4 : (y : Int) / (k : Int) = ((y / k : Nat) : Int) := (Int.natCast_ediv _ _).symm
        have c5 : (y : Int) % (k : Int) = ((y % k : Nat) : Int) := (Int.natCast_emod _ _).symm
        walk_at "rd"
        rw [c4]
        refine Wk.r_ixT (by walk_at "sq") (atI_nat (rowV_get dy)) ?_
        walk_at "rd"
        rw [c5]
        refine Wk.r_ixT (by walk_at "sq") (atI_nat (rowV_get (md y))) ?_
        walk_at "rd"
        have e : ((m1 (i / k) (y / k) : Nat) : Int) * (k : Int) + ((m2 (i % k) (y % k) : Nat) : Int) = ((G.prd k m1 m2 i y : Nat) : Int) := by unfold G.prd; rw [Int.natCast_add, Int.natCast_mul]
        rw [e]
        exact k2 _ (Same.refl _)
      · walk_at "rd"
        intro q ob hq ho hc
        have hL2 := t2 _ _ hL
        have t3 := t2.trans (same_new (o := .frz ob (.tup ((List.range (n * k)).map fun y => V.int ((G.prd k m1 m2 i y : Nat) : Int)))) hq)
        walk_at "rd"
        refine Wk.r_append (by walk_at "hp") (szlt (by omega)) ?_
        exact hN _ _ ⟨⟨_, _, _, rfl⟩, (g.mono (fun _ => mut_rowZ) t3).snoc (fun _ => mut_rowZ) (t3 _ _ hL) ⟨q, rfl, ob, upd_same, ho, hc⟩⟩
    · rintro σ' H' ⟨⟨v4, v5, v6, rfl⟩, g⟩
      walk_at "rd"
      obtain ⟨L, hL, len, r⟩ := g.lst
      exact kk _ p hp g.same ⟨L, hL, len, r⟩

theorem k__law_dihedral (T : Txt mg) (a : At K mg "_law_dihedral" s__law_dihedral ["n"]) : Keep P w K mg base 1 "_law_dihedral" ["n"] (spDih K) := by
  refine Keep.of a sc__law_dihedral (fun vs H Q E h => ?_) (fun f cdv A outer s H vs Q E hr h => ?_)
  · obtain ⟨n, rfl, _⟩ := h
    rfl
  · obtain ⟨n, rfl, hn, n0, kk⟩ := h
    refine ⟨_, (pss_cons (ps_set (i := 1) sc__law_dihedral.nd rfl (by first | exact Or.inl rfl | exact Or.inr rfl) (pe_lst pa_nil))
    (pss_cons (ps_for PassesOwn.never rfl (pi_range1 (by rfl) T.n_range (pa_cons (pe_op op_mul pe_int (pv 0)) pa_nil)) (pg_name (i := 2) sc__law_dihedral.nd rfl (by first | exact Or.inl rfl | exact Or.inr rfl)) (pss_cons (ps_set (i := 3) sc__law_dihedral.nd rfl (by first | exact Or.inl rfl | exact Or.inr rfl) (pe_lst pa_nil))
    (pss_cons (ps_for PassesOwn.never rfl (pi_range1 (by rfl) T.n_range (pa_cons (pe_op op_mul pe_int (pv 0)) pa_nil)) (pg_name (i := 4) sc__law_dihedral.nd rfl (by first | exact Or.inl rfl | exact Or.inr rfl)) (pss_cons (ps_asg (pe_tup (pa_cons (pe_op op_mod (pe_callTy call_int1 (by rfl) T.n_int (by decide +kernel) (pa_cons (pv 2) pa_nil)) (pv 0)) (pa_cons (pe_op op_fdivW (pv 2) (pv 0)) (pa_cons (pe_op op_mod (pe_callTy call_int1 (by rfl) T.n_int (by decide +kernel) (pa_cons (pv 4) pa_nil)) (pv 0)) (pa_cons (pe_op op_fdivW (pv 4) (pv 0)) pa_nil))))) (pg_tup rfl (pgs_cons (pg_name (i := 5) sc__law_dihedral.nd rfl (by first | exact Or.inl rfl | exact Or.inr rfl)) (pgs_cons (pg_name (i := 6) sc__law_dihedral.nd rfl (by first | exact Or.inl rfl | exact Or.inr rfl)) (pgs_cons (pg_name (i := 7) sc__law_dihedral.nd rfl (by first | exact Or.inl rfl | exact Or.inr rfl)) (pgs_cons (pg_name (i := 8) sc__law_dihedral.nd rfl (by first | exact Or.inl rfl | exact Or.inr rfl)) pgs_nil))))))
    (pss_one (ps_if (pt_cmpR op_eq (pv 6) pe_int (nomark _)) (pss_one (ps_expr (e_bm K PySem.F.plainAttrs_list PySem.F.slot_list_append PySem.F.type_list_append mt_append (pv 3) (pa_cons (pe_op op_add (pe_op op_mod (pe_callTy call_int1 (by rfl) T.n_int (by decide +kernel) (pa_cons (pe_op op_add (pv 5) (pv 7)) pa_nil)) (pv 0)) (pe_op op_mul (pv 0) (pv 8))) pa_nil)))) (pss_one (ps_expr (e_bm K PySem.F.plainAttrs_list PySem.F.slot_list_append PySem.F.type_list_append mt_append (pv 3) (pa_cons (pe_op op_add (pe_op op_mod (pe_callTy call_int1 (by rfl) T.n_int (by decide +kernel) (pa_cons (pe_op op_sub (pv 5) (pv 7)) pa_nil)) (pv 0)) (pe_op op_mul (pv 0) (pe_op op_sub pe_int (pv 8)))) pa_nil))))))))
    (pss_one (ps_expr (e_bm K PySem.F.plainAttrs_list PySem.F.slot_list_append PySem.F.type_list_append mt_append (pv 1) (pa_cons (pe_callTy (c_tupZ K) (by rfl) T.n_tuple (by decide +kernel) (pa_cons (pv 3) pa_nil)) pa_nil)))))))
    (pss_one (ps_ret (pv 1))))), ?_⟩
    walk_at "rd"
    intro p hp
    walk_at "rd"
    have c1 : (2 : Int) * (n : Int) = ((2 * n : Nat) : Int) := by rw [Int.natCast_mul]; rfl
    refine f_rng (n := 2 * n) (fun i σ' H' => (∃ v2 v3 v4 v5 v6 v7 v8 : Option V, σ' = [some (.int n), some (.ref p), v2, v3, v4, v5, v6, v7, v8]) ∧ Grow (fun x v H => ∃ q, v = .ref q ∧ SqZ H q (rowV (2 * n) (G.dih n) x)) H p i H') (by omega) (fun R' h => ?_)
      ⟨⟨_, _, _, _, _, _, _, rfl⟩, Grow.start hp⟩ ?_ ?_
    · walk_at "rd"
      rw [c1]
      exact h
    · rintro i σ' H' hi ⟨⟨v2, v3, v4, v5, v6, v7, v8, rfl⟩, g⟩ N B R hN hB hR
      obtain ⟨L, hL, len, _⟩ := id g.lst
      walk_at "rd"
      intro q hq
      walk_at "rd"
      refine f_rng (n := 2 * n) (fun j σ'' H'' => (∃ v4 v5 v6 v7 v8 : Option V, σ'' = [some (.int n), some (.ref p), some (.int i), some (.ref q), v4, v5, v6, v7, v8]) ∧ Grow (fun y v H => v = .int ((G.dih n i y : Nat) : Int)) H' q j H'') (by omega) (fun R' h => ?_)
        ⟨⟨_, _, _, _, _, rfl⟩, Grow.start hq⟩ ?_ ?_
      · walk_at "rd"
        rw [c1]
        exact h
      · rintro j σ'' H'' hj ⟨⟨v4, v5, v6, v7, v8, rfl⟩, g2⟩ N2 B2 R2 hN2 hB2 hR2
        have md : ∀ x, x % n < n := fun x => Nat.mod_lt _ n0
        obtain ⟨L2, hL2, len2, r2⟩ := id g2.lst
        walk_at "rd"
        intro t ht
        have npt : q ≠ t := ne_of_none hL2 ht
        have s3 : Same H'' (upd H'' t (.tup [.int ((i : Int) % n), .int ((i : Int) / n), .int ((j : Int) % n), .int ((j : Int) / n)])) := same_new ht
        have g3 := g2.mono (fun _ v H1 H2 D L _ _ h => h) s3
        have hL3 := s3 _ _ hL2
        walk_at "rd"
        have dv : j / n < 2 := Nat.div_lt_of_lt_mul (by rw [Nat.mul_comm]; exact hj)
        have fin : ∀ v, v = V.int ((G.dih n i j : Nat) : Int) → N2 [some (.int n), some (.ref p), some (.int i), some (.ref q), some (.int j), some (.int ((i : Int) % n)), some (.int ((i : Int) / n)), some (.int ((j : Int) % n)), some (.int ((j : Int) / n))] (upd (upd H'' t (.tup [.int ((i : Int) % n), .int ((i : Int) / n), .int ((j : Int) % n), .int ((j : Int) / n)])) q (.lst (L2 ++ [v]))) := fun v e =>
          hN2 _ _ ⟨⟨_, _, _, _, _, rfl⟩, g3.snoc (fun _ v H1 H2 D L _ _ h => h) hL3 e⟩
        refine r_ifI (fun c => ?_) (fun c => ?_)
        · walk_at "rd"
          refine Wk.r_append (by walk_at "hp") (szlt (by omega)) (fin _ ?_)
          rw [cdivN] at c
          have c' : i / n = 0 := by omega
          unfold G.dih
          rw [if_pos c', cmodN, cmodN, cdivN, caddN, cmodN, cmulN, caddN]
        · walk_at "rd"
          refine Wk.r_append (by walk_at "hp") (szlt (by omega)) (fin _ ?_)
          rw [cdivN] at c
          have c' : ¬ i / n = 0 := by omega
          unfold G.dih
          rw [if_neg c', cmodN, cmodN, cdivN]
          have e1 : ((i % n : Nat) : Int) - ((j % n : Nat) : Int) = ((i % n + (n - j % n) : Nat) : Int) - (n : Int) := by have := md j; omega
          have e2 : (1 : Int) - ((j / n : Nat) : Int) = ((1 - j / n : Nat) : Int) := by omega
          rw [e1, e2, Int.sub_emod_right, cmodN, cmulN, caddN]
      · rintro σ'' H'' ⟨⟨v4, v5, v6, v7, v8, rfl⟩, g2⟩
        obtain ⟨L2, hL2, len2, r2⟩ := g2.lst
        have hLp := g2.same _ _ hL
        walk_at "rd"
        intro t ob ht ho hc
        walk_at "rd"
        have e : L2 = rowV (2 * n) (G.dih n) i := by
          apply List.ext_getElem?
          intro y
          by_cases c : y < 2 * n
          · rw [rowV_get c, List.getElem?_eq_getElem (by omega), r2 y _ (List.getElem?_eq_getElem (by omega))]
          · rw [List.getElem?_eq_none (by omega), List.getElem?_eq_none (by rw [rowV_len]; omega)]
        have t3 := g2.same.trans (same_new (o := .frz ob (.tup L2)) ht)
        refine Wk.r_append (by walk_at "hp") (szlt (by omega)) ?_
        exact hN _ _ ⟨⟨_, _, _, _, _, _, _, rfl⟩, (g.mono (fun _ => mut_rowZ) t3).snoc (fun _ => mut_rowZ) (t3 _ _ hL) ⟨t, rfl, by rw [← e]; exact ⟨ob, upd_same, ho, hc⟩⟩⟩
    · rintro σ' H' ⟨⟨v2, v3, v4, v5, v6, v7, v8, rfl⟩, g⟩
      walk_at "rd"
      obtain ⟨L, hL, len, r⟩ := g.lst
      exact kk _ p hp g.same ⟨L, hL, len, r⟩
end
end Wk
end
section
set_option Elab.async false
set_option linter.all false
set_option maxRecDepth 100000
namespace Wk
open PySem PySem.Spec PyProof.Rows L2
local macro_rules | `(tactic| walk_at "hp") => `(tactic| first | assumption | exact upd_same | exact (upd_ne (ne_of_none (by assumption) (by assumption))).trans (by assumption) | (rw [upd_ne (by first | assumption | exact Ne.symm (by assumption))]; walk_at "hp"))
local macro_rules | `(tactic| walk_at "sq") => `(tactic| first | assumption | exact SqL.of (by assumption) | exact SqT.of (by assumption) | exact SqL.of (by walk_at "hp") | exact SqT.of (by walk_at "hp") | (refine Same.seq ?_ ?_ <;> assumption))
local macro_rules | `(tactic| walk_at "cmul") => `(tactic| first | exact .inr ⟨by decide, by decide⟩ | exact .inl ⟨by decide, by decide⟩ | exact .inr ⟨by omega, by omega⟩ | exact .inl ⟨by omega, by omega⟩)
local macro_rules | `(tactic| walk_at "cdiv") => `(tactic| first | exact ⟨by decide, by decide⟩ | exact wide_div (b := 64) (by omega) (by omega) (by decide) (by decide) | exact wide_div (b := 128) (by omega) (by omega) (by decide) (by decide))
local macro_rules | `(tactic| walk_at "rd1") => `(tactic| first
  | ((with_reducible show tVar _ _ _ _); refine Wk.r_var rfl ?_)
  | (with_reducible first
    | refine Wk.r_c ?_ | refine Wk.r_op ?_ | refine Wk.r_cons ?_ | refine Wk.r_nil ?_
    | refine Wk.r_seq ?_ | refine Wk.r_next ?_ | refine Wk.r_set ?_ | refine Wk.r_asgS ?_ | refine Wk.r_ret ?_ | refine Wk.r_drop ?_ | refine Wk.r_if ?_
    | refine Wk.r_asgG ?_ | refine Wk.r_gName ?_ | refine Wk.r_gCons ?_ | refine Wk.r_gNil ?_ | refine Wk.r_par ?_ | refine Wk.r_par3 ?_ | refine Wk.r_lstRg1 ?_ | refine Wk.r_tupRg1 ?_ | refine ⟨_, _, _, rfl, ?_⟩ | refine Wk.r_un ?_ | refine Wk.r_I0 ?_ | refine Wk.r_U ?_
    | refine Wk.r_test ?_ | refine Wk.r_B ?_ | refine Wk.r_k ?_ | refine Wk.r_not ?_ | refine Wk.r_and ?_ | refine Wk.r_or ?_ | refine Wk.r_andV ?_ | refine Wk.r_orV ?_ | refine Wk.r_notV ?_
    | refine Wk.r_CB ?_ | refine Wk.r_chain ?_ | refine Wk.r_fld ?_ | refine Wk.r_sfld ?_ | refine Wk.r_lst ?_ | refine Wk.r_tup ?_ | refine Wk.r_call ?_ | refine Wk.r_BM ?_ | refine Wk.r_BM0 ?_ | refine Wk.r_T ?_ | refine Wk.r_nT ?_ | refine Wk.r_nF ?_ | refine Wk.r_F ?_
    | refine Or.inl ⟨_, rfl, ?_⟩ | refine Or.inr ⟨_, rfl, ?_⟩ | refine ⟨_, rfl, ?_⟩ | refine ⟨_, _, rfl, ?_⟩)
  | ((with_reducible refine Wk.r_eq ?c0 ?_); (case c0 => rfl)) | ((with_reducible refine Wk.r_ne ?c0 ?_); (case c0 => rfl))
  | ((with_reducible refine Wk.r_pow ?c0 ?_); (case c0 => exact ⟨by decide, by decide, by decide⟩))
  | ((with_reducible refine Wk.r_mul ?c0 ?_); (case c0 => walk_at "cmul")) | ((with_reducible refine Wk.r_mod ?c0 ?_); (case c0 => first | decide | omega)) | ((with_reducible refine Wk.r_div ?c0 ?_); (case c0 => walk_at "cdiv"))
  | ((with_reducible refine Wk.r_new ?c0 ?_); (case c0 => (simp only [List.length_cons, List.length_nil]; omega)))
  | ((with_reducible show gTup _ _ _ _ _ _ _); refine Wk.r_gTup (by walk_at "sq") (by rfl) ?_)
  | (refine Wk.r_tyL (by walk_at "hp") ?_)
  | ((with_reducible show rSetL _ _ _ _ _); refine Wk.r_setL (by walk_at "hp") (by rfl) ?_)
  | ((with_reducible show rIxL _ _ _ _ _); refine Wk.r_ixL (by walk_at "sq") (by rfl) ?_) | ((with_reducible show rIxT _ _ _ _ _); refine Wk.r_ixT (by walk_at "sq") (by rfl) ?_)
  | ((with_reducible show rLenOf _ _ _ _); first | refine Wk.n_lenL (by walk_at "sq") ?_ | refine Wk.n_lenT (by walk_at "sq") ?_)
  | ((with_reducible show rListOf _ _ _ _); first | refine Wk.n_listL (by walk_at "sq") ?_ | refine Wk.n_listT (by walk_at "sq") ?_)
  | ((with_reducible show rTupZ _ _ _ _); first | refine Wk.z_tupL (by walk_at "sq") ?_ | refine Wk.z_tupT (by walk_at "sq") ?_)
  | ((with_reducible show rTupOf _ _ _ _); first | refine Wk.n_tupL (by walk_at "sq") ?_ | refine Wk.n_tupT (by walk_at "sq") ?_))
local macro_rules | `(tactic| walk_at "rd") => `(tactic| repeat (walk_at "rd1"))

section
variable {P : Program} {w : World} {K : PySem.W.Frag} {mg : Str → Option Value} {base : Heap}
theorem k__law_quaternions (T : Txt mg) (a : At K mg "_law_quaternions" s__law_quaternions []) : Keep P w K mg base 1 "_law_quaternions" [] (spQua K) := by
  refine Keep.of a sc__law_quaternions (fun vs H Q E h => ?_) (fun f cdv A outer s H vs Q E hr h => ?_)
  · obtain ⟨rfl, _⟩ := h
    rfl
  · obtain ⟨rfl, kk⟩ := h
    refine ⟨_, (pss_cons (ps_set (i := 0) sc__law_quaternions.nd rfl (by first | exact Or.inl rfl | exact Or.inr rfl) (pe_lst pa_nil))
    (pss_cons (ps_for PassesOwn.never rfl (pi_range1 (by rfl) T.n_range (pa_cons pe_int pa_nil)) (pg_name (i := 1) sc__law_quaternions.nd rfl (by first | exact Or.inl rfl | exact Or.inr rfl)) (pss_cons (ps_set (i := 2) sc__law_quaternions.nd rfl (by first | exact Or.inl rfl | exact Or.inr rfl) (pe_lst pa_nil))
    (pss_cons (ps_for PassesOwn.never rfl (pi_range1 (by rfl) T.n_range (pa_cons pe_int pa_nil)) (pg_name (i := 3) sc__law_quaternions.nd rfl (by first | exact Or.inl rfl | exact Or.inr rfl)) (pss_cons (ps_par3 (i := 4) (j := 5) (l := 6) (by rfl) sc__law_quaternions.nd rfl rfl rfl (by decide) (by decide) (by decide) rfl rfl rfl (pa_cons (pe_op op_fdivW (pv 1) pe_int) (pa_cons (pe_op op_fdivW (pv 3) pe_int) (pa_cons (pe_op op_mod (pe_callTy call_int1 (by rfl) T.n_int (by decide +kernel) (pa_cons (pe_op op_add (pv 1) (pv 3)) pa_nil)) pe_int) pa_nil))) (by rfl))
    (pss_cons (ps_if (PW.pt (pw_and (pt_cmpR op_gt (pv 4) pe_int (nomark _)) (pw_and1 (pt_cmpR op_eq (pv 4) (pv 5) (nomark _))))) (pss_one (ps_par3 (i := 4) (j := 5) (l := 6) (by rfl) sc__law_quaternions.nd rfl rfl rfl (by decide) (by decide) (by decide) rfl rfl rfl (pa_cons pe_int (pa_cons pe_int (pa_cons (pe_op op_sub pe_int (pv 6)) pa_nil))) (by rfl))) (pss_one (ps_if (PW.pt (pw_and (pt_cmpR op_gt (pv 4) pe_int (nomark _)) (pw_and1 (pt_cmpR op_gt (pv 5) pe_int (nomark _))))) (pss_cons (ps_set (i := 6) sc__law_quaternions.nd rfl (by first | exact Or.inl rfl | exact Or.inr rfl) (pe_op op_mod (pe_callTy call_int1 (by rfl) T.n_int (by decide +kernel) (pa_cons (pe_op op_add (pv 6) (pe_callTy call_int1 (by rfl) T.n_int (by decide +kernel) (pa_cons (pe_cmpR (c_notInDT K (u65 hr)) (pe_tup (pa_cons (pv 4) (pa_cons (pv 5) pa_nil))) (pe_tup (pa_cons (pe_tup (pa_cons pe_int (pa_cons pe_int pa_nil))) (pa_cons (pe_tup (pa_cons pe_int (pa_cons pe_int pa_nil))) (pa_cons (pe_tup (pa_cons pe_int (pa_cons pe_int pa_nil))) pa_nil)))) rfl) pa_nil))) pa_nil)) pe_int))
    (pss_one (ps_par (i := 4) (j := 5) (by rfl) sc__law_quaternions.nd rfl rfl (by decide) rfl rfl (pa_cons (pe_op op_sub (pe_op op_sub pe_int (pv 4)) (pv 5)) (pa_cons pe_int pa_nil)) (by rfl)))) pss_nil)))
    (pss_one (ps_expr (e_bm K PySem.F.plainAttrs_list PySem.F.slot_list_append PySem.F.type_list_append mt_append (pv 2) (pa_cons (pe_op op_add (pe_op op_mul pe_int (pe_op op_add (pv 4) (pv 5))) (pv 6)) pa_nil)))))))
    (pss_one (ps_expr (e_bm K PySem.F.plainAttrs_list PySem.F.slot_list_append PySem.F.type_list_append mt_append (pv 0) (pa_cons (pe_callTy (c_tupZ K) (by rfl) T.n_tuple (by decide +kernel) (pa_cons (pv 2) pa_nil)) pa_nil)))))))
    (pss_one (ps_ret (pv 0))))), ?_⟩
    walk_at "rd"
    intro p hp
    walk_at "rd"
    refine f_rng (n := 8) (fun i σ' H' => (∃ v1 v2 v3 v4 v5 v6 : Option V, σ' = [some (.ref p), v1, v2, v3, v4, v5, v6]) ∧ Grow (fun x v H => ∃ q, v = .ref q ∧ SqZ H q (rowV 8 G.qua x)) H p i H') (by omega) (fun R' h => ?_)
      ⟨⟨_, _, _, _, _, _, rfl⟩, Grow.start hp⟩ ?_ ?_
    · walk_at "rd"
      exact h
    · rintro i σ' H' hi ⟨⟨v1, v2, v3, v4, v5, v6, rfl⟩, g⟩ N B R hN hB hR
      obtain ⟨L, hL, len, _⟩ := id g.lst
      walk_at "rd"
      intro q hq
      walk_at "rd"
      refine f_rng (n := 8) (fun j σ'' H'' => (∃ v3 v4 v5 v6 : Option V, σ'' = [some (.ref p), some (.int i), some (.ref q), v3, v4, v5, v6]) ∧ Grow (fun y v H => v = .int ((G.qua i y : Nat) : Int)) H' q j H'') (by omega) (fun R' h => ?_)
        ⟨⟨_, _, _, _, rfl⟩, Grow.start hq⟩ ?_ ?_
      · walk_at "rd"
        exact h
      · rintro j σ'' H'' hj ⟨⟨v3, v4, v5, v6, rfl⟩, g2⟩ N2 B2 R2 hN2 hB2 hR2
        obtain ⟨L2, hL2, len2, r2⟩ := id g2.lst
        walk_at "rd"
        have fin : ∀ (x4 x5 x6 : V) (H3 : Hp) (v : Int), Same H'' H3 → v = ((G.qua i j : Nat) : Int) → N2 [some (.ref p), some (.int i), some (.ref q), some (.int j), some x4, some x5, some x6] (upd H3 q (.lst (L2 ++ [.int v]))) := fun x4 x5 x6 H3 v s e =>
          hN2 _ _ ⟨⟨_, _, _, _, rfl⟩, (g2.mono (fun _ => mut_val) s).snoc (fun _ => mut_val) (s _ _ hL2) (by rw [e])⟩
        have qd : ∀ i : Fin 8, ∀ j : Fin 8, ((0 : Int) < ((i : Nat) : Int) / 2 → ((i : Nat) : Int) / 2 = ((j : Nat) : Int) / 2 → 2 * ((0 : Int) + 0) + (1 - (((i : Nat) : Int) + ((j : Nat) : Int)) % 2) = ((G.qua i j : Nat) : Int)) ∧
            (((0 : Int) < ((i : Nat) : Int) / 2 → ¬ ((i : Nat) : Int) / 2 = ((j : Nat) : Int) / 2) → 0 < ((i : Nat) : Int) / 2 → 0 < ((j : Nat) : Int) / 2 → 2 * ((6 - ((i : Nat) : Int) / 2 - ((j : Nat) : Int) / 2) + 0) + ((((i : Nat) : Int) + ((j : Nat) : Int)) % 2 + (if (!([PyData.tuple [.int 1, .int 2], .tuple [.int 2, .int 3], .tuple [.int 3, .int 1]].any fun z => PyData.eqv z (.tuple [.int (((i : Nat) : Int) / 2), .int (((j : Nat) : Int) / 2)]))) = true then 1 else 0)) % 2 = ((G.qua i j : Nat) : Int)) ∧
            (((0 : Int) < ((i : Nat) : Int) / 2 → ¬ ((i : Nat) : Int) / 2 = ((j : Nat) : Int) / 2) → ¬ (0 < ((i : Nat) : Int) / 2 ∧ 0 < ((j : Nat) : Int) / 2) → 2 * (((i : Nat) : Int) / 2 + ((j : Nat) : Int) / 2) + (((i : Nat) : Int) + ((j : Nat) : Int)) % 2 = ((G.qua i j : Nat) : Int)) := by decide +kernel
        obtain ⟨qa, qb, qc⟩ := qd ⟨i, hi⟩ ⟨j, hj⟩
        refine r_if1 (fun c => ?_) (fun c => ?_)
        · walk_at "rd"
          refine r_ifI (fun c2 => ?_) (fun c2 => ?_)
          · walk_at "rd"
            exact Wk.r_append (by walk_at "hp") (szlt (by omega)) (fin _ _ _ _ _ (Same.refl _) (qa c c2))
          · walk_at "rd"
            refine r_if1 (fun _ => ?_) (fun c3 => absurd c c3)
            walk_at "rd"
            refine r_if1 (fun c3 => ?_) (fun c3 => ?_)
            · walk_at "rd"
              intro p1 h1
              walk_at "rd"
              intro p2 h2
              walk_at "rd"
              intro p3 h3
              walk_at "rd"
              intro p4 h4
              walk_at "rd"
              intro p5 h5
              walk_at "rd"
              have s1 := same_new (o := .tup [.int ((i : Int) / 2), .int ((j : Int) / 2)]) h1
              have s2 := same_new (o := .tup [.int 1, .int 2]) h2
              have s3 := same_new (o := .tup [.int 2, .int 3]) h3
              have s4 := same_new (o := .tup [.int 3, .int 1]) h4
              have s5 := same_new (o := .tup [.ref p2, .ref p3, .ref p4]) h5
              have d1 := (((s2.trans s3).trans s4).trans s5) _ _ (upd_same (H := H'') (a := p1) (o := .tup [.int ((i : Int) / 2), .int ((j : Int) / 2)]))
              have d2 := ((s3.trans s4).trans s5) p2 _ upd_same
              have d3 := (s4.trans s5) p3 _ upd_same
              have d4 := s5 p4 _ upd_same
              have sA := (((s1.trans s2).trans s3).trans s4).trans s5
              refine ⟨_, _, Dp.tup (SqT.of d1) (.cons (.int _) (.cons (.int _) .nil)), Dp.tup (SqT.of upd_same) (.cons (Dp.tup (SqT.of d2) (.cons (.int _) (.cons (.int _) .nil))) (.cons (Dp.tup (SqT.of d3) (.cons (.int _) (.cons (.int _) .nil))) (.cons (Dp.tup (SqT.of d4) (.cons (.int _) (.cons (.int _) .nil))) .nil))), rfl, rfl, ?_⟩
              have hL5 := sA _ _ hL2
              walk_at "rd"
              refine Wk.r_append (sA _ _ hL2) (szlt (by omega)) ?_
              exact fin _ _ _ _ _ sA (qb (fun _ => c2) c c3)
            · walk_at "rd"
              exact Wk.r_append (by walk_at "hp") (szlt (by omega)) (fin _ _ _ _ _ (Same.refl _) (qc (fun _ => c2) (fun z => c3 z.2)))
        · walk_at "rd"
          refine r_if1 (fun c3 => absurd c3 c) (fun _ => ?_)
          walk_at "rd"
          exact Wk.r_append (by walk_at "hp") (szlt (by omega)) (fin _ _ _ _ _ (Same.refl _) (qc (fun z => absurd z c) (fun z => c z.1)))
      · rintro σ'' H'' ⟨⟨v3, v4, v5, v6, rfl⟩, g2⟩
        obtain ⟨L2, hL2, len2, r2⟩ := g2.lst
        have hLp := g2.same _ _ hL
        walk_at "rd"
        intro t ob ht ho hc
        walk_at "rd"
        have e : L2 = rowV 8 G.qua i := list_eq len2 r2
        have t3 := g2.same.trans (same_new (o := .frz ob (.tup L2)) ht)
        refine Wk.r_append (by walk_at "hp") (szlt (by omega)) ?_
        exact hN _ _ ⟨⟨_, _, _, _, _, _, rfl⟩, (g.mono (fun _ => mut_rowZ) t3).snoc (fun _ => mut_rowZ) (t3 _ _ hL) ⟨t, rfl, by rw [← e]; exact ⟨ob, upd_same, ho, hc⟩⟩⟩
    · rintro σ' H' ⟨⟨v1, v2, v3, v4, v5, v6, rfl⟩, g⟩
      walk_at "rd"
      obtain ⟨L, hL, len, r⟩ := g.lst
      exact kk _ p hp g.same ⟨L, hL, len, r⟩

theorem k__law_renamed (T : Txt mg) (a : At K mg "_law_renamed" s__law_renamed ["table", "order"]) : Keep P w K mg base 1 "_law_renamed" ["table", "order"] (spRen K) := by
  refine Keep.of a sc__law_renamed (fun vs H Q E h => ?_) (fun f cdv A outer s H vs Q E hr h => ?_)
  · obtain ⟨a, b, n, m, o, p, rfl, _⟩ := h
    rfl
  · obtain ⟨a, b, n, m, o, p, rfl, hn, grp, ta, hb, hp, kk⟩ := h
    obtain ⟨L, hL, r⟩ := id ta
    have eL : L.length = n := r.1
    refine ⟨_, (pss_cons (ps_set (i := 3) sc__law_renamed.nd rfl (by first | exact Or.inl rfl | exact Or.inr rfl) (pe_lc (own := [("x", 2)]) rfl sc__law_renamed.nd (pi_range1 (by rfl) T.n_range (pa_cons (pe_callB (c_len K) (by rfl) T.n_len (by decide +kernel) (pa_cons (pv 0) pa_nil)) pa_nil)) (blkOk_by (N := ["table", "order", "x", "places", "y"]) (sc := defScope s__law_renamed) (by decide +kernel)) (fun _ _ _ _ _ => (pg_name (i := 2) sc__law_renamed.nd rfl (by first | exact Or.inl rfl | exact Or.inr rfl))) (fun _ _ _ _ _ => pts_nil) (fun _ _ _ _ _ => (e_bm K PySem.F.plainAttrs_list PySem.F.slot_list_index PySem.F.type_list_index (m_index K) (pv 1) (pa_cons (pv 2) pa_nil)))))
    (pss_one (ps_ret (pe_lc (own := [("x", 2)]) rfl sc__law_renamed.nd (i_list K (pv 1)) (blkOk_by (N := ["table", "order", "x", "places", "y"]) (sc := defScope s__law_renamed) (by decide +kernel)) (fun _ _ _ _ _ => (pg_name (i := 2) sc__law_renamed.nd rfl (by first | exact Or.inl rfl | exact Or.inr rfl))) (fun _ _ _ _ _ => pts_nil) (fun _ _ _ _ _ => (pe_callTy (c_tupZ K) (by rfl) T.n_tuple (by decide +kernel) (pa_cons (pe_lc (own := [("y", 4)]) rfl sc__law_renamed.nd (i_list K (pv 1)) (blkOk_by (by kernel_rfl)) (fun _ _ _ _ _ => (pg_name (i := 4) sc__law_renamed.nd rfl (by first | exact Or.inl rfl | exact Or.inr rfl))) (fun _ _ _ _ _ => pts_nil) (fun _ _ _ _ _ => (pe_ix (x_list K) (pv 3) (pe_ix (x_tup K) (pe_ix (x_list K) (pv 0) (pv 2) (fun _ _ => rfl)) (pv 4) (fun _ _ => rfl)) (fun _ _ => rfl)))) pa_nil))))))), ?_⟩
    walk_at "rd"
    refine lc_rngV (n := n) (fun x => .int ((p x : Nat) : Int)) (by omega) (fun R' h => ?_) (fun x H2 Q2 hx s2 k2 => ?_) (fun D H2 hD s2 hDL => ?_)
    · walk_at "rd"
      rw [eL]
      exact h
    · have hb2 := s2 _ _ hb
      walk_at "rd"
      refine ⟨b, natsV n o, .int x, p x, .int ((o (p x) : Nat) : Int), rfl, rfl, SqL.of hb2, rfl, natsV_flat, natsV_get (hp.pl x hx), ?_, fun k' z hk hz => ?_, k2 _ (Same.refl _)⟩
      · rw [hp.op x hx]; simp [eqV]
      · rw [natsV_get (by have := hp.pl x hx; omega)] at hz
        have ez := Option.some.inj hz
        subst ez
        have hkn : k' < n := by have := hp.pl x hx; omega
        have ne : o k' ≠ x := fun e => by have := hp.po k' hkn; rw [e] at this; omega
        simp only [eqV]
        exact decide_eq_false (by omega)
    · have hb2 := s2 _ _ hb
      walk_at "rd"
      have hbl : (natsV n o).length = n := natsV_len
      refine lc_lst (fun i v H => ∃ q, v = .ref q ∧ SqZ H q (rowV n (G.ren m o p) i)) (SqL.of hb2) (by omega) (fun R' h => ?_) (fun _ => mut_rowZ) (fun i x H3 Q3 hx s3 k3 => ?_) (fun D2 L2 H3 hD2 s3 hL2 len2 r2 => ?_)
      · walk_at "rd"
        exact h
      · have hi : i < n := by have := (List.getElem?_eq_some_iff.mp hx).1; omega
        rw [natsV_get hi] at hx
        have ex := Option.some.inj hx
        subst ex
        have hb3 := s3 _ _ hb2
        walk_at "rd"
        refine lc_lst (fun j v H => v = .int ((G.ren m o p i j : Nat) : Int)) (SqL.of hb3) (by omega) (fun R' h => ?_) (fun _ => mut_val) (fun j y H4 Q4 hy s4 k4 => ?_) (fun D3 L3 H4 hD3 s4 hL3 len3 r3 => ?_)
        · walk_at "rd"
          exact h
        · have hj : j < n := by have := (List.getElem?_eq_some_iff.mp hy).1; omega
          rw [natsV_get hj] at hy
          have ey := Option.some.inj hy
          subst ey
          have sa := (s2.trans s3).trans s4
          have hL4 := sa _ _ hL
          have hD4 := (s3.trans s4) _ _ hDL
          obtain ⟨q, gq, sq⟩ := r.get (hp.ol i hi)
          have sq4 := sa.sqT sq
          walk_at "rd"
          refine Wk.r_ixL (by walk_at "sq") (atI_nat gq) ?_
          walk_at "rd"
          refine Wk.r_ixT (by walk_at "sq") (atI_nat (rowV_get (hp.ol j hj))) ?_
          walk_at "rd"
          have hm : m (o i) (o j) < n := grp.cl _ _ (hp.ol i hi) (hp.ol j hj)
          refine Wk.r_ixL (by walk_at "sq") (atI_nat (natsV_get (o := p) hm)) ?_
          exact k4 _ _ (Same.refl _) rfl
        · have e3 : L3 = rowV n (G.ren m o p) i := list_eq (by omega) r3
          walk_at "rd"
          intro q ob hq ho hc
          exact k3 _ _ (s4.trans (same_new hq)) ⟨q, rfl, by rw [← e3]; exact ⟨ob, upd_same, ho, hc⟩⟩
      · have s13 := s2.trans s3
        have hD2' : H D2 = none := Same.free s2 hD2
        exact kk H3 D2 hD2' s13 ⟨L2, hL2, by omega, r2⟩
end
end Wk
end
section
set_option Elab.async false
set_option linter.all false
set_option maxRecDepth 100000
namespace Wk
open PySem PySem.Spec PyProof.Rows L2
local macro_rules | `(tactic| walk_at "hp") => `(tactic| first | assumption | exact upd_same | exact (upd_ne (ne_of_none (by assumption) (by assumption))).trans (by assumption) | (rw [upd_ne (by first | assumption | exact Ne.symm (by assumption))]; walk_at "hp"))
local macro_rules | `(tactic| walk_at "sq") => `(tactic| first | assumption | exact SqL.of (by assumption) | exact SqT.of (by assumption) | exact SqL.of (by walk_at "hp") | exact SqT.of (by walk_at "hp") | (refine Same.seq ?_ ?_ <;> assumption))
local macro_rules | `(tactic| walk_at "cmul") => `(tactic| first | exact .inr ⟨by decide, by decide⟩ | exact .inl ⟨by decide, by decide⟩ | exact .inr ⟨by omega, by omega⟩ | exact .inl ⟨by omega, by omega⟩)
local macro_rules | `(tactic| walk_at "cdiv") => `(tactic| first | exact ⟨by decide, by decide⟩ | exact wide_div (b := 64) (by omega) (by omega) (by decide) (by decide) | exact wide_div (b := 128) (by omega) (by omega) (by decide) (by decide))
local macro_rules | `(tactic| walk_at "rd1") => `(tactic| first
  | ((with_reducible show tVar _ _ _ _); refine Wk.r_var rfl ?_)
  | (with_reducible first
    | refine Wk.r_c ?_ | refine Wk.r_op ?_ | refine Wk.r_cons ?_ | refine Wk.r_nil ?_
    | refine Wk.r_seq ?_ | refine Wk.r_next ?_ | refine Wk.r_set ?_ | refine Wk.r_asgS ?_ | refine Wk.r_ret ?_ | refine Wk.r_drop ?_ | refine Wk.r_if ?_
    | refine Wk.r_asgG ?_ | refine Wk.r_gName ?_ | refine Wk.r_gCons ?_ | refine Wk.r_gNil ?_ | refine Wk.r_par ?_ | refine Wk.r_par3 ?_ | refine Wk.r_lstRg1 ?_ | refine Wk.r_tupRg1 ?_ | refine ⟨_, _, _, rfl, ?_⟩ | refine Wk.r_un ?_ | refine Wk.r_I0 ?_ | refine Wk.r_U ?_
    | refine Wk.r_test ?_ | refine Wk.r_B ?_ | refine Wk.r_k ?_ | refine Wk.r_not ?_ | refine Wk.r_and ?_ | refine Wk.r_or ?_ | refine Wk.r_andV ?_ | refine Wk.r_orV ?_ | refine Wk.r_notV ?_
    | refine Wk.r_CB ?_ | refine Wk.r_chain ?_ | refine Wk.r_fld ?_ | refine Wk.r_sfld ?_ | refine Wk.r_lst ?_ | refine Wk.r_tup ?_ | refine Wk.r_call ?_ | refine Wk.r_BM ?_ | refine Wk.r_BM0 ?_ | refine Wk.r_T ?_ | refine Wk.r_nT ?_ | refine Wk.r_nF ?_ | refine Wk.r_F ?_
    | refine Or.inl ⟨_, rfl, ?_⟩ | refine Or.inr ⟨_, rfl, ?_⟩ | refine ⟨_, rfl, ?_⟩ | refine ⟨_, _, rfl, ?_⟩)
  | ((with_reducible refine Wk.r_eq ?c0 ?_); (case c0 => rfl)) | ((with_reducible refine Wk.r_ne ?c0 ?_); (case c0 => rfl))
  | ((with_reducible refine Wk.r_pow ?c0 ?_); (case c0 => exact ⟨by decide, by decide, by decide⟩))
  | ((with_reducible refine Wk.r_mul ?c0 ?_); (case c0 => walk_at "cmul")) | ((with_reducible refine Wk.r_mod ?c0 ?_); (case c0 => first | decide | omega)) | ((with_reducible refine Wk.r_div ?c0 ?_); (case c0 => walk_at "cdiv"))
  | ((with_reducible refine Wk.r_new ?c0 ?_); (case c0 => (simp only [List.length_cons, List.length_nil]; omega)))
  | ((with_reducible show gTup _ _ _ _ _ _ _); refine Wk.r_gTup (by walk_at "sq") (by rfl) ?_)
  | (refine Wk.r_tyL (by walk_at "hp") ?_)
  | ((with_reducible show rSetL _ _ _ _ _); refine Wk.r_setL (by walk_at "hp") (by rfl) ?_)
  | ((with_reducible show rIxL _ _ _ _ _); refine Wk.r_ixL (by walk_at "sq") (by rfl) ?_) | ((with_reducible show rIxT _ _ _ _ _); refine Wk.r_ixT (by walk_at "sq") (by rfl) ?_)
  | ((with_reducible show rLenOf _ _ _ _); first | refine Wk.n_lenL (by walk_at "sq") ?_ | refine Wk.n_lenT (by walk_at "sq") ?_)
  | ((with_reducible show rListOf _ _ _ _); first | refine Wk.n_listL (by walk_at "sq") ?_ | refine Wk.n_listT (by walk_at "sq") ?_)
  | ((with_reducible show rTupZ _ _ _ _); first | refine Wk.z_tupL (by walk_at "sq") ?_ | refine Wk.z_tupT (by walk_at "sq") ?_)
  | ((with_reducible show rTupOf _ _ _ _); first | refine Wk.n_tupL (by walk_at "sq") ?_ | refine Wk.n_tupT (by walk_at "sq") ?_))
local macro_rules | `(tactic| walk_at "rd") => `(tactic| repeat (walk_at "rd1"))

section
variable {P : Program} {w : World} {K : PySem.W.Frag} {mg : Str → Option Value} {base : Heap}
structure Makers (P : Program) (w : World) (K : PySem.W.Frag) (mg : Str → Option Value) (base : Heap) : Prop where
  draw : Keep P w K mg base 1 "_law_draw" ["state", "limit"] spDraw
  cyc : Keep P w K mg base 1 "_law_cyclic" ["n"] (spCyc K)
  both : Keep P w K mg base 1 "_law_both" ["one", "other"] (spBoth K)
  dih : Keep P w K mg base 1 "_law_dihedral" ["n"] (spDih K)
  qua : Keep P w K mg base 1 "_law_quaternions" [] (spQua K)
  sym : Keep P w K mg base 2 "_law_symmetric" ["k"] (spSym K)
  ren : Keep P w K mg base 1 "_law_renamed" ["table", "order"] (spRen K)
  mix : Keep P w K mg base 2 "_law_mixed" ["state", "n"] spMix
theorem k__law_plain_group (T : Txt mg) (k : Makers P w K mg base) (a : At K mg "_law_plain_group" s__law_plain_group ["state", "most"]) : Keep P w K mg base 4 "_law_plain_group" ["state", "most"] (spGrp K) := by
  have k__law_draw := k.draw
  have k__law_cyclic := k.cyc
  have k__law_both := k.both
  have k__law_dihedral := k.dih
  have k__law_quaternions := k.qua
  have k__law_symmetric := k.sym
  refine Keep.of a sc__law_plain_group (fun vs H Q E h => ?_) (fun f cdv A outer s H vs Q E hr h => ?_)
  · obtain ⟨p, q, most, rfl, _⟩ := h
    rfl
  · obtain ⟨p, q, most, rfl, m0, m60, ds, kk⟩ := h
    refine ⟨_, (pss_cons (ps_set (i := 2) sc__law_plain_group.nd rfl (by first | exact Or.inl rfl | exact Or.inr rfl) (pe_k k__law_draw (hr.mono (by decide)) (by rfl) (pa_cons (pv 0) (pa_cons pe_int pa_nil))))
    (Evl.pss_cut (ps_if (PW.pt (pw_and (pt_cmpR op_eq (pv 2) pe_int (nomark _)) (pw_and1 (pt_cmpR op_ge (pv 1) pe_int (nomark _))))) (pss_cons (ps_set (i := 3) sc__law_plain_group.nd rfl (by first | exact Or.inl rfl | exact Or.inr rfl) (pe_op op_add pe_int (pe_k k__law_draw (hr.mono (by decide)) (by rfl) (pa_cons (pv 0) (pa_cons (pe_op op_sub (pe_op op_fdivW (pv 1) pe_int) pe_int) pa_nil)))))
    (pss_one (ps_ret (pe_k k__law_both (hr.mono (by decide)) (by rfl) (pa_cons (pe_k k__law_cyclic (hr.mono (by decide)) (by rfl) (pa_cons (pv 3) pa_nil)) (pa_cons (pe_k k__law_cyclic (hr.mono (by decide)) (by rfl) (pa_cons (pe_op op_add pe_int (pe_k k__law_draw (hr.mono (by decide)) (by rfl) (pa_cons (pv 0) (pa_cons (pe_op op_fdivW (pv 1) (pv 3)) pa_nil)))) pa_nil)) pa_nil)))))) pss_nil)
    (Evl.pss_cut (ps_if (PW.pt (pw_and (pt_cmpR op_lt (pv 2) pe_int (nomark _)) (pw_and (pt_cmpR op_gt (pv 2) pe_int (nomark _)) (pw_and1 (pt_cmpR op_ge (pv 1) pe_int (nomark _)))))) (pss_one (ps_ret (pe_k k__law_dihedral (hr.mono (by decide)) (by rfl) (pa_cons (pe_op op_add pe_int (pe_k k__law_draw (hr.mono (by decide)) (by rfl) (pa_cons (pv 0) (pa_cons (pe_op op_fdivW (pv 1) pe_int) pa_nil)))) pa_nil)))) pss_nil)
    (Evl.pss_cut (ps_if (PW.pt (pw_and (pt_cmpR op_eq (pv 2) pe_int (nomark _)) (pw_and1 (pt_cmpR op_ge (pv 1) pe_int (nomark _))))) (pss_one (ps_ret (pe_k k__law_symmetric (hr.mono (by decide)) (by rfl) (pa_cons pe_int pa_nil)))) pss_nil)
    (Evl.pss_cut (ps_if (PW.pt (pw_and (pt_cmpR op_eq (pv 2) pe_int (nomark _)) (pw_and1 (pt_cmpR op_ge (pv 1) pe_int (nomark _))))) (pss_one (ps_ret (pe_k0 k__law_quaternions (hr.mono (by decide)) (by rfl)))) pss_nil)
    (Evl.pss_cut (ps_if (PW.pt (pw_and (pt_cmpR op_eq (pv 2) pe_int (nomark _)) (pw_and1 (pt_cmpR op_ge (pv 1) pe_int (nomark _))))) (pss_one (ps_ret (pe_k k__law_both (hr.mono (by decide)) (by rfl) (pa_cons (pe_k k__law_cyclic (hr.mono (by decide)) (by rfl) (pa_cons pe_int pa_nil)) (pa_cons (pe_k k__law_both (hr.mono (by decide)) (by rfl) (pa_cons (pe_k k__law_cyclic (hr.mono (by decide)) (by rfl) (pa_cons pe_int pa_nil)) (pa_cons (pe_k k__law_cyclic (hr.mono (by decide)) (by rfl) (pa_cons (pe_op op_add pe_int (pe_k k__law_draw (hr.mono (by decide)) (by rfl) (pa_cons (pv 0) (pa_cons pe_int pa_nil)))) pa_nil)) pa_nil))) pa_nil))))) pss_nil)
    (pss_one (ps_ret (pe_k k__law_cyclic (hr.mono (by decide)) (by rfl) (pa_cons (pe_op op_add pe_int (pe_k k__law_draw (hr.mono (by decide)) (by rfl) (pa_cons (pv 0) (pa_cons (pv 1) pa_nil)))) pa_nil)))))))))), ?_⟩
    walk_at "rd"
    refine ⟨p, q, _, rfl, ds, by omega, fun H1 kind s1 d1 r0 r1 => ?_⟩
    have r1 := r1 (by decide)
    walk_at "rd"
    obtain ⟨kd, rfl⟩ := Int.eq_ofNat_of_zero_le r0
    -- a table made behind H2
    have fin : ∀ (H2 H3 : Hp) (a : Addr) (n : Nat) (m : Nat → Nat → Nat), ExP p H H2 → DS H2 p q → H2 a = none → Same H2 H3 → TabL K H3 a n m → G.Grp n m → n ≤ most → Q (.ref a) H3 := fun H2 H3 a n m s2 d2 ha s3 t g hn => by
      refine kk H3 a n m ?_ (s2.trans s3.exP) (d2.mono s3) g hn t
      cases e : H a with
      | none => rfl
      | some o =>
        exfalso
        by_cases c : a = p
        · have := (d2.ne ha).1; exact this c
        · have := s2 _ _ c e; rw [ha] at this; cases this
    -- if kind == 1 and most >= 4
    refine ⟨fun σ' H' => σ' = [some (.ref p), some (.int most), some (.int kd), none] ∧ H' = H1, ?_, ?_⟩
    · walk_at "rd"
      refine r_ifI (fun c => ?_) (fun c => ?_)
      · walk_at "rd"
        refine r_if1 (fun c2 => ?_) (fun c2 => ?_)
        · walk_at "rd"
          refine ⟨p, q, _, rfl, d1, by omega, fun H2 r s2 d2 b0 b1 => ?_⟩
          obtain ⟨r, rfl⟩ := Int.eq_ofNat_of_zero_le b0
          have hm2 : (most : Int) / 2 = ((most / 2 : Nat) : Int) := cdivN most 2
          have b1 := b1 (by omega)
          walk_at "rd"
          refine ⟨2 + r, rfl, by omega, by omega, fun H3 a1 n1 t3 tb1 => ?_⟩
          have d3 := d2.mono t3
          walk_at "rd"
          have hf : (most : Int) / (2 + (r : Int)) = ((most / (2 + r) : Nat) : Int) := cdivN most (2 + r)
          have h2f : 2 ≤ most / (2 + r) := (Nat.le_div_iff_mul_le (by omega)).mpr (by omega)
          have hself : most / (2 + r) ≤ most := Nat.div_le_self _ _
          have hmul : (2 + r) * (most / (2 + r)) ≤ most := Nat.mul_div_le most (2 + r)
          refine ⟨p, q, _, rfl, d3, by omega, fun H4 r' s4 d4 e0 e1 => ?_⟩
          obtain ⟨r', rfl⟩ := Int.eq_ofNat_of_zero_le e0
          have e1 := e1 (by omega)
          walk_at "rd"
          have hr' : 1 + r' ≤ most / (2 + r) := by omega
          have hle : (2 + r) * (1 + r') ≤ most := Nat.le_trans (Nat.mul_le_mul_left _ hr') hmul
          have h1 : 1 + r' ≤ 60 := by
            have : most / (2 + r) ≤ most := Nat.div_le_self _ _
            omega
          refine ⟨1 + r', rfl, h1, by omega, fun H5 a2 n2 t5 tb2 => ?_⟩
          walk_at "rd"
          have n1' : H3 a1 = none → True := fun _ => trivial
          have s34 : ExP p H3 H4 := s4
          obtain ⟨L1, hL1, r1⟩ := id tb1
          have a1p : a1 ≠ p := fun e => by
            obtain ⟨ns, i, b, l, z, h1, h2, _⟩ := d2
            rw [e] at n1; rw [n1] at h1; cases h1
          have tb1' : TabL K H5 a1 (2 + r) (G.cyc (2 + r)) := (tb1.exP a1p d3 s4).mono t5
          have hz : (2 + r) * (1 + r') ≤ 60 := Nat.le_trans hle m60
          refine ⟨a1, a2, 2 + r, 1 + r', _, _, rfl, hz, by omega, by omega, tb1', tb2, fun H6 a n6 t6 tb => ?_⟩
          have s5 : ExP p H H5 := ((((s1.trans s2).trans t3.exP).trans s4).trans t5.exP)
          exact fin H5 H6 a _ _ s5 ((d4.mono t5)) n6 t6 tb (G.prd_grp (G.cyc_grp (by omega)) (G.cyc_grp (by omega))) hle
        · walk_at "rd"
          exact ⟨rfl, rfl⟩
      · walk_at "rd"
        exact ⟨rfl, rfl⟩
    rintro σ' H' ⟨rfl, rfl⟩
    -- if kind < 4 and kind > 1 and most >= 2
    refine ⟨fun σ' H2 => σ' = [some (.ref p), some (.int most), some (.int kd), none] ∧ H2 = H', ?_, ?_⟩
    · walk_at "rd"
      refine r_if1 (fun c => ?_) (fun c => ?_)
      · walk_at "rd"
        refine r_if1 (fun c2 => ?_) (fun c2 => ?_)
        · walk_at "rd"
          refine r_if1 (fun c3 => ?_) (fun c3 => ?_)
          · walk_at "rd"
            have hm2 : (most : Int) / 2 = ((most / 2 : Nat) : Int) := cdivN most 2
            refine ⟨p, q, _, rfl, d1, by omega, fun H2 r s2 d2 b0 b1 => ?_⟩
            obtain ⟨r, rfl⟩ := Int.eq_ofNat_of_zero_le b0
            have b1 := b1 (by omega)
            walk_at "rd"
            refine ⟨1 + r, rfl, by omega, by omega, fun H3 a n3 t3 tb => ?_⟩
            exact fin H2 H3 a _ _ (s1.trans s2) d2 n3 t3 tb (G.dih_grp (by omega)) (by omega)
          · walk_at "rd"
            exact ⟨rfl, rfl⟩
        · walk_at "rd"
          exact ⟨rfl, rfl⟩
      · walk_at "rd"
        exact ⟨rfl, rfl⟩
    rintro σ' H2 ⟨rfl, rfl⟩
    -- if kind == 4 and most >= 6
    refine ⟨fun σ' H3 => σ' = [some (.ref p), some (.int most), some (.int kd), none] ∧ H3 = H2, ?_, ?_⟩
    · walk_at "rd"
      refine r_ifI (fun c => ?_) (fun c => ?_)
      · walk_at "rd"
        refine r_if1 (fun c2 => ?_) (fun c2 => ?_)
        · walk_at "rd"
          refine ⟨rfl, fun H3 a m n3 t3 g tb => ?_⟩
          exact fin H2 H3 a _ _ s1 d1 n3 t3 tb g (by omega)
        · walk_at "rd"
          exact ⟨rfl, rfl⟩
      · walk_at "rd"
        exact ⟨rfl, rfl⟩
    rintro σ' H3 ⟨rfl, rfl⟩
    -- if kind == 5 and most >= 8
    refine ⟨fun σ' H2 => σ' = [some (.ref p), some (.int most), some (.int kd), none] ∧ H2 = H3, ?_, ?_⟩
    · walk_at "rd"
      refine r_ifI (fun c => ?_) (fun c => ?_)
      · walk_at "rd"
        refine r_if1 (fun c2 => ?_) (fun c2 => ?_)
        · walk_at "rd"
          refine ⟨rfl, fun H4 a n3 t3 tb => ?_⟩
          exact fin H3 H4 a _ _ s1 d1 n3 t3 tb G.qua_grp (by omega)
        · walk_at "rd"
          exact ⟨rfl, rfl⟩
      · walk_at "rd"
        exact ⟨rfl, rfl⟩
    rintro σ' H2 ⟨rfl, rfl⟩
    -- if kind == 6 and most >= 8
    refine ⟨fun σ' H3 => σ' = [some (.ref p), some (.int most), some (.int kd), none] ∧ H3 = H2, ?_, ?_⟩
    · walk_at "rd"
      refine r_ifI (fun c => ?_) (fun c => ?_)
      · walk_at "rd"
        refine r_if1 (fun c2 => ?_) (fun c2 => ?_)
        · walk_at "rd"
          refine ⟨2, rfl, by omega, by omega, fun H3 a1 n1 t3 tb1 => ?_⟩
          have d3 := d1.mono t3
          walk_at "rd"
          refine ⟨2, rfl, by omega, by omega, fun H4 a2 n2 t4 tb2 => ?_⟩
          have d4 := d3.mono t4
          walk_at "rd"
          refine ⟨p, q, _, rfl, d4, by omega, fun H5 r s5 d5 b0 b1 => ?_⟩
          obtain ⟨r, rfl⟩ := Int.eq_ofNat_of_zero_le b0
          have b1 := b1 (by omega)
          walk_at "rd"
          refine ⟨1 + r, rfl, by omega, by omega, fun H6 a3 n3 t6 tb3 => ?_⟩
          walk_at "rd"
          have a1p : a1 ≠ p := (d1.ne n1).1
          have a2p : a2 ≠ p := (d3.ne n2).1
          have tb2' : TabL K H6 a2 2 (G.cyc 2) := (tb2.exP a2p d4 s5).mono t6
          have tb1' : TabL K H6 a1 2 (G.cyc 2) := ((tb1.mono t4).exP a1p d4 s5).mono t6
          refine ⟨a2, a3, 2, 1 + r, _, _, rfl, by omega, by omega, by omega, tb2', tb3, fun H7 a4 n4 t7 tb4 => ?_⟩
          walk_at "rd"
          refine ⟨a1, a4, 2, 2 * (1 + r), _, _, rfl, by omega, by omega, by omega, tb1'.mono t7, tb4, fun H8 a n8 t8 tb => ?_⟩
          have s8 : ExP p H H7 := (((s1.trans t3.exP).trans t4.exP).trans s5).trans (t6.trans t7).exP
          exact fin H7 H8 a _ _ s8 (d5.mono (t6.trans t7)) n8 t8 tb (G.prd_grp (G.cyc_grp (by omega)) (G.prd_grp (G.cyc_grp (by omega)) (G.cyc_grp (by omega)))) (by omega)
        · walk_at "rd"
          exact ⟨rfl, rfl⟩
      · walk_at "rd"
        exact ⟨rfl, rfl⟩
    rintro σ' H3 ⟨rfl, rfl⟩
    walk_at "rd"
    refine ⟨p, q, _, rfl, d1, by omega, fun H4 r s4 d4 b0 b1 => ?_⟩
    obtain ⟨r, rfl⟩ := Int.eq_ofNat_of_zero_le b0
    have b1 := b1 (by omega)
    walk_at "rd"
    refine ⟨1 + r, rfl, by omega, by omega, fun H5 a n5 t5 tb => ?_⟩
    exact fin H4 H5 a _ _ (s1.trans s4) d4 n5 t5 tb (G.cyc_grp (by omega)) (by omega)
theorem k__law_group (T : Txt mg) (k : Makers P w K mg base) (k__law_plain_group : Keep P w K mg base 4 "_law_plain_group" ["state", "most"] (spGrp K)) (a : At K mg "_law_group" s__law_group ["state", "most"]) : Keep P w K mg base 5 "_law_group" ["state", "most"] (spGrp K) := by
  have k__law_draw := k.draw
  have k__law_renamed := k.ren
  have k__law_mixed := k.mix
  refine Keep.of a sc__law_group (fun vs H Q E h => ?_) (fun f cdv A outer s H vs Q E hr h => ?_)
  · obtain ⟨p, q, most, rfl, _⟩ := h
    rfl
  · obtain ⟨p, q, most, rfl, m0, m60, ds, kk⟩ := h
    refine ⟨_, (pss_cons (ps_set (i := 2) sc__law_group.nd rfl (by first | exact Or.inl rfl | exact Or.inr rfl) (pe_k k__law_plain_group (hr.mono (by decide)) (by rfl) (pa_cons (pv 0) (pa_cons (pv 1) pa_nil))))
    (pss_cons (ps_if (pt_cmpR op_eq (pe_k k__law_draw (hr.mono (by decide)) (by rfl) (pa_cons (pv 0) (pa_cons pe_int pa_nil))) pe_int (nomark _)) (pss_one (ps_set (i := 2) sc__law_group.nd rfl (by first | exact Or.inl rfl | exact Or.inr rfl) (pe_k k__law_renamed (hr.mono (by decide)) (by rfl) (pa_cons (pv 2) (pa_cons (pe_k k__law_mixed (hr.mono (by decide)) (by rfl) (pa_cons (pv 0) (pa_cons (pe_callB (c_len K) (by rfl) T.n_len (by decide +kernel) (pa_cons (pv 2) pa_nil)) pa_nil))) pa_nil))))) pss_nil)
    (pss_one (ps_ret (pv 2))))), ?_⟩
    walk_at "rd"
    refine ⟨p, q, most, rfl, m0, m60, ds, fun H1 a n m na s1 d1 g hn tb => ?_⟩
    walk_at "rd"
    have ap : a ≠ p := (ds.ne na).1
    refine ⟨p, q, _, rfl, d1, by omega, fun H2 r s2 d2 b0 b1 => ?_⟩
    have tb2 := tb.exP ap d1 s2
    walk_at "rd"
    refine r_ifI (fun c => ?_) (fun c => ?_)
    · obtain ⟨L, hL, rL⟩ := id tb2
      walk_at "rd"
      rw [rL.1]
      refine ⟨p, q, n, rfl, by omega, d2, fun H3 b o o' nb s3 d3 pl pm => ?_⟩
      walk_at "rd"
      have tb3 := tb2.exP ap d2 s3
      refine ⟨a, b, n, m, o, o', rfl, by omega, g, tb3, pl, pm, fun H4 a4 n4 t4 tb4 => ?_⟩
      walk_at "rd"
      refine kk H4 a4 n _ ?_ (((s1.trans s2).trans s3).trans t4.exP) (d3.mono t4) (G.ren_grp g pm) hn tb4
      cases e : H a4 with
      | none => rfl
      | some o2 =>
        exfalso
        by_cases c : a4 = p
        · exact (d3.ne n4).1 c
        · have := ((s1.trans s2).trans s3) _ _ c e; rw [n4] at this; cases this
    · walk_at "rd"
      exact kk H2 a n m na (s1.trans s2) d2 g hn tb2
end
end Wk
end
section
set_option Elab.async false
set_option linter.all false
set_option maxRecDepth 100000
namespace Wk
open PySem PySem.Spec PyProof.Rows L2
local macro_rules | `(tactic| walk_at "hp") => `(tactic| first | assumption | exact upd_same | exact (upd_ne (ne_of_none (by assumption) (by assumption))).trans (by assumption) | (rw [upd_ne (by first | assumption | exact Ne.symm (by assumption))]; walk_at "hp"))
local macro_rules | `(tactic| walk_at "sq") => `(tactic| first | assumption | exact SqL.of (by assumption) | exact SqT.of (by assumption) | exact SqL.of (by walk_at "hp") | exact SqT.of (by walk_at "hp") | (refine Same.seq ?_ ?_ <;> assumption))
local macro_rules | `(tactic| walk_at "cmul") => `(tactic| first | exact .inr ⟨by decide, by decide⟩ | exact .inl ⟨by decide, by decide⟩ | exact .inr ⟨by omega, by omega⟩ | exact .inl ⟨by omega, by omega⟩)
local macro_rules | `(tactic| walk_at "cdiv") => `(tactic| first | exact ⟨by decide, by decide⟩ | exact wide_div (b := 64) (by omega) (by omega) (by decide) (by decide) | exact wide_div (b := 128) (by omega) (by omega) (by decide) (by decide))
local macro_rules | `(tactic| walk_at "rd1") => `(tactic| first
  | ((with_reducible show tVar _ _ _ _); refine Wk.r_var rfl ?_)
  | (with_reducible first
    | refine Wk.r_c ?_ | refine Wk.r_op ?_ | refine Wk.r_cons ?_ | refine Wk.r_nil ?_
    | refine Wk.r_seq ?_ | refine Wk.r_next ?_ | refine Wk.r_set ?_ | refine Wk.r_asgS ?_ | refine Wk.r_ret ?_ | refine Wk.r_drop ?_ | refine Wk.r_if ?_
    | refine Wk.r_asgG ?_ | refine Wk.r_gName ?_ | refine Wk.r_gCons ?_ | refine Wk.r_gNil ?_ | refine Wk.r_par ?_ | refine Wk.r_par3 ?_ | refine Wk.r_lstRg1 ?_ | refine Wk.r_tupRg1 ?_ | refine ⟨_, _, _, rfl, ?_⟩ | refine Wk.r_un ?_ | refine Wk.r_I0 ?_ | refine Wk.r_U ?_
    | refine Wk.r_test ?_ | refine Wk.r_B ?_ | refine Wk.r_k ?_ | refine Wk.r_not ?_ | refine Wk.r_and ?_ | refine Wk.r_or ?_ | refine Wk.r_andV ?_ | refine Wk.r_orV ?_ | refine Wk.r_notV ?_
    | refine Wk.r_CB ?_ | refine Wk.r_chain ?_ | refine Wk.r_fld ?_ | refine Wk.r_sfld ?_ | refine Wk.r_lst ?_ | refine Wk.r_tup ?_ | refine Wk.r_call ?_ | refine Wk.r_BM ?_ | refine Wk.r_BM0 ?_ | refine Wk.r_T ?_ | refine Wk.r_nT ?_ | refine Wk.r_nF ?_ | refine Wk.r_F ?_
    | refine Or.inl ⟨_, rfl, ?_⟩ | refine Or.inr ⟨_, rfl, ?_⟩ | refine ⟨_, rfl, ?_⟩ | refine ⟨_, _, rfl, ?_⟩)
  | ((with_reducible refine Wk.r_eq ?c0 ?_); (case c0 => rfl)) | ((with_reducible refine Wk.r_ne ?c0 ?_); (case c0 => rfl))
  | ((with_reducible refine Wk.r_pow ?c0 ?_); (case c0 => exact ⟨by decide, by decide, by decide⟩))
  | ((with_reducible refine Wk.r_mul ?c0 ?_); (case c0 => walk_at "cmul")) | ((with_reducible refine Wk.r_mod ?c0 ?_); (case c0 => first | decide | omega)) | ((with_reducible refine Wk.r_div ?c0 ?_); (case c0 => walk_at "cdiv"))
  | ((with_reducible refine Wk.r_new ?c0 ?_); (case c0 => (simp only [List.length_cons, List.length_nil]; omega)))
  | ((with_reducible show gTup _ _ _ _ _ _ _); refine Wk.r_gTup (by walk_at "sq") (by rfl) ?_)
  | (refine Wk.r_tyL (by walk_at "hp") ?_)
  | ((with_reducible show rSetL _ _ _ _ _); refine Wk.r_setL (by walk_at "hp") (by rfl) ?_)
  | ((with_reducible show rIxL _ _ _ _ _); refine Wk.r_ixL (by walk_at "sq") (by rfl) ?_) | ((with_reducible show rIxT _ _ _ _ _); refine Wk.r_ixT (by walk_at "sq") (by rfl) ?_)
  | ((with_reducible show rLenOf _ _ _ _); first | refine Wk.n_lenL (by walk_at "sq") ?_ | refine Wk.n_lenT (by walk_at "sq") ?_)
  | ((with_reducible show rListOf _ _ _ _); first | refine Wk.n_listL (by walk_at "sq") ?_ | refine Wk.n_listT (by walk_at "sq") ?_)
  | ((with_reducible show rTupZ _ _ _ _); first | refine Wk.z_tupL (by walk_at "sq") ?_ | refine Wk.z_tupT (by walk_at "sq") ?_)
  | ((with_reducible show rTupOf _ _ _ _); first | refine Wk.n_tupL (by walk_at "sq") ?_ | refine Wk.n_tupT (by walk_at "sq") ?_))
local macro_rules | `(tactic| walk_at "rd") => `(tactic| repeat (walk_at "rd1"))

section
variable {P : Program} {w : World} {K : PySem.W.Frag} {mg : Str → Option Value} {base : Heap}
/-- the values L are tuples of the rows fs -/
def Tups (K : PySem.W.Frag) (H : Hp) (L : List V) (fs : List (List Nat)) : Prop := L.length = fs.length ∧ ∀ (i : Nat) (v : V), L[i]? = some v → ∃ (b : Addr) (r : List Nat), fs[i]? = some r ∧ v = V.ref b ∧ SqT K H b (natL r)
theorem Tups.nil {H : Hp} : Tups K H [] [] := ⟨rfl, fun i v e => by simp at e⟩
theorem Tups.snoc {H : Hp} {L : List V} {fs : List (List Nat)} {b : Addr} {r : List Nat} (t : Tups K H L fs) (h : SqT K H b (natL r)) : Tups K H (L ++ [V.ref b]) (fs ++ [r]) := by
  refine ⟨by rw [List.length_append, List.length_append, t.1]; rfl, fun i v e => ?_⟩
  rcases get_snoc e with ⟨hl, q⟩ | ⟨q, rfl⟩
  · obtain ⟨b', r', e1, e2, e3⟩ := t.2 i v q
    exact ⟨b', r', by rw [List.getElem?_append_left (by rw [← t.1]; exact hl)]; exact e1, e2, e3⟩
  · refine ⟨b, r, ?_, rfl, h⟩
    rw [List.getElem?_append_right (by rw [q, t.1]; exact Nat.le_refl _), q, t.1, Nat.sub_self]
    rfl
theorem Tups.mono {H H' : Hp} {L : List V} {fs : List (List Nat)} (s : Same H H') (t : Tups K H L fs) : Tups K H' L fs := ⟨t.1, fun i v e => by
  obtain ⟨b, r, e1, e2, e3⟩ := t.2 i v e
  exact ⟨b, r, e1, e2, s.sqT e3⟩⟩
theorem Tups.mut {H H' : Hp} {D : Addr} {L L' : List V} {fs : List (List Nat)} (hD : H D = some (.lst L')) (s : ExP D H H') (t : Tups K H L fs) : Tups K H' L fs := ⟨t.1, fun i v e => by
  obtain ⟨b, r, e1, e2, e3⟩ := t.2 i v e
  exact ⟨b, r, e1, e2, sqT_mut hD s e3⟩⟩
/-- such a list, new since H0 -/
structure TupsAt (K : PySem.W.Frag) (H0 H : Hp) (a : Addr) (fs : List (List Nat)) : Prop where
  new : H0 a = none
  same : Same H0 H
  lst : ∃ L, H a = some (.lst L) ∧ Tups K H L fs
theorem TupsAt.mono {H0 H H' : Hp} {a : Addr} {fs : List (List Nat)} (s : Same H H') (t : TupsAt K H0 H a fs) : TupsAt K H0 H' a fs := by
  obtain ⟨L, h, r⟩ := t.lst
  exact ⟨t.new, t.same.trans s, L, s _ _ h, r.mono s⟩
theorem TupsAt.snoc {H0 H : Hp} {a b : Addr} {L : List V} {fs : List (List Nat)} {r : List Nat} (t : TupsAt K H0 H a fs) (hL : H a = some (.lst L)) (h : SqT K H b (natL r)) : TupsAt K H0 (upd H a (.lst (L ++ [V.ref b]))) a (fs ++ [r]) := by
  obtain ⟨L', h', tt⟩ := t.lst
  have e : L = L' := by
    rw [hL] at h'
    injection h' with q; injection q
  subst e
  exact ⟨t.new, fun c o e => by rw [upd_ne (ne_of_none e t.new)]; exact t.same _ _ e, _, upd_same, (tt.snoc h).mut hL ExP.upd⟩
def spPerms (K : PySem.W.Frag) : Sp := fun vs H Q _ => vs = [.int 3] ∧ ∀ H' a, TupsAt K H H' a G.perms3 → Q (.ref a) H'
theorem take_flat {α β : Type} {f : α → List β} {l : List α} {i : Nat} {x : α} (h : l[i]? = some x) : (l.take (i + 1)).flatMap f = (l.take i).flatMap f ++ f x := by
  rw [List.take_succ, h, List.flatMap_append]
  simp
theorem flat_len {k : Nat} : ∀ (l : List (List Nat)), (l.flatMap fun row => G.prow k row k).length ≤ l.length * k
  | [] => by simp
  | a :: l => by
    have ih := flat_len (k := k) l
    rw [List.flatMap_cons, List.length_append, List.length_cons, Nat.succ_mul]
    have := G.prow_len k a k
    omega
theorem k__law_permutations (T : Txt mg) (a : At K mg "_law_permutations" s__law_permutations ["k"]) : Keep P w K mg base 1 "_law_permutations" ["k"] (spPerms K) := by
  refine Keep.of a sc__law_permutations (fun vs H Q E h => ?_) (fun f cdv A outer s H vs Q E hr h => ?_)
  · obtain ⟨rfl, _⟩ := h
    rfl
  · obtain ⟨rfl, kk⟩ := h
    refine ⟨_, (pss_cons (ps_set (i := 1) sc__law_permutations.nd rfl (by first | exact Or.inl rfl | exact Or.inr rfl) (pe_lst (pa_cons (pe_tup pa_nil) pa_nil)))
    (pss_cons (ps_for PassesOwn.never rfl (pi_range1 (by rfl) T.n_range (pa_cons (pv 0) pa_nil)) (pg_name (i := 2) sc__law_permutations.nd rfl (by first | exact Or.inl rfl | exact Or.inr rfl)) (pss_cons (ps_set (i := 3) sc__law_permutations.nd rfl (by first | exact Or.inl rfl | exact Or.inr rfl) (pe_lst pa_nil))
    (pss_cons (ps_for PassesOwn.never rfl (i_list K (pv 1)) (pg_name (i := 4) sc__law_permutations.nd rfl (by first | exact Or.inl rfl | exact Or.inr rfl)) (pss_one (ps_for PassesOwn.never rfl (pi_range1 (by rfl) T.n_range (pa_cons (pv 0) pa_nil)) (pg_name (i := 5) sc__law_permutations.nd rfl (by first | exact Or.inl rfl | exact Or.inr rfl)) (pss_one (ps_if (pt_cmpR (c_notIn K) (pv 5) (pv 4) rfl) (pss_one (ps_expr (e_bm K PySem.F.plainAttrs_list PySem.F.slot_list_append PySem.F.type_list_append mt_append (pv 3) (pa_cons (pe_op (c_catA K) (pv 4) (pe_tup (pa_cons (pv 5) pa_nil))) pa_nil)))) pss_nil)))))
    (pss_one (ps_set (i := 1) sc__law_permutations.nd rfl (by first | exact Or.inl rfl | exact Or.inr rfl) (pv 3))))))
    (pss_one (ps_ret (pv 1))))), ?_⟩
    walk_at "rd"
    intro t0 ht0
    walk_at "rd"
    intro fa hfa
    walk_at "rd"
    refine f_rng (n := 3) (fun i σ' H' => ∃ (v2 v3 v4 v5 : Option V) (fa : Addr), σ' = [some (.int 3), some (.ref fa), v2, v3, v4, v5] ∧ TupsAt K H H' fa (G.pit 3 i)) (by omega) (fun R' h => ?_) ?_ ?_ ?_
    · walk_at "rd"
      exact h
    · refine ⟨none, none, none, none, fa, rfl, Same.free (same_new ht0) hfa, (same_new ht0).trans (same_new hfa), [.ref t0], upd_same, ?_⟩
      have := (Tups.nil (K := K) (H := upd (upd H t0 (.tup [])) fa (.lst [.ref t0]))).snoc (b := t0) (r := []) (SqT.of (same_new hfa _ _ upd_same))
      exact this
    · rintro i σ' H' hi ⟨v2, v3, v4, v5, fa, rfl, t1⟩ N B R hN hB hR
      obtain ⟨L, hL, tt⟩ := id t1.lst
      have z6 : (G.pit 3 i).length ≤ 6 := (G.pit_small ⟨i, by omega⟩).1
      have z3 : ∀ r, r ∈ G.pit 3 i → r.length ≤ 3 := (G.pit_small ⟨i, by omega⟩).2
      walk_at "rd"
      intro la hla
      walk_at "rd"
      have hL1 := same_new (o := .lst []) hla _ _ hL
      refine f_lst (fun r σ'' H'' => ∃ v4 v5 : Option V, σ'' = [some (.int 3), some (.ref fa), some (.int i), some (.ref la), v4, v5] ∧ TupsAt K H' H'' la (((G.pit 3 i).take r).flatMap fun row => G.prow 3 row 3)) (SqL.of hL1) (fun R' h => ?_) ⟨_, _, rfl, hla, same_new hla, [], upd_same, Tups.nil⟩ (fun r σ'' H'' ⟨_, _, _, t2⟩ => SqL.of (t2.same _ _ hL)) ?_ ?_
      · walk_at "rd"
        exact h
      · rintro r x σ'' H'' hx ⟨v4, v5, rfl, t2⟩ N2 B2 R2 hN2 hB2 hR2
        obtain ⟨b, row, er, rfl, sb⟩ := tt.2 r x hx
        have hr6 : r < 6 := by have := (List.getElem?_eq_some_iff.mp er).1; omega
        have hrow : row.length ≤ 3 := z3 row (List.mem_of_getElem? er)
        have hlen : (((G.pit 3 i).take r).flatMap fun row => G.prow 3 row 3).length ≤ 18 := by
          have h1 := flat_len (k := 3) ((G.pit 3 i).take r)
          have h2 : ((G.pit 3 i).take r).length ≤ r := by rw [List.length_take]; omega
          omega
        walk_at "rd"
        refine f_rng (n := 3) (fun v σ3 H3 => ∃ v5 : Option V, σ3 = [some (.int 3), some (.ref fa), some (.int i), some (.ref la), some (.ref b), v5] ∧ TupsAt K H' H3 la ((((G.pit 3 i).take r).flatMap fun row => G.prow 3 row 3) ++ G.prow 3 row v)) (by omega) (fun R' h => ?_) ?_ ?_ ?_
        · walk_at "rd"
          exact h
        · exact ⟨_, rfl, by rw [show G.prow 3 row 0 = [] from rfl, List.append_nil]; exact t2⟩
        · rintro v σ3 H3 hv ⟨v5, rfl, t3⟩ N3 B3 R3 hN3 hB3 hR3
          have sb3 := t3.same.sqT sb
          obtain ⟨L3, hL3, tt3⟩ := id t3.lst
          have hl3 : L3.length ≤ 50 := by
            rw [tt3.1, List.length_append]
            have := G.prow_len 3 row v
            omega
          walk_at "rd"
          refine n_notIn (.inr sb3) rfl natL_flat ?_
          rw [inV_natL]
          walk_at "rd"
          refine r_ifN (fun c => ?_) (fun c => ?_)
          · walk_at "rd"
            intro t ht
            have s4 := same_new (o := .tup [.int (v : Int)]) ht
            walk_at "rd"
            refine ⟨b, t, natL row, [.int (v : Int)], rfl, rfl, s4.sqT sb3, SqT.of upd_same, szl (by rw [natL_len]; show _ + 1 ≤ _; omega), fun e => ?_, fun _ e => (by cases e), fun _ _ p hp => ?_⟩
            · have er0 : row = [] := by unfold natL at e; exact List.map_eq_nil_iff.mp e
              subst er0
              have hL4 := s4 _ _ hL3
              walk_at "rd"
              refine Wk.r_append hL4 (szlt (by omega)) ?_
              refine hN3 _ _ ⟨_, rfl, ?_⟩
              rw [G.prow_succ, if_neg c, ← List.append_assoc]
              exact (t3.mono s4).snoc hL4 (SqT.of upd_same)
            · have s5 := s4.trans (same_new (o := .tup (natL row ++ [.int (v : Int)])) hp)
              have hL5 := s5 _ _ hL3
              walk_at "rd"
              refine Wk.r_append hL5 (szlt (by omega)) ?_
              refine hN3 _ _ ⟨_, rfl, ?_⟩
              rw [G.prow_succ, if_neg c, ← List.append_assoc]
              refine (t3.mono s5).snoc hL5 (SqT.of ?_)
              rw [upd_same]
              unfold natL
              rw [List.map_append]
              rfl
          · walk_at "rd"
            refine hN3 _ _ ⟨_, rfl, ?_⟩
            rw [G.prow_succ, if_pos c, List.append_nil]
            exact t3
        · rintro σ3 H3 ⟨v5, rfl, t3⟩
          refine hN2 _ _ ⟨_, _, rfl, ?_⟩
          rw [take_flat er]
          exact t3
      · rintro σ'' H'' ⟨v4, v5, rfl, t2⟩
        rw [tt.1, List.take_length] at t2
        walk_at "rd"
        exact hN _ _ ⟨_, _, _, _, la, rfl, Same.free t1.same t2.new, t1.same.trans t2.same, t2.lst⟩
    · rintro σ' H' ⟨v2, v3, v4, v5, fa, rfl, t1⟩
      walk_at "rd"
      rw [G.pit3] at t1
      exact kk H' fa t1

def dT (r : List Nat) : PyData := .tuple (r.map fun (x : Nat) => .int (x : Int))
theorem dp_nats {H : Hp} : ∀ r : List Nat, DpAll K H (natL r) (r.map fun (x : Nat) => .int (x : Int))
  | [] => .nil
  | a :: r => .cons (.int _) (dp_nats r)
theorem dp_tups {H : Hp} : ∀ {L : List V} {fs : List (List Nat)}, Tups K H L fs → DpAll K H L (fs.map dT)
  | [], [], _ => .nil
  | [], _ :: _, t => by have := t.1; simp at this
  | _ :: _, [], t => by have := t.1; simp at this
  | v :: L, r :: fs, t => by
    obtain ⟨b, r', e1, e2, e3⟩ := t.2 0 v rfl
    have er : r = r' := Option.some.inj e1
    subst er
    subst e2
    refine .cons (.tup e3 (dp_nats _)) (dp_tups ⟨by have := t.1; simpa using this, fun i v h => ?_⟩)
    exact t.2 (i + 1) v h
theorem eqvAll_nats : ∀ r s : List Nat, PyData.eqvAll (r.map fun (x : Nat) => .int (x : Int)) (s.map fun (x : Nat) => .int (x : Int)) = decide (r = s)
  | [], [] => by simp [PyData.eqvAll]
  | [], b :: s => by simp [PyData.eqvAll]
  | a :: r, [] => by simp [PyData.eqvAll]
  | a :: r, b :: s => by
    have ih := eqvAll_nats r s
    simp only [List.map_cons, PyData.eqvAll, PyData.eqv, ih]
    by_cases c : a = b
    · subst c; simp
    · have : ((a : Int) == (b : Int)) = false := beq_eq_false_iff_ne.mpr (by omega)
      rw [this, Bool.false_and, decide_eq_false (fun e => c (List.cons.inj e).1)]
theorem dT_eqv (r s : List Nat) : PyData.eqv (dT r) (dT s) = decide (r = s) := by
  have h := eqvAll_nats r s
  simp only [dT, PyData.eqv]
  exact h
theorem nats_lay : ∀ r : List Nat, PyData.canLayAll0 (r.map fun (x : Nat) => .int (x : Int)) = true
  | [] => by simp [PyData.canLayAll0]
  | a :: r => by simp [PyData.canLayAll0, PyData.canLay0, nats_lay r]
theorem nats_depth : ∀ r : List Nat, PyData.depthAll (r.map fun (x : Nat) => .int (x : Int)) = 0
  | [] => by simp [PyData.depthAll]
  | a :: r => by
    have ih := nats_depth r
    simp only [List.map_cons, PyData.depthAll, PyData.depth, ih]
    rfl
theorem dT_depth (r : List Nat) : (dT r).depth ≤ 1 := by
  simp only [dT, PyData.depth, nats_depth]
  omega
theorem dT_shaped (r : List Nat) : SeqAt.shaped (dT r) = true := by
  have h := dT_depth r
  show ((dT r).canLay0 && decide ((dT r).depth ≤ 64)) = true
  rw [Bool.and_eq_true]
  exact ⟨by simp only [dT, PyData.canLay0]; exact nats_lay r, decide_eq_true (by omega)⟩
theorem dTs_lay : ∀ fs : List (List Nat), PyData.canLayAll0 (fs.map dT) = true
  | [] => by simp [PyData.canLayAll0]
  | r :: fs => by
    have : (dT r).canLay0 = true := by simp only [dT, PyData.canLay0]; exact nats_lay r
    simp [PyData.canLayAll0, this, dTs_lay fs]
theorem dTs_depth : ∀ fs : List (List Nat), PyData.depthAll (fs.map dT) ≤ 1
  | [] => by simp [PyData.depthAll]
  | r :: fs => by
    have h1 := dTs_depth fs
    have h2 := dT_depth r
    simp only [List.map_cons, PyData.depthAll]
    omega
theorem dTs_shaped (fs : List (List Nat)) : SeqAt.shaped (.list (fs.map dT)) = true := by
  have h1 := dTs_depth fs
  have h2 : PyData.depth (.list (fs.map dT)) ≤ 64 := by
    simp only [PyData.depth]
    omega
  show (PyData.canLay0 (.list (fs.map dT)) && decide (PyData.depth (.list (fs.map dT)) ≤ 64)) = true
  rw [Bool.and_eq_true]
  exact ⟨by simp only [PyData.canLay0]; exact dTs_lay fs, decide_eq_true h2⟩
theorem sym_at : ∀ x : Fin 6, ∀ y : Fin 6, G.perms3[G.sym x y]? = some (G.cmp3 x y) ∧ ∀ m : Fin 6, m.1 < G.sym x y → G.perms3[m.1]? ≠ some (G.cmp3 x y) := by decide +kernel
theorem cmp_at : ∀ x : Fin 6, ∀ y : Fin 6, (G.perms3.getD y []).length = 3 ∧ ∀ l : Fin 3, ((G.perms3.getD y []).getD l 0) < 3 ∧ (G.cmp3 x y)[l.1]? = (G.perms3.getD x [])[(G.perms3.getD y []).getD l 0]? ∧ (G.cmp3 x y).length = 3 := by decide +kernel
theorem k__law_symmetric (T : Txt mg) (k__law_permutations : Keep P w K mg base 1 "_law_permutations" ["k"] (spPerms K)) (a : At K mg "_law_symmetric" s__law_symmetric ["k"]) : Keep P w K mg base 2 "_law_symmetric" ["k"] (spSym K) := by
  refine Keep.of a sc__law_symmetric (fun vs H Q E h => ?_) (fun f cdv A outer s H vs Q E hr h => ?_)
  · obtain ⟨rfl, _⟩ := h
    rfl
  · obtain ⟨rfl, kk⟩ := h
    refine ⟨_, (pss_cons (ps_set (i := 1) sc__law_symmetric.nd rfl (by first | exact Or.inl rfl | exact Or.inr rfl) (pe_k k__law_permutations (hr.mono (by decide)) (by rfl) (pa_cons (pv 0) pa_nil)))
    (pss_cons (ps_set (i := 2) sc__law_symmetric.nd rfl (by first | exact Or.inl rfl | exact Or.inr rfl) (pe_lst pa_nil))
    (pss_cons (ps_for PassesOwn.never rfl (i_list K (pv 1)) (pg_name (i := 3) sc__law_symmetric.nd rfl (by first | exact Or.inl rfl | exact Or.inr rfl)) (pss_one (ps_expr (e_bm K PySem.F.plainAttrs_list PySem.F.slot_list_append PySem.F.type_list_append mt_append (pv 2) (pa_cons (pe_callTy (c_tupZ K) (by rfl) T.n_tuple (by decide +kernel) (pa_cons (pe_lc (own := [("other", 4)]) rfl sc__law_symmetric.nd (i_list K (pv 1)) (blkOk_by (N := ["k", "rows", "table", "one", "other", "value"]) (sc := defScope s__law_symmetric) (by decide +kernel)) (fun _ _ _ _ _ => (pg_name (i := 4) sc__law_symmetric.nd rfl (by first | exact Or.inl rfl | exact Or.inr rfl))) (fun _ _ _ _ _ => pts_nil) (fun _ _ _ _ _ => (e_bm K PySem.F.plainAttrs_list PySem.F.slot_list_index PySem.F.type_list_index (m_indexD K (u65 hr)) (pv 1) (pa_cons (pe_callTy (c_tupZ K) (by rfl) T.n_tuple (by decide +kernel) (pa_cons (pe_lc (own := [("value", 5)]) rfl sc__law_symmetric.nd (i_tup K (pv 4)) (blkOk_by (by kernel_rfl)) (fun _ _ _ _ _ => (pg_name (i := 5) sc__law_symmetric.nd rfl (by first | exact Or.inl rfl | exact Or.inr rfl))) (fun _ _ _ _ _ => pts_nil) (fun _ _ _ _ _ => (pe_ix (x_tup K) (pv 3) (pv 5) (fun _ _ => rfl)))) pa_nil)) pa_nil)))) pa_nil)) pa_nil)))))
    (pss_one (ps_ret (pv 2)))))), ?_⟩
    walk_at "rd"
    refine ⟨rfl, fun H1 ra t1 => ?_⟩
    obtain ⟨L, hL, tt⟩ := id t1.lst
    walk_at "rd"
    intro p hp
    have hLp := same_new (o := .lst []) hp _ _ hL
    walk_at "rd"
    refine f_lst (fun i σ' H' => (∃ v3 : Option V, σ' = [some (.int 3), some (.ref ra), some (.ref p), v3, none, none]) ∧ Grow (fun x v H => ∃ q, v = .ref q ∧ SqZ H q (rowV 6 G.sym x)) H1 p i H') (SqL.of hLp) (fun R' h => ?_) ⟨⟨_, rfl⟩, Grow.start hp⟩ (fun i σ' H' ⟨_, g⟩ => SqL.of (g.same _ _ hL)) ?_ ?_
    · walk_at "rd"
      exact h
    · rintro i x σ' H' hx ⟨⟨v3, rfl⟩, g⟩ N B R hN hB hR
      obtain ⟨b, row, er, rfl, sb⟩ := tt.2 i x hx
      have hi : i < 6 := (List.getElem?_eq_some_iff.mp er).1
      have hL' := g.same _ _ hL
      obtain ⟨L2, hL2, len2, _⟩ := id g.lst
      have erow : G.perms3.getD i [] = row := by rw [List.getD_eq_getElem?_getD, er]; rfl
      walk_at "rd"
      have tt' := tt.mono g.same
      have e6 : L.length = 6 := tt.1
      refine lc_lst (fun y v H => v = .int ((G.sym i y : Nat) : Int)) (SqL.of hL') (by omega) (fun R' h => ?_) (fun _ => mut_val) (fun y x H3 Q3 hx3 s3 k3 => ?_) (fun D L3 H3 hD s3 hL3 len3 r3 => ?_)
      · walk_at "rd"
        exact h
      · obtain ⟨b2, row2, er2, rfl, sb2⟩ := tt'.2 y x hx3
        have hy : y < 6 := (List.getElem?_eq_some_iff.mp er2).1
        have erow2 : G.perms3.getD y [] = row2 := by rw [List.getD_eq_getElem?_getD, er2]; rfl
        have sb2' := s3.sqT sb2
        have hL3 := s3 _ _ hL'
        have l3 : row2.length = 3 := by rw [← erow2]; exact (cmp_at ⟨i, hi⟩ ⟨y, hy⟩).1
        walk_at "rd"
        refine lc_tpl (fun l v H => ∃ c : Nat, (G.cmp3 i y)[l]? = some c ∧ v = .int (c : Int)) sb2' (by rw [natL_len]; omega) (fun R' h => ?_) (fun l v H1 H2 D L _ _ h => h) (fun l x H4 Q4 hx4 s4 k4 => ?_) (fun D L4 H4 hD s4 hL4 len4 r4 => ?_)
        · walk_at "rd"
          exact h
        · have hl : l < 3 := by have := (List.getElem?_eq_some_iff.mp hx4).1; rw [natL_len] at this; omega
          have q2 : row2[l]? = some row2[l] := List.getElem?_eq_getElem (by omega)
          have ex : x = .int ((row2[l] : Nat) : Int) := by
            unfold natL at hx4
            rw [List.getElem?_map, q2] at hx4
            exact (Option.some.inj hx4).symm
          subst ex
          obtain ⟨_, ca⟩ := cmp_at ⟨i, hi⟩ ⟨y, hy⟩
          obtain ⟨c3, ce, cl⟩ := ca ⟨l, hl⟩
          have eg : (G.perms3.getD y []).getD l 0 = row2[l] := by rw [erow2, List.getD_eq_getElem?_getD, q2]; rfl
          have l1 : row.length = 3 := by rw [← erow]; exact (cmp_at ⟨0, by decide⟩ ⟨i, hi⟩).1
          rw [show (G.perms3.getD (⟨y, hy⟩ : Fin 6).1 []).getD (⟨l, hl⟩ : Fin 3).1 0 = row2[l] from eg] at c3 ce
          rw [show G.perms3.getD (⟨i, hi⟩ : Fin 6).1 [] = row from erow] at ce
          have q1 : row[row2[l]]? = some (row[row2[l]]'(by omega)) := List.getElem?_eq_getElem (by omega)
          have sb4 := ((g.same.trans s3).trans s4).sqT sb
          walk_at "rd"
          refine Wk.r_ixT (by walk_at "sq") (atI_nat (v := .int ((row[row2[l]]'(by omega) : Nat) : Int)) ?_) ?_
          · unfold natL
            rw [List.getElem?_map, q1]
            rfl
          · exact k4 _ _ (Same.refl _) ⟨_, ce.trans q1, rfl⟩
        · have cl : (G.cmp3 i y).length = 3 := ((cmp_at ⟨i, hi⟩ ⟨y, hy⟩).2 ⟨0, by decide⟩).2.2
          have e4 : L4 = natL (G.cmp3 i y) := by
            rw [natL_len, l3] at len4
            apply List.ext_getElem?
            intro l
            unfold natL
            rw [List.getElem?_map]
            by_cases c : l < 3
            · obtain ⟨cc, h1, h2⟩ := r4 l _ (List.getElem?_eq_getElem (by omega))
              rw [List.getElem?_eq_getElem (by omega), h2, h1]
              rfl
            · rw [List.getElem?_eq_none (by omega), List.getElem?_eq_none (by omega)]
              rfl
          subst e4
          walk_at "rd"
          intro t ob ht ho hc
          have s5 := s4.trans (same_new (o := .frz ob (.tup (natL (G.cmp3 i y)))) ht)
          walk_at "rd"
          obtain ⟨a1, a2⟩ := sym_at ⟨i, hi⟩ ⟨y, hy⟩
          have a1' : G.perms3[G.sym i y]? = some (G.cmp3 i y) := a1
          refine ⟨ra, .ref t, dT (G.cmp3 i y), G.perms3.map dT, G.sym i y, dT (G.cmp3 i y), rfl, rfl, .lst (SqL.of ((s3.trans s5) _ _ hL')) (dp_tups (tt'.mono (s3.trans s5))), .tup (SqZ.sqT ⟨ob, upd_same, ho, hc⟩) (dp_nats _), dTs_shaped _, dT_shaped _, by rw [List.getElem?_map, a1']; rfl, by rw [dT_eqv]; exact decide_eq_true rfl, fun m z hm hz => ?_, ?_⟩
          · rw [List.getElem?_map] at hz
            have m6 : m < 6 := by have := G.sym_grp.cl i y hi hy; omega
            cases e : G.perms3[m]? with
            | none => rw [e] at hz; cases hz
            | some r =>
              rw [e] at hz
              have ez := Option.some.inj hz
              subst ez
              rw [dT_eqv]
              refine decide_eq_false fun q => ?_
              exact a2 ⟨m, m6⟩ hm (by rw [show G.perms3[(⟨m, m6⟩ : Fin 6).1]? = some r from e, q])
          · exact k3 _ _ s5 rfl
      · rw [e6] at len3
        have e3 : L3 = rowV 6 G.sym i := list_eq len3 r3
        walk_at "rd"
        intro t ob ht ho hc
        have s4 := s3.trans (same_new (o := .frz ob (.tup L3)) ht)
        have hL4 := s4 _ _ hL2
        have e36 : i ≤ 6 := by omega
        walk_at "rd"
        refine Wk.r_append hL4 (szlt (by omega)) ?_
        exact hN _ _ ⟨⟨_, rfl⟩, (g.mono (fun _ => mut_rowZ) s4).snoc (fun _ => mut_rowZ) hL4 ⟨t, rfl, by rw [← e3]; exact ⟨ob, upd_same, ho, hc⟩⟩⟩
    · rintro σ' H' ⟨⟨v3, rfl⟩, g⟩
      have e6 : L.length = 6 := tt.1
      rw [e6] at g
      obtain ⟨L2, hL2, len2, r2⟩ := g.lst
      walk_at "rd"
      have n0 : H p = none := Same.free t1.same hp
      exact kk H' p _ n0 (t1.same.trans g.same) G.sym_grp ⟨L2, hL2, len2, r2⟩
end
end Wk
end
section
set_option Elab.async false
set_option linter.all false
set_option maxRecDepth 100000
namespace Wk
open PySem PySem.Spec PyProof.Rows L2
local macro_rules | `(tactic| walk_at "hp") => `(tactic| first | assumption | exact upd_same | exact (upd_ne (ne_of_none (by assumption) (by assumption))).trans (by assumption) | (rw [upd_ne (by first | assumption | exact Ne.symm (by assumption))]; walk_at "hp"))
local macro_rules | `(tactic| walk_at "sq") => `(tactic| first | assumption | exact SqL.of (by assumption) | exact SqT.of (by assumption) | exact SqL.of (by walk_at "hp") | exact SqT.of (by walk_at "hp") | (refine Same.seq ?_ ?_ <;> assumption))
local macro_rules | `(tactic| walk_at "cmul") => `(tactic| first | exact .inr ⟨by decide, by decide⟩ | exact .inl ⟨by decide, by decide⟩ | exact .inr ⟨by omega, by omega⟩ | exact .inl ⟨by omega, by omega⟩)
local macro_rules | `(tactic| walk_at "cdiv") => `(tactic| first | exact ⟨by decide, by decide⟩ | exact wide_div (b := 64) (by omega) (by omega) (by decide) (by decide) | exact wide_div (b := 128) (by omega) (by omega) (by decide) (by decide))
local macro_rules | `(tactic| walk_at "rd1") => `(tactic| first
  | ((with_reducible show tVar _ _ _ _); refine Wk.r_var rfl ?_)
  | (with_reducible first
    | refine Wk.r_c ?_ | refine Wk.r_op ?_ | refine Wk.r_cons ?_ | refine Wk.r_nil ?_
    | refine Wk.r_seq ?_ | refine Wk.r_next ?_ | refine Wk.r_set ?_ | refine Wk.r_asgS ?_ | refine Wk.r_ret ?_ | refine Wk.r_drop ?_ | refine Wk.r_if ?_
    | refine Wk.r_asgG ?_ | refine Wk.r_gName ?_ | refine Wk.r_gCons ?_ | refine Wk.r_gNil ?_ | refine Wk.r_par ?_ | refine Wk.r_par3 ?_ | refine Wk.r_lstRg1 ?_ | refine Wk.r_tupRg1 ?_ | refine ⟨_, _, _, rfl, ?_⟩ | refine Wk.r_un ?_ | refine Wk.r_I0 ?_ | refine Wk.r_U ?_
    | refine Wk.r_test ?_ | refine Wk.r_B ?_ | refine Wk.r_k ?_ | refine Wk.r_not ?_ | refine Wk.r_and ?_ | refine Wk.r_or ?_ | refine Wk.r_andV ?_ | refine Wk.r_orV ?_ | refine Wk.r_notV ?_
    | refine Wk.r_CB ?_ | refine Wk.r_chain ?_ | refine Wk.r_fld ?_ | refine Wk.r_sfld ?_ | refine Wk.r_lst ?_ | refine Wk.r_tup ?_ | refine Wk.r_call ?_ | refine Wk.r_BM ?_ | refine Wk.r_BM0 ?_ | refine Wk.r_T ?_ | refine Wk.r_nT ?_ | refine Wk.r_nF ?_ | refine Wk.r_F ?_
    | refine Or.inl ⟨_, rfl, ?_⟩ | refine Or.inr ⟨_, rfl, ?_⟩ | refine ⟨_, rfl, ?_⟩ | refine ⟨_, _, rfl, ?_⟩)
  | ((with_reducible refine Wk.r_eq ?c0 ?_); (case c0 => rfl)) | ((with_reducible refine Wk.r_ne ?c0 ?_); (case c0 => rfl))
  | ((with_reducible refine Wk.r_pow ?c0 ?_); (case c0 => exact ⟨by decide, by decide, by decide⟩))
  | ((with_reducible refine Wk.r_mul ?c0 ?_); (case c0 => walk_at "cmul")) | ((with_reducible refine Wk.r_mod ?c0 ?_); (case c0 => first | decide | omega)) | ((with_reducible refine Wk.r_div ?c0 ?_); (case c0 => walk_at "cdiv"))
  | ((with_reducible refine Wk.r_new ?c0 ?_); (case c0 => (simp only [List.length_cons, List.length_nil]; omega)))
  | ((with_reducible show gTup _ _ _ _ _ _ _); refine Wk.r_gTup (by walk_at "sq") (by rfl) ?_)
  | (refine Wk.r_tyL (by walk_at "hp") ?_)
  | ((with_reducible show rSetL _ _ _ _ _); refine Wk.r_setL (by walk_at "hp") (by rfl) ?_)
  | ((with_reducible show rIxL _ _ _ _ _); refine Wk.r_ixL (by walk_at "sq") (by rfl) ?_) | ((with_reducible show rIxT _ _ _ _ _); refine Wk.r_ixT (by walk_at "sq") (by rfl) ?_)
  | ((with_reducible show rLenOf _ _ _ _); first | refine Wk.n_lenL (by walk_at "sq") ?_ | refine Wk.n_lenT (by walk_at "sq") ?_)
  | ((with_reducible show rListOf _ _ _ _); first | refine Wk.n_listL (by walk_at "sq") ?_ | refine Wk.n_listT (by walk_at "sq") ?_)
  | ((with_reducible show rTupZ _ _ _ _); first | refine Wk.z_tupL (by walk_at "sq") ?_ | refine Wk.z_tupT (by walk_at "sq") ?_)
  | ((with_reducible show rTupOf _ _ _ _); first | refine Wk.n_tupL (by walk_at "sq") ?_ | refine Wk.n_tupT (by walk_at "sq") ?_))
local macro_rules | `(tactic| walk_at "rd") => `(tactic| repeat (walk_at "rd1"))

section
variable {X : Cx}
theorem c_all (K : PySem.W.Frag) (hc : X.calm = true) (hK : X.K = K := by rfl) : CallR X (.builtin "all") (rAll K) := by subst hK; exact cr_all hc
end
section
variable {P : Program} {w : World} {K : PySem.W.Frag} {mg : Str → Option Value} {base : Heap} {x : PySem.Str} {es : List Expr} {e o : Expr}
/-- the class of groups in the text -/
structure TxG (K : PySem.W.Frag) (mg : Str → Option Value) (C : Addr) : Prop extends Txt mg where
  cl : Cls K C
  nT : NoAttr K C "table"
  nS : NoAttr K C "size"
  nN : NoAttr K C "neutral"
  nI : NoAttr K C "_inverses"
  n_Group : mg "Group" = some (.ref C)
  n_MOST_MEMBERS : ∃ t, mg "MOST_MEMBERS" = some (.int 48 t)
  iA : PySem.W.findIn K (.ref C) "__class__" = some (some (.builtin "object.__class__"))
  iB : PySem.W.specialIn K (.builtin "object.__class__") "__get__" = some (some (.builtin "getset_descriptor.__get__"))
  iC : PySem.W.takesIn K (.builtin "object.__class__") = some true
  iD : PySem.W.mroIn K C (.type "object") = some true
def gf (t iv : Addr) (n e : Nat) : List (Str × V) := putF "_inverses" (.ref iv) (putF "neutral" (.int e) (putF "size" (.int n) (putF "table" (.ref t) [])))
theorem ne_ts : ¬ (("table" : Str) = "size") := by decide +kernel
theorem ne_tn : ¬ (("table" : Str) = "neutral") := by decide +kernel
theorem ne_ti : ¬ (("table" : Str) = "_inverses") := by decide +kernel
theorem ne_sn : ¬ (("size" : Str) = "neutral") := by decide +kernel
theorem ne_si : ¬ (("size" : Str) = "_inverses") := by decide +kernel
theorem ne_ni : ¬ (("neutral" : Str) = "_inverses") := by decide +kernel
section
variable {t iv : Addr} {n e' : Nat}
theorem gf_table : (gf t iv n e').lookup ("table" : Str) = some (.ref t) := by unfold gf; rw [lookup_putF, if_neg ne_ti, lookup_putF, if_neg ne_tn, lookup_putF, if_neg ne_ts, lookup_putF, if_pos rfl]
theorem gf_size : (gf t iv n e').lookup ("size" : Str) = some (.int n) := by unfold gf; rw [lookup_putF, if_neg ne_si, lookup_putF, if_neg ne_sn, lookup_putF, if_pos rfl]
theorem gf_neutral : (gf t iv n e').lookup ("neutral" : Str) = some (.int e') := by unfold gf; rw [lookup_putF, if_neg ne_ni, lookup_putF, if_pos rfl]
theorem gf_inverses : (gf t iv n e').lookup ("_inverses" : Str) = some (.ref iv) := by unfold gf; rw [lookup_putF, if_pos rfl]
theorem gf_no {m : Str} (h1 : ¬ m = "table") (h2 : ¬ m = "size") (h3 : ¬ m = "neutral") (h4 : ¬ m = "_inverses") : (gf t iv n e').lookup m = none := by
  unfold gf
  rw [lookup_putF, if_neg h4, lookup_putF, if_neg h3, lookup_putF, if_neg h2, lookup_putF, if_neg h1]
  rfl
end
/-- a tuple of tuples: the table of m -/
def TabT (K : PySem.W.Frag) (H : Hp) (a : Addr) (n : Nat) (m : Nat → Nat → Nat) : Prop := ∃ L, SqT K H a L ∧ Rows K H n m L
theorem TabT.mono {H H' : Hp} {a : Addr} {n : Nat} {m : Nat → Nat → Nat} (s : Same H H') (t : TabT K H a n m) : TabT K H' a n m := by
  obtain ⟨L, h, r⟩ := t
  exact ⟨L, s.sqT h, r.mono s⟩
/-- the object of a group: its attributes -/
structure GrpAt (K : PySem.W.Frag) (C : Addr) (H : Hp) (g : Addr) (n : Nat) (m : Nat → Nat → Nat) (dx t iv : Addr) (e : Nat) (inv : Nat → Nat) : Prop where
  ins : H g = some (.ins C dx (gf t iv n e))
  tab : TabT K H t n m
  invs : SqT K H iv (natsV n inv)
  ne : G.IsNe n m e
  iv_ok : ∀ x, x < n → inv x < n ∧ m x (inv x) = e ∧ m (inv x) x = e
  grp : G.Grp n m
  le : n ≤ 48
theorem GrpAt.mono {C : Addr} {H H' : Hp} {g : Addr} {n : Nat} {m : Nat → Nat → Nat} {dx t iv : Addr} {e : Nat} {inv : Nat → Nat} (s : Same H H') (h : GrpAt K C H g n m dx t iv e inv) : GrpAt K C H' g n m dx t iv e inv :=
  { h with ins := s _ _ h.ins, tab := h.tab.mono s, invs := s.sqT h.invs }

def spWhole : Sp := fun vs H Q _ => ∃ i : Int, vs = [.int i] ∧ Q (.bl true) H
theorem k_is_whole (T : Txt mg) (a : At K mg "is_whole" s_is_whole ["value"]) : Keep P w K mg base 1 "is_whole" ["value"] spWhole := by
  refine Keep.of a sc_is_whole (fun vs H Q E h => ?_) (fun f cdv A outer s H vs Q E hr h => ?_)
  · obtain ⟨i, rfl, _⟩ := h
    rfl
  · obtain ⟨i, rfl, kk⟩ := h
    refine ⟨_, (pss_one (ps_ret (pe_and (pe_callB call_isi (by rfl) T.n_isinstance (by decide +kernel) (pa_cons (pv 0) (pa_cons (pe_bltn (v := .ty "int") (u := .type "int") (by rfl) T.n_int (by decide +kernel) rfl) pa_nil))) (pe_one (pe_not (pe_callB call_isi (by rfl) T.n_isinstance (by decide +kernel) (pa_cons (pv 0) (pa_cons (pe_bltn (v := .ty "bool") (u := .type "bool") (by rfl) T.n_bool (by decide +kernel) rfl) pa_nil)))))))), ?_⟩
    walk_at "rd"
    refine n_isiB (b := true) (.base (.int _)) (by decide +kernel) ?_
    walk_at "rd"
    refine n_isiB (b := false) (.base (.int _)) (by decide +kernel) ?_
    walk_at "rd"
    exact kk
def spWithin : Sp := fun vs H Q _ => ∃ i a b : Int, vs = [.int i, .int a, .int b] ∧ Q (.bl (decide (a ≤ i) && decide (i ≤ b))) H
theorem k_is_within (T : Txt mg) (k_is_whole : Keep P w K mg base 1 "is_whole" ["value"] spWhole) (a : At K mg "is_within" s_is_within ["value", "least", "most"]) : Keep P w K mg base 2 "is_within" ["value", "least", "most"] spWithin := by
  refine Keep.of a sc_is_within (fun vs H Q E h => ?_) (fun f cdv A outer s H vs Q E hr h => ?_)
  · obtain ⟨i, a, b, rfl, _⟩ := h
    rfl
  · obtain ⟨i, a, b, rfl, kk⟩ := h
    refine ⟨_, (pss_one (ps_ret (pe_and (pe_k k_is_whole (hr.mono (by decide)) (by rfl) (pa_cons (pv 0) pa_nil)) (pe_one (pe_chain op_le op_le (pv 1) (pv 0) (pv 2)))))), ?_⟩
    walk_at "rd"
    refine ⟨i, rfl, ?_⟩
    walk_at "rd"
    refine r_if1 (fun c => ?_) (fun c => ?_)
    · walk_at "rd"
      rw [decide_eq_true c, Bool.true_and] at kk
      exact kk
    · rw [decide_eq_false c, Bool.false_and] at kk
      exact kk
def spSeq (K : PySem.W.Frag) : Sp := fun vs H Q _ => ∃ (a : Addr) (xs : List V), vs = [.ref a] ∧ (SqL K H a xs ∨ SqT K H a xs) ∧ ∀ H', Same H H' → Q (.bl true) H'
theorem k_is_sequence (T : Txt mg) (a : At K mg "is_sequence" s_is_sequence ["value"]) : Keep P w K mg base 1 "is_sequence" ["value"] (spSeq K) := by
  refine Keep.of a sc_is_sequence (fun vs H Q E h => ?_) (fun f cdv A outer s H vs Q E hr h => ?_)
  · obtain ⟨a, xs, rfl, _⟩ := h
    rfl
  · obtain ⟨a, xs, rfl, hs, kk⟩ := h
    refine ⟨_, (pss_one (ps_ret (pe_callB call_isiT (by rfl) T.n_isinstance (by decide +kernel) (pa_cons (pv 0) (pa_cons (pe_tup (pa_cons (pe_bltn (v := .ty "tuple") (u := .type "tuple") (by rfl) T.n_tuple (by decide +kernel) rfl) (pa_cons (pe_bltn (v := .ty "list") (u := .type "list") (by rfl) T.n_list (by decide +kernel) rfl) pa_nil))) pa_nil))))), ?_⟩
    walk_at "rd"
    intro t ht
    have s1 := same_new (o := .tup [.ty "tuple", .ty "list"]) ht
    rcases hs with hs | hs
    · refine n_isiT (b := true) upd_same (.cons (.ty _) (.cons (.ty _) .nil)) (sl_ty (s1.seq hs)) ?_ (kk _ s1)
      exact kitAny_cons (b := false) (kit_ty (by decide +kernel)) (fun _ => kitAny_cons (b := true) (kit_ty (by decide +kernel)) (fun z => by cases z) (fun _ => rfl)) (fun z => by cases z)
    · refine n_isiT (b := true) upd_same (.cons (.ty _) (.cons (.ty _) .nil)) (sq_ty (s1.sqT hs)) ?_ (kk _ s1)
      exact kitAny_cons (b := true) (kit_ty (by decide +kernel)) (fun z => by cases z) (fun _ => rfl)
def spMember (K : PySem.W.Frag) (C : Addr) (v : V) : Sp := fun vs H Q _ => ∃ (g dx t iv : Addr) (n e : Nat) (x : Nat), vs = [.ref g, .int x] ∧ H g = some (.ins C dx (gf t iv n e)) ∧ x < n ∧ Q v H
theorem k_is_member {C : Addr} (T : TxG K mg C) (k_is_within : Keep P w K mg base 2 "is_within" ["value", "least", "most"] spWithin) (a : At K mg "is_member" s_is_member ["group", "value"]) : Keep P w K mg base 3 "is_member" ["group", "value"] (spMember K C (.bl true)) := by
  refine Keep.of a sc_is_member (fun vs H Q E h => ?_) (fun f cdv A outer s H vs Q E hr h => ?_)
  · obtain ⟨_, _, _, _, _, _, _, rfl, _⟩ := h
    rfl
  · obtain ⟨g, dx, t, iv, n, e, x, rfl, hg, hx, kk⟩ := h
    refine ⟨_, (pss_one (ps_ret (pe_k k_is_within (hr.mono (by decide)) (by rfl) (pa_cons (pv 1) (pa_cons pe_int (pa_cons (pe_op op_sub (e_fld K (pv 0) rfl) pe_int) pa_nil)))))), ?_⟩
    walk_at "rd"
    refine ⟨_, _, _, _, _, rfl, hg, T.cl, T.nS, gf_size, ?_⟩
    walk_at "rd"
    refine ⟨_, _, _, rfl, ?_⟩
    have h1 : ((0 : Int) ≤ (x : Int)) := by omega
    have h2 : ((x : Int) ≤ (n : Int) - 1) := by omega
    rw [decide_eq_true h1, decide_eq_true h2]
    exact kk
theorem k_require_member {C : Addr} (T : TxG K mg C) (k_is_member : Keep P w K mg base 3 "is_member" ["group", "value"] (spMember K C (.bl true))) (a : At K mg "require_member" s_require_member ["group", "value"]) : Keep P w K mg base 4 "require_member" ["group", "value"] (spMember K C .non) := by
  refine Keep.of a sc_require_member (fun vs H Q E h => ?_) (fun f cdv A outer s H vs Q E hr h => ?_)
  · obtain ⟨_, _, _, _, _, _, _, rfl, _⟩ := h
    rfl
  · obtain ⟨g, dx, t, iv, n, e, x, rfl, hg, hx, kk⟩ := h
    refine ⟨_, (pss_one (ps_if (pt_not (pt_val (pe_k k_is_member (hr.mono (by decide)) (by rfl) (pa_cons (pv 0) (pa_cons (pv 1) pa_nil))))) (pss_one ps_never) pss_nil)), ?_⟩
    walk_at "rd"
    refine ⟨g, dx, t, iv, n, e, x, rfl, hg, hx, ?_⟩
    walk_at "rd"
    exact kk
end
end Wk
end
section
set_option Elab.async false
set_option linter.all false
set_option maxRecDepth 100000
namespace Wk
open PySem PySem.Spec PyProof.Rows L2
local macro_rules | `(tactic| walk_at "hp") => `(tactic| first | assumption | exact upd_same | exact (upd_ne (ne_of_none (by assumption) (by assumption))).trans (by assumption) | (rw [upd_ne (by first | assumption | exact Ne.symm (by assumption))]; walk_at "hp"))
local macro_rules | `(tactic| walk_at "sq") => `(tactic| first | assumption | exact SqL.of (by assumption) | exact SqT.of (by assumption) | exact SqL.of (by walk_at "hp") | exact SqT.of (by walk_at "hp") | (refine Same.seq ?_ ?_ <;> assumption))
local macro_rules | `(tactic| walk_at "cmul") => `(tactic| first | exact .inr ⟨by decide, by decide⟩ | exact .inl ⟨by decide, by decide⟩ | exact .inr ⟨by omega, by omega⟩ | exact .inl ⟨by omega, by omega⟩)
local macro_rules | `(tactic| walk_at "cdiv") => `(tactic| first | exact ⟨by decide, by decide⟩ | exact wide_div (b := 64) (by omega) (by omega) (by decide) (by decide) | exact wide_div (b := 128) (by omega) (by omega) (by decide) (by decide))
local macro_rules | `(tactic| walk_at "rd1") => `(tactic| first
  | ((with_reducible show tVar _ _ _ _); refine Wk.r_var rfl ?_)
  | (with_reducible first
    | refine Wk.r_c ?_ | refine Wk.r_op ?_ | refine Wk.r_cons ?_ | refine Wk.r_nil ?_
    | refine Wk.r_seq ?_ | refine Wk.r_next ?_ | refine Wk.r_set ?_ | refine Wk.r_asgS ?_ | refine Wk.r_ret ?_ | refine Wk.r_drop ?_ | refine Wk.r_if ?_
    | refine Wk.r_asgG ?_ | refine Wk.r_gName ?_ | refine Wk.r_gCons ?_ | refine Wk.r_gNil ?_ | refine Wk.r_par ?_ | refine Wk.r_par3 ?_ | refine Wk.r_lstRg1 ?_ | refine Wk.r_tupRg1 ?_ | refine ⟨_, _, _, rfl, ?_⟩ | refine Wk.r_un ?_ | refine Wk.r_I0 ?_ | refine Wk.r_U ?_
    | refine Wk.r_test ?_ | refine Wk.r_B ?_ | refine Wk.r_k ?_ | refine Wk.r_not ?_ | refine Wk.r_and ?_ | refine Wk.r_or ?_ | refine Wk.r_andV ?_ | refine Wk.r_orV ?_ | refine Wk.r_notV ?_
    | refine Wk.r_CB ?_ | refine Wk.r_chain ?_ | refine Wk.r_fld ?_ | refine Wk.r_sfld ?_ | refine Wk.r_lst ?_ | refine Wk.r_tup ?_ | refine Wk.r_call ?_ | refine Wk.r_BM ?_ | refine Wk.r_BM0 ?_ | refine Wk.r_T ?_ | refine Wk.r_nT ?_ | refine Wk.r_nF ?_ | refine Wk.r_F ?_
    | refine Or.inl ⟨_, rfl, ?_⟩ | refine Or.inr ⟨_, rfl, ?_⟩ | refine ⟨_, rfl, ?_⟩ | refine ⟨_, _, rfl, ?_⟩)
  | ((with_reducible refine Wk.r_eq ?c0 ?_); (case c0 => rfl)) | ((with_reducible refine Wk.r_ne ?c0 ?_); (case c0 => rfl))
  | ((with_reducible refine Wk.r_pow ?c0 ?_); (case c0 => exact ⟨by decide, by decide, by decide⟩))
  | ((with_reducible refine Wk.r_mul ?c0 ?_); (case c0 => walk_at "cmul")) | ((with_reducible refine Wk.r_mod ?c0 ?_); (case c0 => first | decide | omega)) | ((with_reducible refine Wk.r_div ?c0 ?_); (case c0 => walk_at "cdiv"))
  | ((with_reducible refine Wk.r_new ?c0 ?_); (case c0 => (simp only [List.length_cons, List.length_nil]; omega)))
  | ((with_reducible show gTup _ _ _ _ _ _ _); refine Wk.r_gTup (by walk_at "sq") (by rfl) ?_)
  | (refine Wk.r_tyL (by walk_at "hp") ?_)
  | ((with_reducible show rSetL _ _ _ _ _); refine Wk.r_setL (by walk_at "hp") (by rfl) ?_)
  | ((with_reducible show rIxL _ _ _ _ _); refine Wk.r_ixL (by walk_at "sq") (by rfl) ?_) | ((with_reducible show rIxT _ _ _ _ _); refine Wk.r_ixT (by walk_at "sq") (by rfl) ?_)
  | ((with_reducible show rLenOf _ _ _ _); first | refine Wk.n_lenL (by walk_at "sq") ?_ | refine Wk.n_lenT (by walk_at "sq") ?_)
  | ((with_reducible show rListOf _ _ _ _); first | refine Wk.n_listL (by walk_at "sq") ?_ | refine Wk.n_listT (by walk_at "sq") ?_)
  | ((with_reducible show rTupZ _ _ _ _); first | refine Wk.z_tupL (by walk_at "sq") ?_ | refine Wk.z_tupT (by walk_at "sq") ?_)
  | ((with_reducible show rTupOf _ _ _ _); first | refine Wk.n_tupL (by walk_at "sq") ?_ | refine Wk.n_tupT (by walk_at "sq") ?_))
local macro_rules | `(tactic| walk_at "rd") => `(tactic| repeat (walk_at "rd1"))

section
variable {P : Program} {w : World} {K : PySem.W.Frag} {mg : Str → Option Value} {base : Heap} {x : PySem.Str} {es : List Expr} {e o : Expr}
def SqS (K : PySem.W.Frag) (H : Hp) (a : Addr) (xs : List V) : Prop := SqL K H a xs ∨ SqT K H a xs
theorem SqS.mono {H H' : Hp} {a : Addr} {xs : List V} (s : Same H H') (h : SqS K H a xs) : SqS K H' a xs := h.imp (fun z => s.seq z) (fun z => s.sqT z)
/-- a list or tuple of lists or tuples: the table of m -/
def TabS (K : PySem.W.Frag) (H : Hp) (a : Addr) (n : Nat) (m : Nat → Nat → Nat) : Prop := ∃ L, SqS K H a L ∧ L.length = n ∧ ∀ x v, L[x]? = some v → ∃ b, v = V.ref b ∧ SqS K H b (rowV n m x)
theorem trues {L : List V} {n : Nat} (len : L.length = n) (r : ∀ (i : Nat) v, L[i]? = some v → v = V.bl true) : L = (List.replicate n true).map V.bl := by
  rw [List.map_replicate]
  exact List.eq_replicate_iff.mpr ⟨len, fun v hv => by
    obtain ⟨i, hi⟩ := List.mem_iff_getElem?.mp hv
    exact r i v hi⟩
theorem all_trues (n : Nat) : (List.replicate n true).all id = true := by simp
def spRow (K : PySem.W.Frag) : Sp := fun vs H Q _ => ∃ (a : Addr) (n x : Nat) (m : Nat → Nat → Nat), vs = [.ref a, .int n] ∧ n ≤ 48 ∧ SqS K H a (rowV n m x) ∧ (∀ y, y < n → m x y < n) ∧ ∀ H', Same H H' → Q (.bl true) H'
theorem k__is_row (T : Txt mg) (k_is_sequence : Keep P w K mg base 1 "is_sequence" ["value"] (spSeq K)) (k_is_within : Keep P w K mg base 2 "is_within" ["value", "least", "most"] spWithin) (a : At K mg "_is_row" s__is_row ["row", "size"]) : Keep P w K mg base 3 "_is_row" ["row", "size"] (spRow K) := by
  refine Keep.of a sc__is_row (fun vs H Q E h => ?_) (fun f cdv A outer s H vs Q E hr h => ?_)
  · obtain ⟨_, _, _, _, rfl, _⟩ := h
    rfl
  · obtain ⟨a, n, x, m, rfl, hn, hs, hm, kk⟩ := h
    refine ⟨_, (pss_cons (ps_if (PW.pt (pw_or (pt_not (pt_val (pe_k k_is_sequence (hr.mono (by decide)) (by rfl) (pa_cons (pv 0) pa_nil)))) (pw_or1 (pt_cmpR op_ne (pe_callB (c_len K) (by rfl) T.n_len (by decide +kernel) (pa_cons (pv 0) pa_nil)) (pv 1) (nomark _))))) (pss_one (ps_ret pe_bl)) pss_nil)
    (pss_one (ps_ret (pe_callB (c_all K rfl) (by rfl) T.n_all (by decide +kernel) (pa_cons (pe_lc (own := [("value", 2)]) rfl sc__is_row.nd (i_seq K (pv 0)) (blkOk_by (N := ["row", "size", "value"]) (sc := defScope s__is_row) (by decide +kernel)) (fun _ _ _ _ _ => (pg_name (i := 2) sc__is_row.nd rfl (by first | exact Or.inl rfl | exact Or.inr rfl))) (fun _ _ _ _ _ => pts_nil) (fun _ _ _ _ _ => (pe_k k_is_within (hr.mono (by decide)) (by rfl) (pa_cons (pv 2) (pa_cons pe_int (pa_cons (pe_op op_sub (pv 1) pe_int) pa_nil)))))) pa_nil))))), ?_⟩
    walk_at "rd"
    refine ⟨a, _, rfl, hs, fun H1 s1 => ?_⟩
    have hs1 := hs.mono s1
    walk_at "rd"
    rcases hs1 with hq | hq
    · refine n_lenL hq ?_
      rw [rowV_len]
      walk_at "rd"
      refine r_ifNI (fun c => absurd rfl c) (fun _ => ?_)
      walk_at "rd"
      refine tLc_inl (lc_lst (fun _ v _ => v = V.bl true) hq (by rw [rowV_len]; omega) (fun R' h => ?_) (fun i => mut_val) ?_ ?_)
      · walk_at "rd"
        exact h
      · intro i y H2 Q' hy s2 k
        have hi : i < n := by have := (List.getElem?_eq_some_iff.mp hy).1; rw [rowV_len] at this; exact this
        rw [rowV_get hi] at hy
        cases hy
        walk_at "rd"
        refine ⟨_, _, _, rfl, ?_⟩
        have := hm i hi
        rw [decide_eq_true (show (0 : Int) ≤ ((m x i : Nat) : Int) by omega), decide_eq_true (show ((m x i : Nat) : Int) ≤ (n : Int) - 1 by omega)]
        exact k _ _ (Same.refl _) rfl
      · intro D L H2 hD s2 hL len r
        walk_at "rd"
        rw [trues len r] at hL
        refine n_all (SqL.of hL) ?_
        rw [all_trues]
        exact kk _ (s1.trans s2)
    · refine n_lenT hq ?_
      rw [rowV_len]
      walk_at "rd"
      refine r_ifNI (fun c => absurd rfl c) (fun _ => ?_)
      walk_at "rd"
      refine tLc_inr (lc_tpl (fun _ v _ => v = V.bl true) hq (by rw [rowV_len]; omega) (fun R' h => ?_) (fun i => mut_val) ?_ ?_)
      · walk_at "rd"
        exact h
      · intro i y H2 Q' hy s2 k
        have hi : i < n := by have := (List.getElem?_eq_some_iff.mp hy).1; rw [rowV_len] at this; exact this
        rw [rowV_get hi] at hy
        cases hy
        walk_at "rd"
        refine ⟨_, _, _, rfl, ?_⟩
        have := hm i hi
        rw [decide_eq_true (show (0 : Int) ≤ ((m x i : Nat) : Int) by omega), decide_eq_true (show ((m x i : Nat) : Int) ≤ (n : Int) - 1 by omega)]
        exact k _ _ (Same.refl _) rfl
      · intro D L H2 hD s2 hL len r
        walk_at "rd"
        rw [trues len r] at hL
        refine n_all (SqL.of hL) ?_
        rw [all_trues]
        exact kk _ (s1.trans s2)
end
end Wk
end
section
set_option Elab.async false
set_option linter.all false
set_option maxRecDepth 100000
namespace Wk
open PySem PySem.Spec PyProof.Rows L2
local macro_rules | `(tactic| walk_at "hp") => `(tactic| first | assumption | exact upd_same | exact (upd_ne (ne_of_none (by assumption) (by assumption))).trans (by assumption) | (rw [upd_ne (by first | assumption | exact Ne.symm (by assumption))]; walk_at "hp"))
local macro_rules | `(tactic| walk_at "sq") => `(tactic| first | assumption | exact SqL.of (by assumption) | exact SqT.of (by assumption) | exact SqL.of (by walk_at "hp") | exact SqT.of (by walk_at "hp") | (refine Same.seq ?_ ?_ <;> assumption))
local macro_rules | `(tactic| walk_at "cmul") => `(tactic| first | exact .inr ⟨by decide, by decide⟩ | exact .inl ⟨by decide, by decide⟩ | exact .inr ⟨by omega, by omega⟩ | exact .inl ⟨by omega, by omega⟩)
local macro_rules | `(tactic| walk_at "cdiv") => `(tactic| first | exact ⟨by decide, by decide⟩ | exact wide_div (b := 64) (by omega) (by omega) (by decide) (by decide) | exact wide_div (b := 128) (by omega) (by omega) (by decide) (by decide))
local macro_rules | `(tactic| walk_at "rd1") => `(tactic| first
  | ((with_reducible show tVar _ _ _ _); refine Wk.r_var rfl ?_)
  | (with_reducible first
    | refine Wk.r_c ?_ | refine Wk.r_op ?_ | refine Wk.r_cons ?_ | refine Wk.r_nil ?_
    | refine Wk.r_seq ?_ | refine Wk.r_next ?_ | refine Wk.r_set ?_ | refine Wk.r_asgS ?_ | refine Wk.r_ret ?_ | refine Wk.r_drop ?_ | refine Wk.r_if ?_
    | refine Wk.r_asgG ?_ | refine Wk.r_gName ?_ | refine Wk.r_gCons ?_ | refine Wk.r_gNil ?_ | refine Wk.r_par ?_ | refine Wk.r_par3 ?_ | refine Wk.r_lstRg1 ?_ | refine Wk.r_tupRg1 ?_ | refine ⟨_, _, _, rfl, ?_⟩ | refine Wk.r_un ?_ | refine Wk.r_I0 ?_ | refine Wk.r_U ?_
    | refine Wk.r_test ?_ | refine Wk.r_B ?_ | refine Wk.r_k ?_ | refine Wk.r_not ?_ | refine Wk.r_and ?_ | refine Wk.r_or ?_ | refine Wk.r_andV ?_ | refine Wk.r_orV ?_ | refine Wk.r_notV ?_
    | refine Wk.r_CB ?_ | refine Wk.r_chain ?_ | refine Wk.r_fld ?_ | refine Wk.r_sfld ?_ | refine Wk.r_lst ?_ | refine Wk.r_tup ?_ | refine Wk.r_call ?_ | refine Wk.r_BM ?_ | refine Wk.r_BM0 ?_ | refine Wk.r_T ?_ | refine Wk.r_nT ?_ | refine Wk.r_nF ?_ | refine Wk.r_F ?_
    | refine Or.inl ⟨_, rfl, ?_⟩ | refine Or.inr ⟨_, rfl, ?_⟩ | refine ⟨_, rfl, ?_⟩ | refine ⟨_, _, rfl, ?_⟩)
  | ((with_reducible refine Wk.r_eq ?c0 ?_); (case c0 => rfl)) | ((with_reducible refine Wk.r_ne ?c0 ?_); (case c0 => rfl))
  | ((with_reducible refine Wk.r_pow ?c0 ?_); (case c0 => exact ⟨by decide, by decide, by decide⟩))
  | ((with_reducible refine Wk.r_mul ?c0 ?_); (case c0 => walk_at "cmul")) | ((with_reducible refine Wk.r_mod ?c0 ?_); (case c0 => first | decide | omega)) | ((with_reducible refine Wk.r_div ?c0 ?_); (case c0 => walk_at "cdiv"))
  | ((with_reducible refine Wk.r_new ?c0 ?_); (case c0 => (simp only [List.length_cons, List.length_nil]; omega)))
  | ((with_reducible show gTup _ _ _ _ _ _ _); refine Wk.r_gTup (by walk_at "sq") (by rfl) ?_)
  | (refine Wk.r_tyL (by walk_at "hp") ?_)
  | ((with_reducible show rSetL _ _ _ _ _); refine Wk.r_setL (by walk_at "hp") (by rfl) ?_)
  | ((with_reducible show rIxL _ _ _ _ _); refine Wk.r_ixL (by walk_at "sq") (by rfl) ?_) | ((with_reducible show rIxT _ _ _ _ _); refine Wk.r_ixT (by walk_at "sq") (by rfl) ?_)
  | ((with_reducible show rLenOf _ _ _ _); first | refine Wk.n_lenL (by walk_at "sq") ?_ | refine Wk.n_lenT (by walk_at "sq") ?_)
  | ((with_reducible show rListOf _ _ _ _); first | refine Wk.n_listL (by walk_at "sq") ?_ | refine Wk.n_listT (by walk_at "sq") ?_)
  | ((with_reducible show rTupZ _ _ _ _); first | refine Wk.z_tupL (by walk_at "sq") ?_ | refine Wk.z_tupT (by walk_at "sq") ?_)
  | ((with_reducible show rTupOf _ _ _ _); first | refine Wk.n_tupL (by walk_at "sq") ?_ | refine Wk.n_tupT (by walk_at "sq") ?_))
local macro_rules | `(tactic| walk_at "rd") => `(tactic| repeat (walk_at "rd1"))

section
variable {X : Cx}
theorem e_num {x : PySem.Str} {i : Int} {pos : Pos} (hg : Gl X x) (h : ∃ t, X.mg x = some (.int i t)) (hd : (x == ("__debug__" : PySem.Str)) = false := by decide) : PE X (.Name x pos) (tC (.int i)) := by
  obtain ⟨t, h⟩ := h
  exact pe_glob hg h ⟨t, rfl⟩ (hd := hd)
end
section
variable {P : Program} {w : World} {K : PySem.W.Frag} {mg : Str → Option Value} {base : Heap} {x : PySem.Str} {es : List Expr} {e o : Expr}
section
variable {ta : TA} {t : TS} {g : TG} {D : Ends} {σ : L2.St} {H : Hp} {a : Addr} {xs : List V}
theorem f_enumS (Pv : Nat → L2.St → Hp → Prop) (hs : SqS K H a xs) (hta : ∀ R' : List V → Hp → Prop, R' [.ref a] H → ta σ H R') (h0 : Pv 0 σ H) (hl : ∀ i σ' H', Pv i σ' H' → Same H H')
    (step : ∀ (i : Nat) x σ' H' T, xs[i]? = some x → Pv i σ' H' → H' T = none → g (.ref T) σ' (upd H' T (.tup [.int (i : Int), x])) fun σ2 H2 => TurnOf (Pv (i + 1)) D t σ2 H2) (done : ∀ σ' H', Pv xs.length σ' H' → D.nx σ' H') (gm : ∀ v σ H R R', (∀ σ H, R σ H → R' σ H) → g v σ H R → g v σ H R') : tFor (fun σ H R => iEnum K ta σ H R ∨ iEnumT K ta σ H R) g t D σ H := by
  rcases hs with hs | hs
  · exact tFor_inl (f_enumL Pv hs hta h0 (fun i σ' H' p => (hl i σ' H' p).seq hs) step done gm)
  · exact tFor_inr (f_enumT Pv hs hta h0 (fun i σ' H' p => (hl i σ' H' p).sqT hs) step done gm)
end
section
variable {j : Nat} {tl te : TE} {vs : List Nat} {σ : L2.St} {H : Hp} {Q : VK} {a : Addr} {xs : List V}
theorem lc_seq (R : Nat → V → Hp → Prop) (hs : SqS K H a xs) (hz : xs.length ≤ 50000) (htl : ∀ R' : V → Hp → Prop, R' (.ref a) H → tl σ H R') (mono : ∀ i, Mut (R i))
    (step : ∀ (i : Nat) x H1 (Q' : VK), xs[i]? = some x → Same H H1 → (∀ v H2, Same H1 H2 → R i v H2 → Q' v H2) → te ((wipe σ vs).set j (some x)) H1 Q')
    (done : ∀ D L H1, H D = none → Same H H1 → H1 D = some (.lst L) → L.length = xs.length → (∀ (i : Nat) v, L[i]? = some v → R i v H1) → Q (.ref D) H1) (hw : ∀ x, wipe ((wipe σ vs).set j (some x)) vs = wipe σ vs := by intro _; rfl) : tLc (fun σ H R => iList K tl σ H R ∨ iTup K tl σ H R) (gName j) tYes te vs σ H Q := by
  rcases hs with hs | hs
  · exact tLc_inl (lc_lst R hs hz htl mono step done hw)
  · exact tLc_inr (lc_tpl R hs hz htl mono step done hw)
theorem n_lenS {p : Addr} (hs : SqS K H p xs) (h : Q (.int xs.length) H) : rLenOf K [.ref p] H Q := ⟨p, xs, rfl, hs, h⟩
/-- tuple(..) of either -/
theorem n_tupS {p : Addr} (hs : SqS K H p xs) (h : ∀ b H', Same H H' → SqT K H' b xs → Q (.ref b) H') : rTupOf K [.ref p] H Q := by
  rcases hs with hs | hs
  · exact n_tupL hs fun l hl => h l _ (same_new hl) (SqT.of upd_same)
  · exact n_tupT hs (h p H (Same.refl _) hs)
end
theorem at_n {xs : List V} {x : Nat} {v : V} (h : xs[x]? = some v) : atI xs (x : Int) = some v := at_of rfl h
def spNeu (K : PySem.W.Frag) : Sp := fun vs H Q _ => ∃ (a : Addr) (n e : Nat) (m : Nat → Nat → Nat), vs = [.ref a] ∧ n ≤ 48 ∧ TabT K H a n m ∧ G.IsNe n m e ∧ ∀ H', Same H H' → Q (.int e) H'
theorem r_ifnL {A B : Prop} {b : Bool} (h1 : b = false → A) (h2 : b = true → B) : if (!b) = true then A else B := r_ifnB h1 h2
theorem Rows.row {H : Hp} {n : Nat} {m : Nat → Nat → Nat} {L : List V} (r : Rows K H n m L) {i : Nat} {y : V} (h : L[i]? = some y) : i < n ∧ ∃ b, y = V.ref b ∧ SqT K H b (rowV n m i) := by
  have hi : i < n := by have := (List.getElem?_eq_some_iff.mp h).1; rw [r.1] at this; exact this
  exact ⟨hi, r.2 i y h⟩
theorem bls_of {n : Nat} {f : Nat → Bool} : ((List.range n).map fun i => V.bl (f i)) = ((List.range n).map f).map V.bl := by rw [List.map_map]; rfl
theorem all_range_iff {n : Nat} {f : Nat → Bool} : (((List.range n).map f).all id = true) ↔ ∀ i, i < n → f i = true := by
  rw [List.all_map, List.all_eq_true]
  exact ⟨fun h i hi => h i (List.mem_range.mpr hi), fun h i hi => h i (List.mem_range.mp hi)⟩
theorem k__judged_neutral {C : Addr} (T : TxG K mg C) (a : At K mg "_judged_neutral" s__judged_neutral ["table"]) : Keep P w K mg base 1 "_judged_neutral" ["table"] (spNeu K) := by
  refine Keep.of a sc__judged_neutral (fun vs H Q E h => ?_) (fun f cdv A outer s H vs Q E hr h => ?_)
  · obtain ⟨_, _, _, _, rfl, _⟩ := h
    rfl
  · obtain ⟨a, n, e, m, rfl, hn, ⟨L, hs, hR⟩, he, kk⟩ := h
    refine ⟨_, (pss_cons (ps_for PassesOwn.never rfl (i_enumT K (by rfl) T.n_enumerate (pa_cons (pv 0) pa_nil)) (pg_tup rfl (pgs_cons (pg_name (i := 1) sc__judged_neutral.nd rfl (by first | exact Or.inl rfl | exact Or.inr rfl)) (pgs_cons (pg_name (i := 2) sc__judged_neutral.nd rfl (by first | exact Or.inl rfl | exact Or.inr rfl)) pgs_nil))) (pss_one (ps_if (pt_val (pe_callB (c_all K rfl) (by rfl) T.n_all (by decide +kernel) (pa_cons (pe_lc (own := [("x", 3)]) rfl sc__judged_neutral.nd (pi_range1 (by rfl) T.n_range (pa_cons (pe_callB (c_len K) (by rfl) T.n_len (by decide +kernel) (pa_cons (pv 0) pa_nil)) pa_nil)) (blkOk_by (N := ["table", "e", "row", "x"]) (sc := defScope s__judged_neutral) (by decide +kernel)) (fun _ _ _ _ _ => (pg_name (i := 3) sc__judged_neutral.nd rfl (by first | exact Or.inl rfl | exact Or.inr rfl))) (fun _ _ _ _ _ => pts_nil) (fun _ _ _ _ _ => (pe_and (pe_cmpR op_eq (pe_ix (x_tup K) (pv 2) (pv 3) (fun _ _ => rfl)) (pv 3) (nomark _)) (pe_one (pe_cmpR op_eq (pe_ix (x_tup K) (pe_ix (x_tup K) (pv 0) (pv 3) (fun _ _ => rfl)) (pv 1) (fun _ _ => rfl)) (pv 3) (nomark _)))))) pa_nil))) (pss_one (ps_ret (pv 1))) pss_nil)))
    (pss_one ps_never)), ?_⟩
    walk_at "rd"
    refine f_enumT (fun i σ' H' => ∃ v1 v2 v3 : Option V, σ' = [some (.ref a), v1, v2, v3] ∧ Same H H' ∧ i ≤ e) hs (fun R' h => ?_) ⟨_, _, _, rfl, Same.refl _, Nat.zero_le _⟩ (fun i σ' H' ⟨_, _, _, _, s, _⟩ => s.sqT hs) ?_ ?_ (fun v σ H R R' h q => g2_mono v σ H R R' h q)
    · walk_at "rd"
      exact h
    · rintro i y σ' H' Tp hy ⟨v1, v2, v3, rfl, s1, hie⟩ hTp
      obtain ⟨hi, b, rfl, hb⟩ := Rows.row hR hy
      have s2 := s1.trans (same_new (o := .tup [.int (i : Int), .ref b]) hTp)
      walk_at "rd"
      intro N B R hN hB hRt
      walk_at "rd"
      refine lc_rngV (n := n) (fun x => V.bl (decide (m i x = x) && decide (m x i = x))) (by omega) (fun R' h => ?_) ?_ ?_
      · have hs2 := s2.sqT hs
        walk_at "rd"
        rw [hR.1]
        exact h
      · intro x H3 Q' hx s3 k
        obtain ⟨bx, e2, hbx⟩ := hR.get hx
        have hs3 := (s2.trans s3).sqT hs
        have hb3 := (s2.trans s3).sqT hb
        have hbx3 := (s2.trans s3).sqT hbx
        walk_at "rd"
        refine Wk.r_ixT hb3 (at_n (rowV_get hx)) ?_
        walk_at "rd"
        refine r_ifI (fun c => ?_) (fun c => ?_)
        · walk_at "rd"
          refine Wk.r_ixT hs3 (at_n e2) ?_
          walk_at "rd"
          refine Wk.r_ixT hbx3 (at_n (rowV_get hi)) ?_
          walk_at "rd"
          have e3 : (V.bl (decide (V.int ((m x i : Nat) : Int) = V.int (x : Int)))) = V.bl (decide (m i x = x) && decide (m x i = x)) := by
            rw [decide_eq_true (show m i x = x by omega), Bool.true_and]
            congr 1
            exact decide_eq_decide.mpr ⟨fun h => by injection h with q; omega, fun h => by rw [h]⟩
          rw [e3]
          exact k _ (Same.refl _)
        · have e3 : V.bl false = V.bl (decide (m i x = x) && decide (m x i = x)) := by
            rw [decide_eq_false (show ¬ m i x = x by omega), Bool.false_and]
          rw [e3]
          exact k _ (Same.refl _)
      · intro D H3 hD s3 hL
        rw [bls_of] at hL
        walk_at "rd"
        refine n_all (SqL.of hL) ?_
        walk_at "rd"
        refine r_ifB (fun c => ?_) (fun c => ?_)
        · walk_at "rd"
          have q := all_range_iff.mp c
          have ne : G.IsNe n m i := ⟨hi, fun x hx => by have := q x hx; simp only [Bool.and_eq_true, decide_eq_true_eq] at this; exact this.1, fun x hx => by have := q x hx; simp only [Bool.and_eq_true, decide_eq_true_eq] at this; exact this.2⟩
          have ei : i = e := ne.uniq he
          subst ei
          exact hRt _ _ (kk _ (s2.trans s3))
        · walk_at "rd"
          refine hN _ _ ⟨_, _, _, rfl, s2.trans s3, ?_⟩
          have ne : i ≠ e := fun q => by
            subst q
            have := all_range_iff.mpr (fun x hx => show (decide (m i x = x) && decide (m x i = x)) = true by rw [decide_eq_true (he.l x hx), decide_eq_true (he.r x hx)]; rfl)
            rw [this] at c
            cases c
          omega
    · rintro σ' H' ⟨v1, v2, v3, rfl, s1, hie⟩
      exfalso
      have := he.lt
      rw [hR.1] at hie
      omega
def spRows (K : PySem.W.Frag) : Sp := fun vs H Q _ => ∃ (a : Addr) (n : Nat) (m : Nat → Nat → Nat), vs = [.ref a] ∧ 0 < n ∧ n ≤ 48 ∧ TabS K H a n m ∧ (∀ x y, x < n → y < n → m x y < n) ∧ ∀ H' b, Same H H' → TabT K H' b n m → Q (.ref b) H'
theorem r_truth {ta : TE} {σ : L2.St} {H : Hp} {Q : Bool → Hp → Prop} {R : V → Hp → (Bool → Hp → Prop) → Prop} (h : ta σ H fun x H1 => R x H1 Q) : (fun (σ : L2.St) (H : Hp) (Q : Bool → Hp → Prop) => ta σ H fun x H1 => R x H1 Q) σ H Q := h
theorem k__judged_rows {C : Addr} (T : TxG K mg C) (k_is_sequence : Keep P w K mg base 1 "is_sequence" ["value"] (spSeq K)) (k__is_row : Keep P w K mg base 3 "_is_row" ["row", "size"] (spRow K)) (a : At K mg "_judged_rows" s__judged_rows ["table"]) : Keep P w K mg base 4 "_judged_rows" ["table"] (spRows K) := by
  refine Keep.of a sc__judged_rows (fun vs H Q E h => ?_) (fun f cdv A outer s H vs Q E hr h => ?_)
  · obtain ⟨_, _, _, rfl, _⟩ := h
    rfl
  · obtain ⟨a, n, m, rfl, h0, hn, ⟨L, hs, hL, hrow⟩, hm, kk⟩ := h
    refine ⟨_, (pss_cons (ps_if (PW.pt (pw_or (pt_not (pt_val (pe_k k_is_sequence (hr.mono (by decide)) (by rfl) (pa_cons (pv 0) pa_nil)))) (pw_or1 (pt_not (pt_chain op_le op_le pe_int (pe_callB (c_len K) (by rfl) T.n_len (by decide +kernel) (pa_cons (pv 0) pa_nil)) (e_num (by rfl) T.n_MOST_MEMBERS)))))) (pss_one ps_never) pss_nil)
    (pss_cons (ps_set (i := 1) sc__judged_rows.nd rfl (by first | exact Or.inl rfl | exact Or.inr rfl) (pe_callB (c_len K) (by rfl) T.n_len (by decide +kernel) (pa_cons (pv 0) pa_nil)))
    (pss_cons (ps_for PassesOwn.never rfl (i_enumS K (by rfl) T.n_enumerate (pa_cons (pv 0) pa_nil)) (pg_tup rfl (pgs_cons (pg_name (i := 2) sc__judged_rows.nd rfl (by first | exact Or.inl rfl | exact Or.inr rfl)) (pgs_cons (pg_name (i := 3) sc__judged_rows.nd rfl (by first | exact Or.inl rfl | exact Or.inr rfl)) pgs_nil))) (pss_one (ps_if (pt_not (pt_val (pe_k k__is_row (hr.mono (by decide)) (by rfl) (pa_cons (pv 3) (pa_cons (pv 1) pa_nil))))) (pss_one ps_never) pss_nil)))
    (pss_one (ps_ret (pe_callTy (c_tup K) (by rfl) T.n_tuple (by decide +kernel) (pa_cons (pe_lc (own := [("row", 3)]) rfl sc__judged_rows.nd (i_seq K (pv 0)) (blkOk_by (N := ["table", "size", "x", "row"]) (sc := defScope s__judged_rows) (by decide +kernel)) (fun _ _ _ _ _ => (pg_name (i := 3) sc__judged_rows.nd rfl (by first | exact Or.inl rfl | exact Or.inr rfl))) (fun _ _ _ _ _ => pts_nil) (fun _ _ _ _ _ => (pe_callTy (c_tup K) (by rfl) T.n_tuple (by decide +kernel) (pa_cons (pv 3) pa_nil)))) pa_nil))))))), ?_⟩
    walk_at "rd"
    refine ⟨a, _, rfl, hs, fun H1 s1 => ?_⟩
    have hs1 : SqS K H1 a L := SqS.mono s1 hs
    walk_at "rd"
    refine n_lenS hs1 ?_
    rw [hL]
    walk_at "rd"
    refine r_if1 (fun _ => ?_) (fun c => absurd (show (1 : Int) ≤ n by omega) c)
    walk_at "rd"
    rw [decide_eq_true (show (n : Int) ≤ 48 by omega)]
    walk_at "rd"
    refine n_lenS hs1 ?_
    rw [hL]
    walk_at "rd"
    refine f_enumS (fun i σ' H' => ∃ v2 v3 : Option V, σ' = [some (.ref a), some (.int n), v2, v3] ∧ Same H1 H') hs1 (fun R' h => ?_) ⟨_, _, rfl, Same.refl _⟩ (fun i σ' H' ⟨_, _, _, s⟩ => s) ?_ ?_ (fun v σ H R R' h q => g2_mono v σ H R R' h q)
    · walk_at "rd"
      exact h
    · rintro i y σ' H' Tp hy ⟨v2, v3, rfl, s2⟩ hTp
      obtain ⟨b, rfl, hb⟩ := hrow i y hy
      have hi : i < n := by have := (List.getElem?_eq_some_iff.mp hy).1; omega
      have s3 := s2.trans (same_new (o := .tup [.int (i : Int), .ref b]) hTp)
      walk_at "rd"
      intro N B R hN hB hR
      walk_at "rd"
      refine ⟨b, n, i, m, rfl, hn, hb.mono (s1.trans s3), fun y hy => hm i y hi hy, fun H4 s4 => ?_⟩
      walk_at "rd"
      exact hN _ _ ⟨_, _, rfl, s3.trans s4⟩
    · rintro σ' H' ⟨v2, v3, rfl, s2⟩
      have hs2 := hs1.mono s2
      walk_at "rd"
      refine lc_seq (fun i v H' => ∃ b, v = V.ref b ∧ SqT K H' b (rowV n m i)) hs2 (by omega) (fun R' h => ?_) (fun i => mut_row) ?_ ?_
      · walk_at "rd"
        exact h
      · intro i y H3 Q' hy s3 k
        obtain ⟨b, rfl, hb⟩ := hrow i y hy
        walk_at "rd"
        refine n_tupS (hb.mono ((s1.trans s2).trans s3)) fun b' H4 s4 hb' => ?_
        exact k _ _ s4 ⟨b', rfl, hb'⟩
      · intro D L' H3 hD s3 hL' len r
        walk_at "rd"
        intro t ht
        have s4 := same_new (o := .tup L') ht
        exact kk _ _ (((s1.trans s2).trans s3).trans s4) ⟨L', SqT.of upd_same, Rows.mono s4 ⟨by rw [len, hL], r⟩⟩
end
end Wk
end
section
set_option Elab.async false
set_option linter.all false
set_option maxRecDepth 100000
namespace Wk
open PySem PySem.Spec PyProof.Rows L2
local macro_rules | `(tactic| walk_at "hp") => `(tactic| first | assumption | exact upd_same | exact (upd_ne (ne_of_none (by assumption) (by assumption))).trans (by assumption) | (rw [upd_ne (by first | assumption | exact Ne.symm (by assumption))]; walk_at "hp"))
local macro_rules | `(tactic| walk_at "sq") => `(tactic| first | assumption | exact SqL.of (by assumption) | exact SqT.of (by assumption) | exact SqL.of (by walk_at "hp") | exact SqT.of (by walk_at "hp") | (refine Same.seq ?_ ?_ <;> assumption))
local macro_rules | `(tactic| walk_at "cmul") => `(tactic| first | exact .inr ⟨by decide, by decide⟩ | exact .inl ⟨by decide, by decide⟩ | exact .inr ⟨by omega, by omega⟩ | exact .inl ⟨by omega, by omega⟩)
local macro_rules | `(tactic| walk_at "cdiv") => `(tactic| first | exact ⟨by decide, by decide⟩ | exact wide_div (b := 64) (by omega) (by omega) (by decide) (by decide) | exact wide_div (b := 128) (by omega) (by omega) (by decide) (by decide))
local macro_rules | `(tactic| walk_at "rd1") => `(tactic| first
  | ((with_reducible show tVar _ _ _ _); refine Wk.r_var rfl ?_)
  | (with_reducible first
    | refine Wk.r_c ?_ | refine Wk.r_op ?_ | refine Wk.r_cons ?_ | refine Wk.r_nil ?_
    | refine Wk.r_seq ?_ | refine Wk.r_next ?_ | refine Wk.r_set ?_ | refine Wk.r_asgS ?_ | refine Wk.r_ret ?_ | refine Wk.r_drop ?_ | refine Wk.r_if ?_
    | refine Wk.r_asgG ?_ | refine Wk.r_gName ?_ | refine Wk.r_gCons ?_ | refine Wk.r_gNil ?_ | refine Wk.r_par ?_ | refine Wk.r_par3 ?_ | refine Wk.r_lstRg1 ?_ | refine Wk.r_tupRg1 ?_ | refine ⟨_, _, _, rfl, ?_⟩ | refine Wk.r_un ?_ | refine Wk.r_I0 ?_ | refine Wk.r_U ?_
    | refine Wk.r_test ?_ | refine Wk.r_B ?_ | refine Wk.r_k ?_ | refine Wk.r_not ?_ | refine Wk.r_and ?_ | refine Wk.r_or ?_ | refine Wk.r_andV ?_ | refine Wk.r_orV ?_ | refine Wk.r_notV ?_
    | refine Wk.r_CB ?_ | refine Wk.r_chain ?_ | refine Wk.r_fld ?_ | refine Wk.r_sfld ?_ | refine Wk.r_lst ?_ | refine Wk.r_tup ?_ | refine Wk.r_call ?_ | refine Wk.r_BM ?_ | refine Wk.r_BM0 ?_ | refine Wk.r_T ?_ | refine Wk.r_nT ?_ | refine Wk.r_nF ?_ | refine Wk.r_F ?_
    | refine Or.inl ⟨_, rfl, ?_⟩ | refine Or.inr ⟨_, rfl, ?_⟩ | refine ⟨_, rfl, ?_⟩ | refine ⟨_, _, rfl, ?_⟩)
  | ((with_reducible refine Wk.r_eq ?c0 ?_); (case c0 => rfl)) | ((with_reducible refine Wk.r_ne ?c0 ?_); (case c0 => rfl))
  | ((with_reducible refine Wk.r_pow ?c0 ?_); (case c0 => exact ⟨by decide, by decide, by decide⟩))
  | ((with_reducible refine Wk.r_mul ?c0 ?_); (case c0 => walk_at "cmul")) | ((with_reducible refine Wk.r_mod ?c0 ?_); (case c0 => first | decide | omega)) | ((with_reducible refine Wk.r_div ?c0 ?_); (case c0 => walk_at "cdiv"))
  | ((with_reducible refine Wk.r_new ?c0 ?_); (case c0 => (simp only [List.length_cons, List.length_nil]; omega)))
  | ((with_reducible show gTup _ _ _ _ _ _ _); refine Wk.r_gTup (by walk_at "sq") (by rfl) ?_)
  | (refine Wk.r_tyL (by walk_at "hp") ?_)
  | ((with_reducible show rSetL _ _ _ _ _); refine Wk.r_setL (by walk_at "hp") (by rfl) ?_)
  | ((with_reducible show rIxL _ _ _ _ _); refine Wk.r_ixL (by walk_at "sq") (by rfl) ?_) | ((with_reducible show rIxT _ _ _ _ _); refine Wk.r_ixT (by walk_at "sq") (by rfl) ?_)
  | ((with_reducible show rLenOf _ _ _ _); first | refine Wk.n_lenL (by walk_at "sq") ?_ | refine Wk.n_lenT (by walk_at "sq") ?_)
  | ((with_reducible show rListOf _ _ _ _); first | refine Wk.n_listL (by walk_at "sq") ?_ | refine Wk.n_listT (by walk_at "sq") ?_)
  | ((with_reducible show rTupZ _ _ _ _); first | refine Wk.z_tupL (by walk_at "sq") ?_ | refine Wk.z_tupT (by walk_at "sq") ?_)
  | ((with_reducible show rTupOf _ _ _ _); first | refine Wk.n_tupL (by walk_at "sq") ?_ | refine Wk.n_tupT (by walk_at "sq") ?_))
local macro_rules | `(tactic| walk_at "rd") => `(tactic| repeat (walk_at "rd1"))

section
variable {X : Cx}
theorem g_tupK (K : PySem.W.Frag) (n : Nat) {pos : Pos} {es : List Expr} {k : Nat} {t : TGs} (hc : X.calm = true) (h : PGs X es t) (hn : (assignEach es X.env).length = n := by rfl) (hst : (assignEach es X.env).findIdx? (·.1) = none := by rfl) (hK : X.K = K := by rfl) : PG X (.Tuple es k pos) (gTup K n t) := by
  subst hK
  exact pg_tup hc h hn hst
end
section
variable {P : Program} {w : World} {K : PySem.W.Frag} {mg : Str → Option Value} {base : Heap} {x : PySem.Str} {es : List Expr} {e o : Expr}
/-- the partner that is found first -/
def invF (n : Nat) (m : Nat → Nat → Nat) (e x : Nat) : Nat := (((List.range n).filter fun y => decide (m x y = e) && decide (m y x = e)).head?).getD 0
theorem inv_ok {n e : Nat} {m : Nat → Nat → Nat} (g : G.Grp n m) (he : G.IsNe n m e) {x : Nat} (hx : x < n) :
    ((List.range n).filter fun y => decide (m x y = e) && decide (m y x = e))[0]? = some (invF n m e x) ∧ invF n m e x < n ∧ m x (invF n m e x) = e ∧ m (invF n m e x) x = e := by
  obtain ⟨e', he', hi⟩ := g.ne
  have ee : e' = e := he'.uniq he
  subst ee
  obtain ⟨y, hy, h1, h2⟩ := hi x hx
  have mem : y ∈ (List.range n).filter fun y => decide (m x y = e') && decide (m y x = e') := by
    rw [List.mem_filter]
    exact ⟨List.mem_range.mpr hy, by rw [decide_eq_true h1, decide_eq_true h2]; rfl⟩
  unfold invF
  cases hq : (List.range n).filter fun y => decide (m x y = e') && decide (m y x = e') with
  | nil => rw [hq] at mem; cases mem
  | cons z r =>
    have hz : z ∈ (List.range n).filter fun y => decide (m x y = e') && decide (m y x = e') := by rw [hq]; exact List.mem_cons_self
    rw [List.mem_filter] at hz
    obtain ⟨z1, z2⟩ := hz
    simp only [Bool.and_eq_true, decide_eq_true_eq] at z2
    exact ⟨rfl, List.mem_range.mp z1, z2.1, z2.2⟩
def spInvs (K : PySem.W.Frag) : Sp := fun vs H Q _ => ∃ (a : Addr) (n e : Nat) (m : Nat → Nat → Nat), vs = [.ref a, .int e] ∧ n ≤ 48 ∧ TabT K H a n m ∧ G.Grp n m ∧ G.IsNe n m e ∧ ∀ H' b, Same H H' → SqT K H' b (natsV n (invF n m e)) → Q (.ref b) H'
theorem int_dec {a b : Nat} : decide (V.int (a : Int) = V.int (b : Int)) = decide (a = b) := decide_eq_decide.mpr ⟨fun h => by injection h with q; omega, fun h => by rw [h]⟩
theorem k__judged_inverses {C : Addr} (T : TxG K mg C) (a : At K mg "_judged_inverses" s__judged_inverses ["table", "neutral"]) : Keep P w K mg base 1 "_judged_inverses" ["table", "neutral"] (spInvs K) := by
  refine Keep.of a sc__judged_inverses (fun vs H Q E h => ?_) (fun f cdv A outer s H vs Q E hr h => ?_)
  · obtain ⟨_, _, _, _, rfl, _⟩ := h
    rfl
  · obtain ⟨a, n, e, m, rfl, hn, ⟨L, hs, hR⟩, g, he, kk⟩ := h
    refine ⟨_, (pss_cons (ps_set (i := 2) sc__judged_inverses.nd rfl (by first | exact Or.inl rfl | exact Or.inr rfl) (pe_lst pa_nil))
    (pss_cons (ps_for PassesOwn.never rfl (i_enumT K (by rfl) T.n_enumerate (pa_cons (pv 0) pa_nil)) (pg_tup rfl (pgs_cons (pg_name (i := 3) sc__judged_inverses.nd rfl (by first | exact Or.inl rfl | exact Or.inr rfl)) (pgs_cons (pg_name (i := 4) sc__judged_inverses.nd rfl (by first | exact Or.inl rfl | exact Or.inr rfl)) pgs_nil))) (pss_cons (ps_setLc (i := 7) (own := [("y", 5), ("xy", 6)]) rfl sc__judged_inverses.nd rfl rfl (sw_true rfl rfl rfl (by decide +kernel)) (i_enumT K (by rfl) T.n_enumerate (pa_cons (pv 4) pa_nil)) (blkOk_by (N := ["table", "neutral", "inverses", "x", "row", "y", "xy", "partners"]) (sc := defScope s__judged_inverses) (by decide +kernel)) (fun _ _ _ _ _ => (g_tupK K 2 rfl (pgs_cons (pg_name (i := 5) sc__judged_inverses.nd rfl (by first | exact Or.inl rfl | exact Or.inr rfl)) (pgs_cons (pg_name (i := 6) sc__judged_inverses.nd rfl (by first | exact Or.inl rfl | exact Or.inr rfl)) pgs_nil)))) (fun _ _ _ _ _ => (pts_one (PW.pt (pw_and (pt_cmpR op_eq (pv 6) (pv 1) (nomark _)) (pw_and1 (pt_cmpR op_eq (pe_ix (x_tup K) (pe_ix (x_tup K) (pv 0) (pv 5) (fun _ _ => rfl)) (pv 3) (fun _ _ => rfl)) (pv 1) (nomark _))))))) (fun _ _ _ _ _ => (pv 5)))
    (pss_cons (ps_if (pt_not (pt_truth (pv 7) (by intro _; rfl))) (pss_one ps_never) pss_nil)
    (pss_one (ps_expr (e_bm K PySem.F.plainAttrs_list PySem.F.slot_list_append PySem.F.type_list_append mt_append (pv 2) (pa_cons (pe_ix (x_list K) (pv 7) pe_int (fun _ _ => rfl)) pa_nil)))))))
    (pss_one (ps_ret (pe_callTy (c_tup K) (by rfl) T.n_tuple (by decide +kernel) (pa_cons (pv 2) pa_nil)))))), ?_⟩
    walk_at "rd"
    intro D hD
    walk_at "rd"
    have s0 := same_new (o := .lst []) hD
    refine f_enumT (fun i σ' H' => ∃ v3 v4 v5 v6 v7 : Option V, σ' = [some (.ref a), some (.int e), some (.ref D), v3, v4, v5, v6, v7] ∧ Grow (fun i v _ => v = V.int ((invF n m e i : Nat) : Int)) H D i H') (s0.sqT hs) (fun R' h => ?_) ⟨_, _, _, _, _, rfl, Grow.start hD⟩ (fun i σ' H' ⟨_, _, _, _, _, _, g⟩ => g.same.sqT hs) ?_ ?_ (fun v σ H R R' h q => g2_mono v σ H R R' h q)
    · walk_at "rd"
      exact h
    · rintro i y σ' H' Tp hy ⟨v3, v4, v5, v6, v7, rfl, gw⟩ hTp
      obtain ⟨hi, b, rfl, hb⟩ := Rows.row hR hy
      have s1 := same_new (o := .tup [.int (i : Int), .ref b]) hTp
      have s2 := gw.same.trans s1
      walk_at "rd"
      intro N B R hN hB hRt
      walk_at "rd"
      have mono : ∀ i, Mut ((fun i v _ => v = V.int ((invF n m e i : Nat) : Int)) i) := fun i => mut_val
      refine lc_enumF (fun y => decide (m i y = e) && decide (m y i = e)) (fun y => V.int (y : Int)) (s2.sqT hb) (by rw [rowV_len]; omega) (fun R' h => ?_) ?_ ?_ ?_
      · walk_at "rd"
        exact h
      · intro y z H3 QT hz s3 k
        have hy : y < n := by have := (List.getElem?_eq_some_iff.mp hz).1; rw [rowV_len] at this; exact this
        rw [rowV_get hy] at hz
        cases hz
        obtain ⟨by_, e2, hby⟩ := hR.get hy
        have hs3 := (s2.trans s3).sqT hs
        have hby3 := (s2.trans s3).sqT hby
        walk_at "rd"
        rw [int_dec]
        refine r_if1 (fun c => ?_) (fun c => ?_)
        · rw [decide_eq_true c, Bool.true_and] at k
          walk_at "rd"
          refine Wk.r_ixT hs3 (at_n e2) ?_
          walk_at "rd"
          refine Wk.r_ixT hby3 (at_n (rowV_get hi)) ?_
          walk_at "rd"
          rw [int_dec]
          exact k _ (Same.refl _)
        · rw [decide_eq_false c, Bool.false_and] at k
          exact k _ (Same.refl _)
      · intro y z H3 QT hz _ s3 k
        walk_at "rd"
        exact k _ (Same.refl _)
      · intro D2 H3 hD2 s3 hL2
        rw [rowV_len] at hL2
        obtain ⟨q0, q1, q2, q3⟩ := inv_ok g he hi
        have hl2 : (Evl.given n (fun y => decide (m i y = e) && decide (m y i = e)) (fun y => V.int (y : Int)))[0]? = some (V.int ((invF n m e i : Nat) : Int)) := by
          unfold Evl.given
          rw [List.getElem?_map, q0]
          rfl
        walk_at "rd"
        refine ⟨true, ?_, ?_⟩
        · refine .inl ⟨_, SqL.of hL2, ?_⟩
          cases hg : Evl.given n (fun y => decide (m i y = e) && decide (m y i = e)) (fun y => V.int (y : Int)) with
          | nil => rw [hg] at hl2; cases hl2
          | cons _ _ => rfl
        walk_at "rd"
        obtain ⟨Li, hLi, lenI, _⟩ := (gw.mono mono (s1.trans s3)).lst
        have hLi3 := hLi
        walk_at "rd"
        refine Wk.r_ixL (SqL.of hL2) (at_n (x := 0) hl2) ?_
        walk_at "rd"
        refine Wk.r_append hLi (szlt (by omega)) ?_
        exact hN _ _ ⟨_, _, _, _, _, rfl, (gw.mono mono (s1.trans s3)).snoc mono hLi rfl⟩
    · rintro σ' H' ⟨v3, v4, v5, v6, v7, rfl, gw⟩
      obtain ⟨Li, hLi, lenI, rI⟩ := gw.lst
      have eL : Li = natsV n (invF n m e) := list_eq (by rw [lenI, hR.1]) rI
      walk_at "rd"
      intro t ht
      exact kk _ _ (gw.same.trans (same_new ht)) (SqT.of (by rw [upd_same, eL]))
def spProds (K : PySem.W.Frag) : Sp := fun vs H Q _ => ∃ (a : Addr) (n : Nat) (m : Nat → Nat → Nat), vs = [.ref a] ∧ n ≤ 48 ∧ TabT K H a n m ∧ G.Grp n m ∧ ∀ H', Same H H' → Q .non H'
theorem k__judge_products {C : Addr} (T : TxG K mg C) (a : At K mg "_judge_products" s__judge_products ["table"]) : Keep P w K mg base 1 "_judge_products" ["table"] (spProds K) := by
  refine Keep.of a sc__judge_products (fun vs H Q E h => ?_) (fun f cdv A outer s H vs Q E hr h => ?_)
  · obtain ⟨_, _, _, rfl, _⟩ := h
    rfl
  · obtain ⟨a, n, m, rfl, hn, ⟨L, hs, hR⟩, g, kk⟩ := h
    refine ⟨_, (pss_one (ps_for PassesOwn.never rfl (i_enumT K (by rfl) T.n_enumerate (pa_cons (pv 0) pa_nil)) (pg_tup rfl (pgs_cons (pg_name (i := 1) sc__judge_products.nd rfl (by first | exact Or.inl rfl | exact Or.inr rfl)) (pgs_cons (pg_name (i := 2) sc__judge_products.nd rfl (by first | exact Or.inl rfl | exact Or.inr rfl)) pgs_nil))) (pss_one (ps_for PassesOwn.never rfl (i_enumT K (by rfl) T.n_enumerate (pa_cons (pv 2) pa_nil)) (pg_tup rfl (pgs_cons (pg_name (i := 3) sc__judge_products.nd rfl (by first | exact Or.inl rfl | exact Or.inr rfl)) (pgs_cons (pg_name (i := 4) sc__judge_products.nd rfl (by first | exact Or.inl rfl | exact Or.inr rfl)) pgs_nil))) (pss_one (ps_for PassesOwn.never rfl (i_enumT K (by rfl) T.n_enumerate (pa_cons (pe_ix (x_tup K) (pv 0) (pv 3) (fun _ _ => rfl)) pa_nil)) (pg_tup rfl (pgs_cons (pg_name (i := 5) sc__judge_products.nd rfl (by first | exact Or.inl rfl | exact Or.inr rfl)) (pgs_cons (pg_name (i := 6) sc__judge_products.nd rfl (by first | exact Or.inl rfl | exact Or.inr rfl)) pgs_nil))) (pss_one (ps_if (pt_cmpR op_ne (pe_ix (x_tup K) (pe_ix (x_tup K) (pv 0) (pv 4) (fun _ _ => rfl)) (pv 5) (fun _ _ => rfl)) (pe_ix (x_tup K) (pv 2) (pv 6) (fun _ _ => rfl)) (nomark _)) (pss_one ps_never) pss_nil)))))))), ?_⟩
    walk_at "rd"
    refine f_enumT (fun i σ' H' => ∃ v1 v2 v3 v4 v5 v6 : Option V, σ' = [some (.ref a), v1, v2, v3, v4, v5, v6] ∧ Same H H') hs (fun R' h => ?_) ⟨_, _, _, _, _, _, rfl, Same.refl _⟩ (fun i σ' H' ⟨_, _, _, _, _, _, _, s⟩ => s.sqT hs) ?_ ?_ (fun v σ H R R' h q => g2_mono v σ H R R' h q)
    · walk_at "rd"
      exact h
    · rintro i y σ' H' Tp hy ⟨v1, v2, v3, v4, v5, v6, rfl, s1⟩ hTp
      obtain ⟨hi, b, rfl, hb⟩ := Rows.row hR hy
      have s2 := s1.trans (same_new (o := .tup [.int (i : Int), .ref b]) hTp)
      walk_at "rd"
      intro N B R hN hB hRt
      walk_at "rd"
      refine f_enumT (fun j σ' H' => ∃ v3 v4 v5 v6 : Option V, σ' = [some (.ref a), some (.int i), some (.ref b), v3, v4, v5, v6] ∧ Same H H') (s2.sqT hb) (fun R' h => ?_) ⟨_, _, _, _, rfl, s2⟩ (fun i σ' H' ⟨_, _, _, _, _, s⟩ => s.sqT hb) ?_ ?_ (fun v σ H R R' h q => g2_mono v σ H R R' h q)
      · walk_at "rd"
        exact h
      · rintro j z σ3 H3 Tp3 hz ⟨v3, v4, v5, v6, rfl, s3⟩ hTp3
        have hj : j < n := by have := (List.getElem?_eq_some_iff.mp hz).1; rw [rowV_len] at this; exact this
        rw [rowV_get hj] at hz
        cases hz
        obtain ⟨bj, ej, hbj⟩ := hR.get hj
        have s4 := s3.trans (same_new (o := .tup [.int (j : Int), .int ((m i j : Nat) : Int)]) hTp3)
        walk_at "rd"
        intro N2 B2 R2 hN2 hB2 hRt2
        walk_at "rd"
        refine f_enumT (fun l σ' H' => ∃ v5 v6 : Option V, σ' = [some (.ref a), some (.int i), some (.ref b), some (.int j), some (.int ((m i j : Nat) : Int)), v5, v6] ∧ Same H H') (s4.sqT hbj) (fun R' h => ?_) ⟨_, _, rfl, s4⟩ (fun i σ' H' ⟨_, _, _, s⟩ => s.sqT hbj) ?_ ?_ (fun v σ H R R' h q => g2_mono v σ H R R' h q)
        · have hs4 := s4.sqT hs
          walk_at "rd"
          refine Wk.r_ixT hs4 (at_n ej) ?_
          walk_at "rd"
          exact h
        · rintro l z σ5 H5 Tp5 hz ⟨v5, v6, rfl, s5⟩ hTp5
          have hl : l < n := by have := (List.getElem?_eq_some_iff.mp hz).1; rw [rowV_len] at this; exact this
          rw [rowV_get hl] at hz
          cases hz
          have s6 := s5.trans (same_new (o := .tup [.int (l : Int), .int ((m j l : Nat) : Int)]) hTp5)
          obtain ⟨bp, ep, hbp⟩ := hR.get (g.cl i j hi hj)
          have hs6 := s6.sqT hs
          have hb6 := s6.sqT hb
          have hbp6 := s6.sqT hbp
          walk_at "rd"
          intro N3 B3 R3 hN3 hB3 hRt3
          walk_at "rd"
          refine Wk.r_ixT hs6 (at_n ep) ?_
          walk_at "rd"
          refine Wk.r_ixT hbp6 (at_n (rowV_get hl)) ?_
          walk_at "rd"
          refine Wk.r_ixT hb6 (at_n (rowV_get (g.cl j l hj hl))) ?_
          walk_at "rd"
          rw [g.as i j l hi hj hl]
          refine r_ifNI (fun c => absurd rfl c) (fun _ => ?_)
          walk_at "rd"
          exact hN3 _ _ ⟨_, _, rfl, s6⟩
        · rintro σ5 H5 ⟨v5, v6, rfl, s5⟩
          exact hN2 _ _ ⟨_, _, _, _, rfl, s5⟩
      · rintro σ3 H3 ⟨v3, v4, v5, v6, rfl, s3⟩
        exact hN _ _ ⟨_, _, _, _, _, _, rfl, s3⟩
    · rintro σ' H' ⟨v1, v2, v3, v4, v5, v6, rfl, s1⟩
      exact kk _ s1
end
end Wk
end
section
set_option Elab.async false
set_option linter.all false
set_option maxRecDepth 100000
namespace Wk
open PySem PySem.W
section
variable {prog : Program} {w : World} {A : Around} {E : Value → Shared → Prop} {s : Shared} {K : Frag} {x C L f : Addr} {h₀ : Heap} {m : Str → Option Value} {ox : Obj} {od : Option Obj} {b tb : Value}
/-- object.__ne__ of an instance with an own __eq__: the other way round -/
theorem ne_entry {Q : Fin → Shared → Prop} (X : K.In s.heap) (I : InstAt s.heap x ox C od) (hs : findIn K (.ref C) "__eq__" = some (some (.ref f))) (hf : isFn K (.ref f) = true) (hu : A.units < cLine)
    (hcall : wpAny (model prog w) A (call (.ref f) [.ref x, b]) (fun v s' => ∃ c, v = .bool c ∧ Q (.done (.ret (.bool (!c)))) s') E s) :
    wpAny (model prog w) A (Builtin.«object.__ne__» ⟨[.ref x, b], []⟩) Q E s := by
  unfold Builtin.«object.__ne__»
  repeat (first
    | with_reducible refine wpAny_cRoomFor hu ?_
    | (refine wpAny_bind (m := callSpecialIfBound? (.ref x) (Str.ofString "__eq__") [b])
        (ifBound_K X I hs hf (wpAny_mono hcall (fun r s' hr => by
          obtain ⟨b, rfl, hq⟩ := hr
          repeat (first | exact hq | exact wpAny_pure hq | exact wpAny_truthy_bool hq | (refine wpAny_bind (m := truthy (.bool _)) (wpAny_truthy_bool ?_)) | wp_step)) fun _ _ e => e)))
    | wp_step)
theorem ne_try {Q : Option Value → Shared → Prop} (X : K.In s.heap) (I : InstAt s.heap x ox C od) (hs : findIn K (.ref C) "__eq__" = some (some (.ref f))) (hf : isFn K (.ref f) = true)
    (hn : findIn K (.ref C) "__ne__" = some (some (.builtin "object.__ne__"))) (hm : mroIn K C (.type "object") = some true) (hu : A.units + 1 < cLine)
    (hcall : wpAny (model prog w) A.in1 (call (.ref f) [.ref x, b]) (fun v s' => ∃ c, v = .bool c ∧ Q (some (.bool (!c))) s') E s) :
    wpAny (model prog w) A (tryCompare (.ref x) "__ne__" b) Q E s := by
  simp only [tryCompare]
  refine wpAny_bind (NtL.csib (I.type.andThen (looks_findIn X hn)) (F.cmp_object.ne.bind _) (wpAny_call (codeAny_call_builtin F.cmp_object.ne.plain F.cmpEntry_ne (check_slot F.cmpKind_ne F.cmpSplit_ne (I.type.andThen (looks_mroIn X hm)) (F.cmpArgs_ne _ _)
    (ne_entry (A := A.in1) X I hs hf hu (wpAny_mono hcall (fun v s' hv => ?_) fun _ _ e => e))))))
  obtain ⟨b, rfl, hq⟩ := hv
  first | exact ⟨b, rfl, wpAny_pure hq⟩ | exact ⟨b, rfl, wpAny_pure (wpAny_pure hq)⟩ | exact ⟨b, rfl, hq⟩
theorem ne_K {Q : Value → Shared → Prop} (hu : A.units + 1 < cLine) (X : K.In s.heap) (I : InstAt s.heap x ox C od) (hb : Looks (model prog w) s.heap (typeOf b) tb) (hnf : notFirst K C tb = true)
    (hs : findIn K (.ref C) "__eq__" = some (some (.ref f))) (hf : isFn K (.ref f) = true) (hn : findIn K (.ref C) "__ne__" = some (some (.builtin "object.__ne__"))) (hm : mroIn K C (.type "object") = some true)
    (h : wpAny (model prog w) A.in1 (call (.ref f) [.ref x, b]) (fun v s' => ∃ c, v = .bool c ∧ Q (.bool (!c)) s') E s) : wpAny (model prog w) A (richCompare .NotEq (.ref x) b) Q E s := by
  have one : wpAny (model prog w) A (tryCompare (.ref x) (cmpInfo .NotEq).2.1 b) (fun r s' => ∃ v, r = some v ∧ Q v s') E s :=
    ne_try X I hs hf hn hm hu (wpAny_mono h (fun v s' hv => by obtain ⟨c, rfl, q⟩ := hv; exact ⟨c, rfl, _, rfl, q⟩) fun _ _ e => e)
  unfold richCompare
  simp only [oneThing_ref]
  refine wpAny_holding (wpAny_bind (wpAny_cRoomFor (Nat.lt_of_succ_lt hu) ?_))
  refine wpAny_bind (I.type.here (wpAny_bind (hb.here ?_)))
  split
  · rename_i q
    have e : subIn K tb (.ref C) = some false := by
      rcases Bool.or_eq_true_iff.mp hnf with e | e
      · rw [beq_iff_eq.mp e] at q; simp at q
      · exact beq_iff_eq.mp e
    refine wpAny_bind ((looks_subIn X e).here ?_)
    simp only [Bool.false_eq_true, if_false]
    refine wpAny_bind (wpAny_mono one (fun r s' z => ?_) fun _ _ e => e)
    obtain ⟨v, rfl, hq⟩ := z
    exact wpAny_pure hq
  · refine wpAny_bind (wpAny_pure ?_)
    simp only [Bool.false_eq_true, if_false]
    refine wpAny_bind (wpAny_mono one (fun r s' z => ?_) fun _ _ e => e)
    obtain ⟨v, rfl, hq⟩ := z
    exact wpAny_pure hq
end
end Wk
namespace Wk
open PySem PySem.Spec PyProof.Rows L2
section
variable {X : Cx} {C : Addr} {k : Nat} {sp : Sp} {e o : Expr} {es : List Expr} {ta : TE} {t : TA} {m : PySem.Str} {apos pos : Pos}
/-- a method of the class keeps sp and raises nothing -/
def KeepM (P : Program) (w : World) (K : PySem.W.Frag) (mg : PySem.Str → Option Value) (base : Heap) (k : Nat) (C : Addr) (x : PySem.Str) (ps : List PySem.Str) (sp : Sp) : Prop :=
  ∃ f fd, FnOk P w K mg base CX0 k f fd ps sp ∧ Meth K C x f ∧ Binds K fd ps []
def rEqO (K : PySem.W.Frag) (C : Addr) (sp : Sp) : R2 := fun x y H Q => ∃ a dx fs t, x = .ref a ∧ H a = some (.ins C dx fs) ∧ TyX K H y t ∧ PySem.W.notFirst K C t = true ∧ sp [x, y] H Q E0
def rNeO (K : PySem.W.Frag) (C : Addr) (sp : Sp) : R2 := fun x y H Q => ∃ a dx fs t, x = .ref a ∧ H a = some (.ins C dx fs) ∧ TyX K H y t ∧ PySem.W.notFirst K C t = true ∧ sp [x, y] H (fun v H' => ∃ c, v = .bl c ∧ Q (.bl (!c)) H') E0
theorem c_eqO {ps : List PySem.Str} (M : KeepM X.prog X.w X.K X.mg X.base k C "__eq__" ps sp) (hr : Room k X.A) : OpR X (compareOp .Eq) (rEqO X.K C sp) := by
  intro pins s σ H x y v u Q I rx ry h
  obtain ⟨f, fd, F, M, hb⟩ := M
  obtain ⟨a, dx, fs, t, rfl, ha, ty, hn, q⟩ := h
  cases (show v = Value.ref a from rx)
  obtain ⟨mA, J, _⟩ := ins_get I.hok ha
  obtain ⟨od, J, _⟩ := J.look
  obtain ⟨m, hF⟩ := I.fr
  obtain ⟨P, Z, p, _⟩ := kit_of I ry ty
  refine PySem.W.cmp_K (op := .Eq) hr.units0 hF I.ok.mod.kin J (Z.ty _ _ I.kIn p) hn M.at_ M.fn ?_
  refine wpAny_mono (run_fn (us := [.ref a, u]) (vs := [.ref a, y]) F hr hb .nil pass0 I (.cons rfl (.cons ry .nil)) q) (fun w s' z => ?_) fun _ _ x => x
  obtain ⟨z', H', I', rz, qz⟩ := z
  exact SlX.cmpback rz ⟨z', H', I', rz, qz⟩
theorem c_neO {ps : List PySem.Str} (M : KeepM X.prog X.w X.K X.mg X.base k C "__eq__" ps sp) (hn2 : PySem.W.findIn X.K (.ref C) "__ne__" = some (some (.builtin "object.__ne__"))) (hm : PySem.W.mroIn X.K C (.type "object") = some true) (hr : Room (k + 1) X.A) : OpR X (compareOp .NotEq) (rNeO X.K C sp) := by
  intro pins s σ H x y v u Q I rx ry h
  obtain ⟨f, fd, F, M, hb⟩ := M
  obtain ⟨a, dx, fs, t, rfl, ha, ty, hn, q⟩ := h
  cases (show v = Value.ref a from rx)
  obtain ⟨mA, J, _⟩ := ins_get I.hok ha
  obtain ⟨od, J, _⟩ := J.look
  obtain ⟨P, Z, p, _⟩ := kit_of I ry ty
  refine ne_K (by have := hr.units; omega) I.kIn J (Z.ty _ _ I.kIn p) hn M.at_ M.fn hn2 hm (wpAny_call ?_)
  have hl : ([Value.ref a, u]).length = ps.length := by
    have := F.len _ _ _ _ q
    simpa using this
  have r2 : Vals [V.ref a, y] [Value.ref a, u] := .cons rfl (.cons ry .nil)
  refine codeAny_mono (F.run X.A.in1 X.stack s H ⟨[.ref a, u], []⟩ [.ref a, u] [.ref a, y] _ E0 hr.in1 I.env0.in1 (by
    have := hb s [.ref a, u] I.kIn (by simpa using hl)
    simpa using this) r2 q) fun r s' hq => ?_
  cases r with
  | error e => exact False.elim hq
  | ok fl =>
    cases fl with
    | ret w =>
      obtain ⟨z, H', I', rz, c, ez, qz⟩ := I.after hq
      subst ez
      cases (show w = Value.bool c from rz)
      exact ⟨c, rfl, .bl (!c), H', I', rfl, qz⟩
    | next => exact False.elim hq
    | brk => exact False.elim hq
    | cont => exact False.elim hq
end
end Wk
end
section
set_option Elab.async false
set_option linter.all false
set_option maxRecDepth 100000
namespace Wk
open PySem PySem.Spec PyProof.Rows L2
section
variable {K : PySem.W.Frag} {n : Nat} {ta ta1 : TA} {j l : Nat} {te : TE} {vs vs1 : List Nat} {σ : L2.St} {H : Hp} {Q : VK}
/-- what such a list of truths says -/
def Says (f : Nat → Nat → Bool) (bs : List Bool) (i j : Nat) : Prop := bs.all id = true ↔ ∀ x y, y < x → (x < i ∨ (x = i ∧ y < j)) → f x y = true
theorem Says.snoc {f : Nat → Nat → Bool} {bs : List Bool} {i j : Nat} (h : Says f bs i j) (hj : j < i) : Says f (bs ++ [f i j]) i (j + 1) := by
  unfold Says at *
  rw [List.all_append, Bool.and_eq_true, h]
  constructor
  · rintro ⟨h1, h2⟩ x y hy hx
    rcases hx with hx | ⟨rfl, hx⟩
    · exact h1 x y hy (.inl hx)
    · by_cases c : y < j
      · exact h1 x y hy (.inr ⟨rfl, c⟩)
      · have e : y = j := by omega
        subst e
        simpa using h2
  · intro h1
    refine ⟨fun x y hy hx => h1 x y hy (hx.imp id fun z => ⟨z.1, by omega⟩), ?_⟩
    have := h1 i j hj (.inr ⟨rfl, by omega⟩)
    simpa using this
theorem Says.next {f : Nat → Nat → Bool} {bs : List Bool} {i : Nat} (h : Says f bs i i) : Says f bs (i + 1) 0 := by
  unfold Says at *
  rw [h]
  exact ⟨fun h1 x y hy hx => h1 x y hy (by omega), fun h1 x y hy hx => h1 x y hy (by omega)⟩
theorem r_yes {σ : L2.St} {H : Hp} {QT : Bool → Hp → Prop} (h : QT true H) : tYes σ H QT := h
/-- [te for x in range(n) for y in range(x)], truths -/
theorem lc2_tri (f : Nat → Nat → Bool) (hn : n ≤ 60) (hta : ∀ R' : List V → Hp → Prop, R' [.int n] H → ta σ H R')
    (hta1 : ∀ (i : Nat) H1 (R' : List V → Hp → Prop), R' [.int (i : Int)] H1 → ta1 ((wipe σ vs).set j (some (.int (i : Int)))) H1 R')
    (step : ∀ (x y : Nat) H1 (Q' : VK), x < n → y < x → Same H H1 → (∀ H2, Same H1 H2 → Q' (.bl (f x y)) H2) → te ((wipe ((wipe σ vs).set j (some (.int (x : Int)))) vs1).set l (some (.int (y : Int)))) H1 Q')
    (done : ∀ D H1 (bs : List Bool), H D = none → Same H H1 → H1 D = some (.lst (bs.map V.bl)) → (bs.all id = true ↔ ∀ x y, x < n → y < x → f x y = true) → Q (.ref D) H1)
    (hw : ∀ x, wipe ((wipe σ vs).set j (some x)) vs = wipe σ vs := by intro _; rfl) (hw1 : ∀ x y, wipe ((wipe ((wipe σ vs).set j (some x)) vs1).set l (some y)) vs1 = wipe ((wipe σ vs).set j (some x)) vs1 := by intro _ _; rfl) :
    tLc2 (iRng1 ta) (gName j) tYes (iRng1 ta1) (gName l) tYes te vs vs1 σ H Q := by
  refine hta _ ⟨n, rfl, by omega, by omega, fun D hD => ?_⟩
  have en : ((n : Int)).toNat = n := Int.toNat_natCast n
  rw [en]
  refine ⟨fun i m H1 => m = n - i ∧ i ≤ n ∧ ∃ bs : List Bool, Same H H1 ∧ H1 D = some (.lst (bs.map V.bl)) ∧ bs.length ≤ i * 60 ∧ Says f bs i 0, ⟨n, by simp, Nat.zero_le _, [], same_new hD, upd_same, Nat.zero_le _, ⟨fun _ x y _ h => by omega, fun _ => rfl⟩⟩, ?_⟩
  rintro i m H1 ⟨rfl, hi, bs, s1, hL, hlen, hb⟩
  by_cases lt : i < n
  · refine .inr ⟨lt, fun H' => ∃ bs : List Bool, Same H H' ∧ H' D = some (.lst (bs.map V.bl)) ∧ bs.length ≤ (i + 1) * 60 ∧ Says f bs (i + 1) 0, fun H' p => ⟨n - (i + 1), by omega, rfl, lt, p⟩, fun x H' y => ?_⟩
    obtain ⟨rfl, y⟩ := y
    subst y
    have e0 : (0 : Int) + (i : Int) = (i : Int) := Int.zero_add _
    rw [e0]
    refine ⟨hw _, ?_⟩
    refine r_yes (r_T ?_)
    refine hta1 i _ _ ⟨i, rfl, by omega, by omega, ?_⟩
    have ei : ((i : Int)).toNat = i := Int.toNat_natCast i
    rw [ei]
    refine ⟨fun k m H2 => m = i - k ∧ k ≤ i ∧ ∃ bs : List Bool, Same H H2 ∧ H2 D = some (.lst (bs.map V.bl)) ∧ bs.length ≤ i * 60 + k ∧ Says f bs i k, ⟨i, by simp, Nat.zero_le _, bs, s1, hL, hlen, hb⟩, ?_⟩
    rintro k m H2 ⟨rfl, hk, bs, s2, hL2, hlen2, hb2⟩
    by_cases lk : k < i
    · refine .inr ⟨lk, fun H' => ∃ bs : List Bool, Same H H' ∧ H' D = some (.lst (bs.map V.bl)) ∧ bs.length ≤ i * 60 + (k + 1) ∧ Says f bs i (k + 1), fun H' p => ⟨i - (k + 1), by omega, rfl, lk, p⟩, fun x H' y => ?_⟩
      obtain ⟨rfl, y⟩ := y
      subst y
      have e1 : (0 : Int) + (k : Int) = (k : Int) := Int.zero_add _
      rw [e1]
      refine ⟨hw1 _ _, ?_⟩
      refine r_yes (r_T ?_)
      refine step i k _ _ lt lk s2 fun H3 s3 => ?_
      refine ⟨bs.map V.bl, s3 _ _ hL2, szlt (by rw [List.length_map]; have : i * 60 ≤ 60 * 60 := Nat.mul_le_mul_right _ (by omega); omega), bs ++ [f i k], fun b o e => ?_, ?_, by rw [List.length_append, List.length_singleton]; omega, hb2.snoc lk⟩
      · rw [upd_ne (ne_of_none e hD)]; exact s3 _ _ (s2 _ _ e)
      · rw [upd_same, List.map_append]; rfl
    · have e : k = i := by omega
      subst e
      exact .inl ⟨Nat.le_refl _, bs, s2, hL2, by omega, hb2.next⟩
  · have e : i = n := by omega
    subst e
    refine .inl ⟨Nat.le_refl _, done D H1 bs hD s1 hL ?_⟩
    unfold Says at hb
    rw [hb]
    exact ⟨fun h x y hx hy => h x y hy (.inl hx), fun h x y hy hx => h x y (by omega) hy⟩
end
/-! tables of numbers as data -/
section
variable {K : PySem.W.Frag} {H : Hp}
def tabN (n : Nat) (m : Nat → Nat → Nat) : List (List Nat) := (List.range n).map fun x => (List.range n).map (m x)
theorem tabN_len {n : Nat} {m : Nat → Nat → Nat} : (tabN n m).length = n := by unfold tabN; rw [List.length_map, List.length_range]
theorem tabN_get {n x : Nat} {m : Nat → Nat → Nat} (h : x < n) : (tabN n m)[x]? = some ((List.range n).map (m x)) := by
  unfold tabN
  rw [List.getElem?_map, List.getElem?_range h]
  rfl
theorem rowV_natL {n x : Nat} {m : Nat → Nat → Nat} : rowV n m x = natL ((List.range n).map (m x)) := by
  unfold rowV natL
  rw [List.map_map]
  rfl
theorem tabN_eq {n n' : Nat} {m m' : Nat → Nat → Nat} : tabN n m = tabN n' m' ↔ n = n' ∧ ∀ x y, x < n → y < n → m x y = m' x y := by
  constructor
  · intro h
    have e : n = n' := by
      have := congrArg List.length h
      rwa [tabN_len, tabN_len] at this
    subst e
    refine ⟨rfl, fun x y hx hy => ?_⟩
    have h1 := congrArg (fun l => l[x]?) h
    simp only [tabN_get hx] at h1
    have h2 := congrArg (fun l => l[y]?) (Option.some.inj h1)
    simp only [List.getElem?_map, List.getElem?_range hy] at h2
    exact Option.some.inj h2
  · rintro ⟨rfl, h⟩
    unfold tabN
    refine List.map_congr_left fun x hx => List.map_congr_left fun y hy => h x y (List.mem_range.mp hx) (List.mem_range.mp hy)
end
end Wk
end
section
set_option Elab.async false
set_option linter.all false
set_option maxRecDepth 100000
namespace Wk
open PySem PySem.Spec PyProof.Rows L2
local macro_rules | `(tactic| walk_at "hp") => `(tactic| first | assumption | exact upd_same | exact (upd_ne (ne_of_none (by assumption) (by assumption))).trans (by assumption) | (rw [upd_ne (by first | assumption | exact Ne.symm (by assumption))]; walk_at "hp"))
local macro_rules | `(tactic| walk_at "sq") => `(tactic| first | assumption | exact SqL.of (by assumption) | exact SqT.of (by assumption) | exact SqL.of (by walk_at "hp") | exact SqT.of (by walk_at "hp") | (refine Same.seq ?_ ?_ <;> assumption))
local macro_rules | `(tactic| walk_at "cmul") => `(tactic| first | exact .inr ⟨by decide, by decide⟩ | exact .inl ⟨by decide, by decide⟩ | exact .inr ⟨by omega, by omega⟩ | exact .inl ⟨by omega, by omega⟩)
local macro_rules | `(tactic| walk_at "cdiv") => `(tactic| first | exact ⟨by decide, by decide⟩ | exact wide_div (b := 64) (by omega) (by omega) (by decide) (by decide) | exact wide_div (b := 128) (by omega) (by omega) (by decide) (by decide))
local macro_rules | `(tactic| walk_at "rd1") => `(tactic| first
  | ((with_reducible show tVar _ _ _ _); refine Wk.r_var rfl ?_)
  | (with_reducible first
    | refine Wk.r_c ?_ | refine Wk.r_op ?_ | refine Wk.r_cons ?_ | refine Wk.r_nil ?_
    | refine Wk.r_seq ?_ | refine Wk.r_next ?_ | refine Wk.r_set ?_ | refine Wk.r_asgS ?_ | refine Wk.r_ret ?_ | refine Wk.r_drop ?_ | refine Wk.r_if ?_
    | refine Wk.r_asgG ?_ | refine Wk.r_gName ?_ | refine Wk.r_gCons ?_ | refine Wk.r_gNil ?_ | refine Wk.r_par ?_ | refine Wk.r_par3 ?_ | refine Wk.r_lstRg1 ?_ | refine Wk.r_tupRg1 ?_ | refine ⟨_, _, _, rfl, ?_⟩ | refine Wk.r_un ?_ | refine Wk.r_I0 ?_ | refine Wk.r_U ?_
    | refine Wk.r_test ?_ | refine Wk.r_B ?_ | refine Wk.r_k ?_ | refine Wk.r_not ?_ | refine Wk.r_and ?_ | refine Wk.r_or ?_ | refine Wk.r_andV ?_ | refine Wk.r_orV ?_ | refine Wk.r_notV ?_
    | refine Wk.r_CB ?_ | refine Wk.r_chain ?_ | refine Wk.r_fld ?_ | refine Wk.r_sfld ?_ | refine Wk.r_lst ?_ | refine Wk.r_tup ?_ | refine Wk.r_call ?_ | refine Wk.r_BM ?_ | refine Wk.r_BM0 ?_ | refine Wk.r_T ?_ | refine Wk.r_nT ?_ | refine Wk.r_nF ?_ | refine Wk.r_F ?_
    | refine Or.inl ⟨_, rfl, ?_⟩ | refine Or.inr ⟨_, rfl, ?_⟩ | refine ⟨_, rfl, ?_⟩ | refine ⟨_, _, rfl, ?_⟩)
  | ((with_reducible refine Wk.r_eq ?c0 ?_); (case c0 => rfl)) | ((with_reducible refine Wk.r_ne ?c0 ?_); (case c0 => rfl))
  | ((with_reducible refine Wk.r_pow ?c0 ?_); (case c0 => exact ⟨by decide, by decide, by decide⟩))
  | ((with_reducible refine Wk.r_mul ?c0 ?_); (case c0 => walk_at "cmul")) | ((with_reducible refine Wk.r_mod ?c0 ?_); (case c0 => first | decide | omega)) | ((with_reducible refine Wk.r_div ?c0 ?_); (case c0 => walk_at "cdiv"))
  | ((with_reducible refine Wk.r_new ?c0 ?_); (case c0 => (simp only [List.length_cons, List.length_nil]; omega)))
  | ((with_reducible show gTup _ _ _ _ _ _ _); refine Wk.r_gTup (by walk_at "sq") (by rfl) ?_)
  | (refine Wk.r_tyL (by walk_at "hp") ?_)
  | ((with_reducible show rSetL _ _ _ _ _); refine Wk.r_setL (by walk_at "hp") (by rfl) ?_)
  | ((with_reducible show rIxL _ _ _ _ _); refine Wk.r_ixL (by walk_at "sq") (by rfl) ?_) | ((with_reducible show rIxT _ _ _ _ _); refine Wk.r_ixT (by walk_at "sq") (by rfl) ?_)
  | ((with_reducible show rLenOf _ _ _ _); first | refine Wk.n_lenL (by walk_at "sq") ?_ | refine Wk.n_lenT (by walk_at "sq") ?_)
  | ((with_reducible show rListOf _ _ _ _); first | refine Wk.n_listL (by walk_at "sq") ?_ | refine Wk.n_listT (by walk_at "sq") ?_)
  | ((with_reducible show rTupZ _ _ _ _); first | refine Wk.z_tupL (by walk_at "sq") ?_ | refine Wk.z_tupT (by walk_at "sq") ?_)
  | ((with_reducible show rTupOf _ _ _ _); first | refine Wk.n_tupL (by walk_at "sq") ?_ | refine Wk.n_tupT (by walk_at "sq") ?_))
local macro_rules | `(tactic| walk_at "rd") => `(tactic| repeat (walk_at "rd1"))

section
variable {K : PySem.W.Frag} {H H' : Hp} {a p C dx : Addr} {fs : List (Str × V)} {xs : List V} {n : Nat} {m : Nat → Nat → Nat}
theorem sqT_ins (hD : H p = some (.ins C dx fs)) (e : ExP p H H') (h : SqT K H a xs) : SqT K H' a xs := by
  have ne : ∀ o, H a = some o → (∀ C dx fs, o ≠ HO.ins C dx fs) → a ≠ p := fun o ho hn q => by
    subst q
    rw [hD] at ho
    exact hn _ _ _ (Option.some.inj ho).symm
  rcases h with (h | ⟨o, h⟩) | h
  · exact .inl (.inl (e _ _ (ne _ h fun _ _ _ z => by cases z) h))
  · exact .inl (.inr ⟨o, e _ _ (ne _ h fun _ _ _ z => by cases z) h⟩)
  · exact .inr h
theorem Rows.ins {L : List V} (hD : H p = some (.ins C dx fs)) (e : ExP p H H') (r : Rows K H n m L) : Rows K H' n m L := ⟨r.1, fun x v h => by
  obtain ⟨b, e1, e2⟩ := r.2 x v h
  exact ⟨b, e1, sqT_ins hD e e2⟩⟩
theorem TabT.ins (hD : H p = some (.ins C dx fs)) (e : ExP p H H') (t : TabT K H a n m) : TabT K H' a n m := by
  obtain ⟨L, h, r⟩ := t
  exact ⟨L, sqT_ins hD e h, Rows.ins hD e r⟩
theorem TabT.mut {D : Addr} {L' : List V} (hD : H D = some (.lst L')) (e : ExP D H H') (t : TabT K H a n m) : TabT K H' a n m := by
  obtain ⟨L, h, r⟩ := t
  exact ⟨L, sqT_mut hD e h, r.mut hD e⟩
theorem GrpAt.mut {D : Addr} {L' : List V} {g t iv : Addr} {e : Nat} {inv : Nat → Nat} (hD : H D = some (.lst L')) (s : ExP D H H') (h : GrpAt K C H g n m dx t iv e inv) : GrpAt K C H' g n m dx t iv e inv :=
  { h with ins := s _ _ (fun q => by have := h.ins; rw [q, hD] at this; cases this) h.ins, tab := h.tab.mut hD s, invs := sqT_mut hD s h.invs }
theorem putF_len {f : Str} {v : V} {k : Nat} (h : fs.length ≤ k) : (putF f v fs).length ≤ k + 1 := by have := length_putF f v fs; omega
end
section
variable {P : Program} {w : World} {K : PySem.W.Frag} {mg : Str → Option Value} {base : Heap}
/-- what more of the class is asked -/
structure TxE (K : PySem.W.Frag) (mg : Str → Option Value) (C : Addr) : Prop extends TxG K mg C where
  kC : ((PySem.W.clsIn K C).isSome && PySem.W.typeIn K (.ref C) == some (.type "type")) = true
  n_ne : PySem.W.findIn K (.ref C) "__ne__" = some (some (.builtin "object.__ne__"))
theorem TxE.insTy {C : Addr} (T : TxE K mg C) {H : Hp} {g dx : Addr} {fs : List (Str × V)} (e : H g = some (.ins C dx fs)) : TyX K H (.ref g) (.ref C) := .base (.ins e T.cl T.iA T.iB T.iC T.iD)
theorem kit_own {C : Addr} : PySem.W.kitOne K (.ref C) (.ref C) = some true := by
  unfold PySem.W.kitOne
  rw [if_pos (by simp)]
theorem nf_own {C : Addr} : PySem.W.notFirst K C (.ref C) = true := by simp [PySem.W.notFirst]
theorem sub_ty {C : Addr} {T : String} (h : (PySem.fastBuiltinMro T).any (fun l => l.all fun v => match v with | .type _ => true | _ => false) = true) : PySem.W.subIn K (.type T) (.ref C) = some false := by
  show (PySem.fastBuiltinMro T).map (·.contains (.ref C)) = some false
  cases e : PySem.fastBuiltinMro T with
  | none => rw [e] at h; cases h
  | some l =>
    rw [e] at h
    have h' : (l.all fun v => match v with | .type _ => true | _ => false) = true := h
    show some (l.contains (Value.ref C)) = some false
    congr 1
    rw [← Bool.not_eq_true, List.contains_iff_exists_mem_beq]
    rintro ⟨v, hv, q⟩
    have h1 := List.all_eq_true.mp h' v hv
    have e2 : Value.ref C = v := by simpa using q
    subst e2
    cases h1
theorem nf_ty {C : Addr} {T : String} (h : (PySem.fastBuiltinMro T).any (fun l => l.all fun v => match v with | .type _ => true | _ => false) = true) : PySem.W.notFirst K C (.type T) = true := by
  unfold PySem.W.notFirst
  rw [sub_ty h]
  simp
theorem TxE.kit_ty {C : Addr} (X : TxE K mg C) {T : String} (h : (PySem.fastBuiltinMro T).any (fun l => l.all fun v => match v with | .type _ => true | _ => false) = true) : PySem.W.kitOne K (.type T) (.ref C) = some false := by
  unfold PySem.W.kitOne
  rw [if_neg (by simp)]
  unfold PySem.W.kitCls
  show (if ((PySem.W.clsIn K C).isSome && PySem.W.typeIn K (.ref C) == some (.type "type")) = true then PySem.W.subIn K (.type T) (.ref C) else none) = some false
  rw [if_pos X.kC, sub_ty h]
/-- a group -/
def GrpO (K : PySem.W.Frag) (C : Addr) (H : Hp) (g n : Nat) (m : Nat → Nat → Nat) : Prop := ∃ dx t iv e inv, GrpAt K C H g n m dx t iv e inv
def spInit (K : PySem.W.Frag) (C : Addr) : Sp := fun vs H Q _ => ∃ (p a dx : Addr) (n : Nat) (m : Nat → Nat → Nat), vs = [.ref p, .ref a] ∧ H p = some (.ins C dx []) ∧ 0 < n ∧ n ≤ 48 ∧ TabS K H a n m ∧ G.Grp n m ∧ ∀ H', ExP p H H' → GrpO K C H' p n m → Q .non H'
structure Judges (P : Program) (w : World) (K : PySem.W.Frag) (mg : Str → Option Value) (base : Heap) : Prop where
  rows : Keep P w K mg base 4 "_judged_rows" ["table"] (spRows K)
  neu : Keep P w K mg base 1 "_judged_neutral" ["table"] (spNeu K)
  inv : Keep P w K mg base 1 "_judged_inverses" ["table", "neutral"] (spInvs K)
  prod : Keep P w K mg base 1 "_judge_products" ["table"] (spProds K)
theorem ok_init {C f : Addr} {fd : FuncData} (T : TxE K mg C) (J : Judges P w K mg base) (F : Fun K "__init__" "Group.__init__" s_Group___init__ f fd) : FnOk P w K mg base CX0 5 f fd ["self", "table"] (spInit K C) := by
  obtain ⟨k__judged_rows, k__judged_neutral, k__judged_inverses, k__judge_products⟩ := J
  refine F.ok sc_Group___init__ (fun vs H Q E h => ?_) (fun cdv A outer s H vs Q E hr h => ?_)
  · obtain ⟨_, _, _, _, _, rfl, _⟩ := h
    rfl
  · obtain ⟨p, a, dx, n, m, rfl, hp, h0, hn, ht, g, kk⟩ := h
    refine ⟨_, (pss_cons (ps_fld (pv 0) (pe_k k__judged_rows (hr.mono (by decide)) (by rfl) (pa_cons (pv 1) pa_nil)) rfl)
    (pss_cons (ps_fld (pv 0) (pe_callB (c_len K) (by rfl) T.n_len (by decide +kernel) (pa_cons (e_fld K (pv 0) rfl) pa_nil)) rfl)
    (pss_cons (ps_fld (pv 0) (pe_k k__judged_neutral (hr.mono (by decide)) (by rfl) (pa_cons (e_fld K (pv 0) rfl) pa_nil)) rfl)
    (pss_cons (ps_fld (pv 0) (pe_k k__judged_inverses (hr.mono (by decide)) (by rfl) (pa_cons (e_fld K (pv 0) rfl) (pa_cons (e_fld K (pv 0) rfl) pa_nil))) rfl)
    (pss_one (ps_expr (pe_k k__judge_products (hr.mono (by decide)) (by rfl) (pa_cons (e_fld K (pv 0) rfl) pa_nil)))))))), ?_⟩
    walk_at "rd"
    refine ⟨a, n, m, rfl, h0, hn, ht, g.cl, fun H1 b s1 hb => ?_⟩
    have hp1 := s1 _ _ hp
    walk_at "rd"
    refine ⟨_, _, _, _, rfl, hp1, T.cl, T.nT, by show 0 < 1000; decide, ?_⟩
    generalize hf1 : putF "table" (V.ref b) [] = f1
    have l1 : f1.length ≤ 1 := by rw [← hf1]; exact putF_len (Nat.le_refl 0)
    have x1 : ExP p H1 (upd H1 p (.ins C dx f1)) := ExP.upd
    have hb2 := hb.ins hp1 x1
    have t1 : f1.lookup ("table" : Str) = some (.ref b) := by rw [← hf1, lookup_putF, if_pos rfl]
    walk_at "rd"
    refine ⟨_, _, _, _, _, rfl, upd_same, T.cl, T.nT, t1, ?_⟩
    obtain ⟨L, hL, hR⟩ := id hb2
    walk_at "rd"
    rw [hR.1]
    refine ⟨_, _, _, _, rfl, upd_same, T.cl, T.nS, by omega, ?_⟩
    rw [upd_upd]
    generalize hf2 : putF "size" (V.int n) f1 = f2
    have l2 : f2.length ≤ 2 := by rw [← hf2]; exact putF_len l1
    have t2 : f2.lookup ("table" : Str) = some (.ref b) := by rw [← hf2, lookup_putF, if_neg ne_ts, t1]
    have x2 : ExP p H1 (upd H1 p (.ins C dx f2)) := ExP.upd
    have hb3 := hb.ins hp1 x2
    walk_at "rd"
    refine ⟨_, _, _, _, _, rfl, upd_same, T.cl, T.nT, t2, ?_⟩
    obtain ⟨e, he, _⟩ := id g.ne
    walk_at "rd"
    refine ⟨b, n, e, m, rfl, hn, hb3, he, fun H2 s2 => ?_⟩
    have hp2 := s2 _ _ upd_same
    have hb4 := hb3.mono s2
    walk_at "rd"
    refine ⟨_, _, _, _, rfl, hp2, T.cl, T.nN, by omega, ?_⟩
    generalize hf3 : putF "neutral" (V.int e) f2 = f3
    have l3 : f3.length ≤ 3 := by rw [← hf3]; exact putF_len l2
    have t3 : f3.lookup ("table" : Str) = some (.ref b) := by rw [← hf3, lookup_putF, if_neg ne_tn, t2]
    have n3 : f3.lookup ("neutral" : Str) = some (.int e) := by rw [← hf3, lookup_putF, if_pos rfl]
    have x3 : ExP p H2 (upd H2 p (.ins C dx f3)) := ExP.upd
    have hb5 := hb4.ins hp2 x3
    walk_at "rd"
    refine ⟨_, _, _, _, _, rfl, upd_same, T.cl, T.nT, t3, ?_⟩
    walk_at "rd"
    refine ⟨_, _, _, _, _, rfl, upd_same, T.cl, T.nN, n3, ?_⟩
    walk_at "rd"
    refine ⟨b, n, e, m, rfl, hn, hb5, g, he, fun H3 iv s3 hiv => ?_⟩
    have hp3 := s3 _ _ upd_same
    have hb6 := hb5.mono s3
    walk_at "rd"
    refine ⟨_, _, _, _, rfl, hp3, T.cl, T.nI, by omega, ?_⟩
    generalize hf4 : putF "_inverses" (V.ref iv) f3 = f4
    have t4 : f4.lookup ("table" : Str) = some (.ref b) := by rw [← hf4, lookup_putF, if_neg ne_ti, t3]
    have x4 : ExP p H3 (upd H3 p (.ins C dx f4)) := ExP.upd
    have hb7 := hb6.ins hp3 x4
    have hiv2 := sqT_ins hp3 x4 hiv
    walk_at "rd"
    refine ⟨_, _, _, _, _, rfl, upd_same, T.cl, T.nT, t4, ?_⟩
    walk_at "rd"
    refine ⟨b, n, m, rfl, hn, hb7, g, fun H4 s4 => ?_⟩
    walk_at "rd"
    have e4 : f4 = gf b iv n e := by unfold gf; rw [← hf4, ← hf3, ← hf2, ← hf1]
    refine kk _ ?_ ⟨dx, b, iv, e, invF n m e, ?_⟩
    · exact ((((s1.exP.trans x2).trans s2.exP).trans x3).trans s3.exP).trans (x4.trans s4.exP)
    · refine ⟨?_, hb7.mono s4, s4.sqT hiv2, he, fun x hx => (inv_ok g he hx).2, g, hn⟩
      rw [← e4]
      exact s4 _ _ upd_same
end
end Wk
end
section
set_option Elab.async false
set_option linter.all false
set_option maxRecDepth 100000
namespace Wk
open PySem PySem.Spec PyProof.Rows L2
/-- o.m(e, .., k = v, ..) -/
def tMethN (C : Addr) (m : PySem.Str) (n mm : Nat) (sp : Sp) (gV : List V → List V → List V) (E : XK) (ta : TE) (t tk : TA) : TE := fun σ H Q => ta σ H fun x H1 => ∃ a dx fs, x = .ref a ∧ H1 a = some (.ins C dx fs) ∧ fs.lookup m = none ∧
  t σ H1 fun vs H2 => tk σ H2 fun zs H3 => vs.length + 1 = n ∧ zs.length = mm ∧ sp (gV (x :: vs) zs) H3 Q E
section
variable {X : Cx} {CX : CXT} {k n : Nat} {C f : Addr} {fd : FuncData} {ps ks : List PySem.Str} {sp : Sp} {E : XK} {m : PySem.Str} {apos pos : Pos} {o e : Expr} {es : List Expr} {kws : List Keyword} {ta : TE} {t tk : TA} {g : List Value → List Value → List Value} {gV : List V → List V → List V}
theorem pe_methN {pl : Sem Bool} (he : PE X o ta) (c : Cls X.K C) (hm : Meth X.K C m f) (F : FnOk X.prog X.w X.K X.mg X.base CX k f fd ps sp) (hr : Room k X.A) (hb : KBn X.K fd ps n ks g gV) (hx : Passes CX X E) (ha : PA X (e :: es) t) (hkw : PK X kws tk)
    (hall : (backToKw pos (keywordEach kws X.env)).all (·.1.isSome) = true := by rfl) (hks : (backToKw pos (keywordEach kws X.env)).filterMap (·.1) = ks := by rfl)
    (hst : starEach (e :: es) X.env = (false, eval e X.env) :: starEach es X.env := by rfl) (hpl : ((backTo pos (starEach (e :: es) X.env)).any (·.1) || (backToKw pos (keywordEach kws X.env)).any (·.1.isNone)) = false := by rfl)
    (ht : eval (.Call (.Attribute o m apos) (e :: es) kws pos) X.env = (do
      let ov ← eval o X.env
      standAt apos.atName
      let (f, first) ← holding [ov] (getMethod ov m pl)
      callWith pos f first (backTo pos (starEach (e :: es) X.env)) (backToKw pos (keywordEach kws X.env))) := by rfl) :
    PE X (.Call (.Attribute o m apos) (e :: es) kws pos) (tMethN C m n ks.length sp gV E ta t tk) := by
  refine ⟨fun pins s σ H Q I h => ?_⟩
  refine PySem.W.methodCall_KW (pl := pl) (thn (he.run pins s σ H _ I h) fun u s1 ⟨x, H1, I1, rx, a, dx, fs, ex, ea, l, q⟩ => ?_) ht
  subst ex
  obtain rfl : u = Value.ref a := rx
  refine getmeth_ok I1 ea c hm l ?_
  refine PySem.W.callWith_KW (first := [.ref a]) (h₀ := X.base) I.ok.mod.kin hm.kp hall (thn (ha.run pos pins s1 σ H1 _ I1 q) fun us s2 ⟨vs, H2, I2, r, q2⟩ => ?_) hpl hst
  refine thn (hkw.run pos pins s2 σ H2 _ I2 q2) fun ws s3 ⟨zs, H3, I3, rz, l1, l2, q3⟩ => ⟨I3.kIn, ?_⟩
  rw [hks]
  exact run_fnN (us := .ref a :: us) (vs := .ref a :: vs) F hr hb hx I3 (.cons rfl r) rz (by rw [List.length_cons]; exact l1) l2 q3
/-- a method that is called with keywords too -/
def KeepN (P : Program) (w : World) (K : PySem.W.Frag) (mg : PySem.Str → Option Value) (base : Heap) (k : Nat) (C : Addr) (x : PySem.Str) (ps : List PySem.Str) (n : Nat) (ks : List PySem.Str) (sp : Sp) : Prop :=
  ∃ f fd, FnOk P w K mg base CX0 k f fd ps sp ∧ Meth K C x f ∧ Binds K fd ps [] ∧ KBn K fd ps n ks (fun us ws => us ++ ws) (fun vs zs => vs ++ zs)
theorem pe_mK {pl : Sem Bool} (he : PE X o ta) (c : Cls X.K C) (M : KeepN X.prog X.w X.K X.mg X.base k C m ps n ks sp) (hr : Room k X.A) (ha : PA X (e :: es) t) (hkw : PK X kws tk)
    (hall : (backToKw pos (keywordEach kws X.env)).all (·.1.isSome) = true := by rfl) (hks : (backToKw pos (keywordEach kws X.env)).filterMap (·.1) = ks := by rfl)
    (hst : starEach (e :: es) X.env = (false, eval e X.env) :: starEach es X.env := by rfl) (hpl : ((backTo pos (starEach (e :: es) X.env)).any (·.1) || (backToKw pos (keywordEach kws X.env)).any (·.1.isNone)) = false := by rfl)
    (ht : eval (.Call (.Attribute o m apos) (e :: es) kws pos) X.env = (do
      let ov ← eval o X.env
      standAt apos.atName
      let (f, first) ← holding [ov] (getMethod ov m pl)
      callWith pos f first (backTo pos (starEach (e :: es) X.env)) (backToKw pos (keywordEach kws X.env))) := by rfl) :
    PE X (.Call (.Attribute o m apos) (e :: es) kws pos) (tMethN C m n ks.length sp (fun vs zs => vs ++ zs) E0 ta t tk) := by
  obtain ⟨f, fd, F, M, _, hb⟩ := M
  exact pe_methN he c M F hr hb pass0 ha hkw hall hks hst hpl ht
theorem r_methN {mm : Nat} {σ : L2.St} {H : Hp} {Q : VK} (h : ta σ H fun x H1 => ∃ a dx fs, x = .ref a ∧ H1 a = some (.ins C dx fs) ∧ fs.lookup m = none ∧ t σ H1 fun vs H2 => tk σ H2 fun zs H3 => vs.length + 1 = n ∧ zs.length = mm ∧ sp (gV (x :: vs) zs) H3 Q E) : tMethN C m n mm sp gV E ta t tk σ H Q := h
end
end Wk
end
section
set_option Elab.async false
set_option linter.all false
set_option maxRecDepth 100000
namespace Wk
open PySem PySem.Spec PyProof.Rows L2
section
variable {X : Cx}
/-- t.index(y), flat items -/
def rIndexT (K : PySem.W.Frag) : V → List V → Hp → VK → Prop := fun x xs H Q => ∃ (a : Addr) (ys : List V) (y : V) (j : Nat) (z : V), x = V.ref a ∧ xs = [y] ∧ SqT K H a ys ∧ flatV y = true ∧ ys.all flatV = true ∧ ys[j]? = some z ∧ eqV z y = true ∧
  (∀ (m : Nat) (z' : V), m < j → ys[m]? = some z' → eqV z' y = false) ∧ Q (.int (j : Nat)) H
theorem m_indexT (K : PySem.W.Frag) (hK : X.K = K := by rfl) : MtR X "tuple.index" (rIndexT K) := by
  subst hK
  intro pins s σ H x xs v us Q I rx rxs h
  obtain ⟨a, ys, y, j, z, rfl, rfl, hs, fy, fys, hz, hzj, hno, q⟩ := h
  cases rx
  obtain ⟨uy, rfl, ry⟩ := vals1 rxs
  obtain ⟨its, rv, pl, hlen⟩ := I.tuple hs
  obtain ⟨⟨cls, dd, dt, sl⟩, ho, hc, n, hd⟩ := pl
  simp only at hc hd
  subst hc
  subst hd
  obtain ⟨u, hu, ru⟩ := rv.get hz
  obtain ⟨hjl, hje⟩ := List.getElem?_eq_some_iff.mp hu
  have hvl := rv.length
  have hj : j < its.toArray.size := by simpa using hjl
  refine call_meets PySem.F.slot_tuple_index ⟨_, ho, rfl⟩ PySem.F.entry_tuple_index (PySem.F.args_tuple_index_2 _ _) (TI.tuple_indexAt a its.toArray n dd sl uy (eqU y) j hj ?_ ?_)
    ⟨ho, fun w hw => mem_eqAt ry fy rv fys w (by simpa using hw), ⟨.int (j : Nat), H, I.tok _, ⟨_, rfl⟩, q⟩⟩
  · have e1 : its.toArray[j] = u := by simpa using hje
    rw [e1, eqU_of ru (flat_at fys hz)]
    exact hzj
  · intro m hm hmj
    have hml : m < its.length := by simpa using hm
    have hmy : m < ys.length := by omega
    have hy' : ys[m]? = some ys[m] := List.getElem?_eq_getElem hmy
    obtain ⟨u2, hu2, ru2⟩ := rv.get hy'
    obtain ⟨_, hme⟩ := List.getElem?_eq_some_iff.mp hu2
    have e1 : its.toArray[m] = u2 := by simpa using hme
    rw [e1, eqU_of ru2 (flat_at fys hy')]
    exact hno m _ hmj hy'
end
end Wk
end
section
set_option Elab.async false
set_option linter.all false
set_option maxRecDepth 100000
namespace Wk
open PySem PySem.Spec PyProof.Rows L2
section
variable {X : Cx} {o e : Expr} {es : List Expr} {to : TE} {t : TA} {name : PySem.Str} {apos cpos : Pos} {id : String} {r : V → List V → Hp → VK → Prop}
/-- t.m(e, ..), t such a tuple -/
def tBMZ (r : V → List V → Hp → VK → Prop) (to : TE) (t : TA) : TE := fun σ H Q => to σ H fun x H1 => (∃ a xs, x = .ref a ∧ SqZ H1 a xs) ∧ t σ H1 fun xs H2 => r x xs H2 Q
theorem r_bmZ {σ : L2.St} {H : Hp} {Q : VK} (h : to σ H fun x H1 => (∃ a xs, x = .ref a ∧ SqZ H1 a xs) ∧ t σ H1 fun xs H2 => r x xs H2 Q) : tBMZ r to t σ H Q := h
theorem e_bmZ (pa : PlainAttrs "tuple") (slot : Slot "tuple" name id) (hty : typeOf (.builtin id) = pure (.type "method_descriptor")) (hm : MtR X id r) (ho : PE X o to) (ha : PA X (e :: es) t)
    (hbase : attributeBase o name X.env (eval o X.env) = eval o X.env := by rfl)
    (hfew : ((backTo cpos (starEach (e :: es) X.env)).all (fun x => !x.1) && (backToKw cpos (keywordEach [] X.env)).all (fun x => x.1.isSome)
      && decide ((e :: es).length + ([] : List Keyword).length + (if ([] : List Keyword).isEmpty then 0 else 1) < 30)) = true := by rfl)
    (hline : (apos.endLine == cpos.line) = true := by rfl) (hs : starEach (e :: es) X.env = (false, eval e X.env) :: starEach es X.env := by rfl) (hplain : (backTo cpos (starEach es X.env)).any (·.1) = false := by rfl) :
    PE X (.Call (.Attribute o name apos) (e :: es) [] cpos) (tBMZ r to t) := by
  refine ⟨fun pins s σ H Q I h => ?_⟩
  refine wpAny_Call_method_late hbase hfew hline rfl (thn (ho.run pins s σ H _ I h) fun v s1 ⟨x, H1, I1, r1, ty, q1⟩ => ?_)
  obtain ⟨a, ys, rfl, ob, ea, hdn, hcl⟩ := ty
  cases r1
  have ho : s1.heap.get? a = some ob := (I1.hok a _ ea).1
  refine ⟨"tuple", id, pa, slot, hty, ⟨ob, ho, hcl⟩, fun b e => ?_, ?_⟩
  · cases e
    exact ⟨ob, ho, hdn⟩
  have hA := ha.run cpos pins s1 σ H1 _ I1 q1
  rw [hs] at hA ⊢
  refine Calls.callWith_builtin (by show (false || (backTo cpos (starEach es X.env)).any (·.1)) = false; rw [hplain] <;> rfl) (Calls.evalArgs_plain ?_)
  exact thn hA fun us s2 ⟨vs, H2, I2, r2, q2⟩ => hm pins s2 σ H2 (.ref a) vs (.ref a) us Q I2 rfl r2 q2
end
end Wk
end
section
set_option Elab.async false
set_option linter.all false
set_option maxRecDepth 100000
/-! dicts of numbers, sorted, zip: readings; what is laid anew over a heap -/
namespace Wk
open PySem PySem.Spec PyProof.Rows L2
/-- a dict that has for each number of A, in this order, F of it -/
def dk (A : List Nat) (F : Nat → V) : List (Key × V) := A.map fun (z : Nat) => ((Sum.inl (z : Int) : Key), F z)
theorem valV_dk (F : Nat → V) (z : Nat) : ∀ A : List Nat, valV (dk A F) (Sum.inl (z : Int)) = if z ∈ A then some (F z) else none
  | [] => rfl
  | a :: A => by
    have ih := valV_dk F z A
    by_cases c : a = z
    · subst c
      rw [show dk (a :: A) F = (Sum.inl (a : Int), F a) :: dk A F from rfl, valV_pos rfl, if_pos List.mem_cons_self]
    · rw [show dk (a :: A) F = (Sum.inl (a : Int), F a) :: dk A F from rfl, valV_neg (fun q => c (by injection q with q; omega)), ih]
      by_cases d : z ∈ A
      · rw [if_pos d, if_pos (List.mem_cons_of_mem _ d)]
      · rw [if_neg d, if_neg (fun q => by rcases List.mem_cons.mp q with q | q; exact c q.symm; exact d q)]
theorem putK_dk {A : List Nat} {F : Nat → V} {z : Nat} {v : V} (h : z ∉ A) : putK (dk A F) (Sum.inl (z : Int)) v = dk (A ++ [z]) (fun x => if x = z then v else F x) := by
  unfold putK
  rw [valV_any, valV_dk, if_neg h]
  simp only [Option.isSome_none, Bool.false_eq_true, if_false]
  unfold dk
  rw [List.map_append]
  congr 1
  · refine List.map_congr_left fun x hx => ?_
    show ((Sum.inl (x : Int) : Key), F x) = (Sum.inl (x : Int), if x = z then v else F x)
    rw [if_neg (fun (q : x = z) => h (q ▸ hx))]
  · simp
theorem dk_len {A : List Nat} {F : Nat → V} : (dk A F).length = A.length := by unfold dk; rw [List.length_map]
theorem dk_keys {A : List Nat} {F : Nat → V} : ((dk A F).map fun kv => kV kv.1) = natL A := by
  unfold dk natL
  rw [List.map_map]
  rfl
theorem dget_dk {H : Hp} {p : Addr} {A : List Nat} {F : Nat → V} {z : Nat} (h : H p = some (.dK (dk A F))) (hz : z ∈ A) : DGet H p (.int (z : Int)) (some (F z)) := by
  have e := DGet.k (k := Sum.inl (z : Int)) h
  rw [valV_dk, if_pos hz] at e
  exact e
theorem dget_dkO {H : Hp} {p : Addr} {A : List Nat} {F : Nat → V} {z : Nat} (h : H p = some (.dK (dk A F))) : DGet H p (.int (z : Int)) (if z ∈ A then some (F z) else none) := by
  have e := DGet.k (k := Sum.inl (z : Int)) h
  rw [valV_dk] at e
  exact e
theorem dput_dk {H : Hp} {p : Addr} {A : List Nat} {F : Nat → V} {z : Nat} {v : V} (h : H p = some (.dK (dk A F))) (hz : z ∉ A) (hl : A.length ≤ 1000) : DPut H p (.int (z : Int)) v (upd H p (.dK (dk (A ++ [z]) fun x => if x = z then v else F x))) := by
  have e := DPut.k (k := Sum.inl (z : Int)) (v := v) h (by rw [dk_len]; exact szlt (by omega))
  rw [putK_dk hz] at e
  exact e
theorem same_upd {H1 H : Hp} {p : Addr} {o : HO} (s : Same H1 H) (n : H1 p = none) : Same H1 (upd H p o) := fun b u e => by
  rw [upd_ne (ne_of_none e n)]
  exact s _ _ e
section
variable {σ : L2.St} {H : Hp} {D : Ends} {td ty tv : TE} {Q : VK} {trs : List (TE × TE)}
theorem r_dget (h : td σ H fun x H1 => ty σ H1 fun y H2 => ∃ a v, x = .ref a ∧ DGet H2 a y (some v) ∧ Q v H2) : tDGet td ty σ H Q := h
theorem r_din (h : ty σ H fun y H1 => td σ H1 fun x H2 => ∃ a o, x = .ref a ∧ DGet H2 a y o ∧ Q (.bl o.isSome) H2) : tDIn ty td σ H Q := h
theorem r_dnotin (h : ty σ H fun y H1 => td σ H1 fun x H2 => ∃ a o, x = .ref a ∧ DGet H2 a y o ∧ Q (.bl (!o.isSome)) H2) : tDNotIn ty td σ H Q := h
theorem r_dput (h : tv σ H fun v H1 => td σ H1 fun x H2 => ty σ H2 fun y H3 => ∃ a H4, x = .ref a ∧ DPut H3 a y v H4 ∧ D.nx σ H4) : sDPut td ty tv D σ H := h
theorem r_disp (h : ∀ p, H p = none → tPairs trs σ (upd H p (.dK [])) fun ps H2 => H2 p = some (.dK []) ∧ ∃ kvs : List (Key × V), ps = kvs.map (fun kv => (kV kv.1, kv.2)) ∧ kvs.length ≤ 15 ∧ Q (.ref p) (upd H2 p (.dK (mergeK [] kvs)))) : tDisp trs σ H Q := h
theorem r_pairs0 {QP : List (V × V) → Hp → Prop} (h : QP [] H) : tPairs [] σ H QP := h
theorem r_pairs {QP : List (V × V) → Hp → Prop} (h : td σ H fun x H1 => tv σ H1 fun y H2 => tPairs trs σ H2 fun ps H3 => QP ((x, y) :: ps) H3) : tPairs ((td, tv) :: trs) σ H QP := h
/-- one pair of a number -/
theorem disp1 {p : Addr} {z : Nat} {v : V} (e : H p = some (.dK [])) (h : Q (.ref p) (upd H p (.dK (dk [z] fun _ => v)))) : H p = some (.dK []) ∧ ∃ kvs : List (Key × V), [(V.int (z : Int), v)] = kvs.map (fun kv => (kV kv.1, kv.2)) ∧ kvs.length ≤ 15 ∧ Q (.ref p) (upd H p (.dK (mergeK [] kvs))) :=
  ⟨e, [(Sum.inl (z : Int), v)], rfl, by show 1 ≤ 15; decide, h⟩
theorem r_sorted {K : PySem.W.Frag} {a : Addr} {ns : List Int} (h : SqL K H a (ns.map V.int)) (hl : ns.length < 64) (q : ∀ (ns' : List Int) (p : Addr), ns'.Perm ns → ns'.Pairwise (· ≤ ·) → H p = none → Q (.ref p) (upd H p (.lst (ns'.map V.int)))) : rSorted K [.ref a] H Q := ⟨a, ns, rfl, h, hl, q⟩
theorem natL_ints (l : List Nat) : natL l = (l.map fun (x : Nat) => (x : Int)).map V.int := by
  unfold natL
  rw [List.map_map]
  rfl
/-- what is a permutation of such numbers is of such numbers -/
theorem perm_nats {ns : List Int} {l : List Nat} (h : ns.Perm (l.map fun (x : Nat) => (x : Int))) : ∃ l' : List Nat, l'.Perm l ∧ ns.map V.int = natL l' := by
  have e : ns = (ns.map Int.toNat).map fun (x : Nat) => (x : Int) := by
    rw [List.map_map]
    have : ∀ x ∈ ns, ((fun (x : Nat) => (x : Int)) ∘ Int.toNat) x = id x := fun x hx => by
      have hm := (h.mem_iff).mp hx
      obtain ⟨y, _, rfl⟩ := List.mem_map.mp hm
      simp
    rw [List.map_congr_left this, List.map_id]
  refine ⟨ns.map Int.toNat, ?_, ?_⟩
  · have h2 := h.map Int.toNat
    rw [List.map_map] at h2
    have e2 : List.map (Int.toNat ∘ fun (x : Nat) => (x : Int)) l = l := by
      have : ∀ x ∈ l, (Int.toNat ∘ fun (x : Nat) => (x : Int)) x = id x := fun x _ => by simp
      rw [List.map_congr_left this, List.map_id]
    rw [e2] at h2
    exact h2
  · rw [natL_ints, ← e]
theorem sorted_nats {K : PySem.W.Frag} {a : Addr} {l : List Nat} (h : SqL K H a (natL l)) (hl : l.length < 64) (q : ∀ (l' : List Nat) (p : Addr), l'.Perm l → H p = none → Q (.ref p) (upd H p (.lst (natL l')))) : rSorted K [.ref a] H Q := by
  refine r_sorted (ns := l.map fun (x : Nat) => (x : Int)) (by rw [← natL_ints]; exact h) (by rw [List.length_map]; exact hl) fun ns' p hp _ hn => ?_
  obtain ⟨l', h1, h2⟩ := perm_nats hp
  rw [h2]
  exact q l' p h1 hn
end
section
variable {K : PySem.W.Frag} {ta : TA} {g : TG} {t : TS} {D : Ends} {σ : L2.St} {H : Hp} {a b : Addr} {xs ys : List V}
theorem f_zip (Pv : Nat → L2.St → Hp → Prop) (hl : xs.length = ys.length) (hta : ∀ R' : List V → Hp → Prop, R' [.ref a, .ref b] H → ta σ H R') (hx : SqL K H a xs) (hy : SqL K H b ys) (h0 : Pv 0 σ H) (hq : ∀ i σ' H', Pv i σ' H' → SqL K H' a xs ∧ SqL K H' b ys)
    (step : ∀ (i : Nat) (x y : V) (T : Addr) (σ' : L2.St) (H' : Hp), xs[i]? = some x → ys[i]? = some y → Pv i σ' H' → H' T = none → ∀ (N B : L2.St → Hp → Prop) (R : V → Hp → Prop), (∀ σ H, Pv (i + 1) σ H → N σ H) → (∀ σ H, D.nx σ H → B σ H) → (∀ v H, D.rt v H → R v H) →
      g (.ref T) σ' (upd H' T (.tup [x, y])) fun σ2 H2 => t { nx := N, ct := N, bk := B, rt := R } σ2 H2)
    (done : ∀ σ' H', Pv xs.length σ' H' → D.nx σ' H') : tFor (iZip K ta) g t D σ H :=
  hta _ ⟨a, b, xs, ys, rfl, hx, hy, RZ.for_zipL hl Pv h0 hq (fun i x y T σ' H' e1 e2 p n => step i x y T σ' H' e1 e2 p n (Pv (i + 1)) D.nx D.rt (fun _ _ q => q) (fun _ _ q => q) (fun _ _ q => q)) done⟩
end
section
variable {X : Cx}
theorem i_zip {e e2 : Expr} {ta : TA} {p pos tpos : Pos} {elts : List Expr} {kk : Nat} (K : PySem.W.Frag) (hg : Gl X "zip") (hm : X.mg "zip" = none) (ha : PA X [e, e2] ta)
    (hs : starEach [e, e2] X.env = (false, eval e X.env) :: starEach [e2] X.env := by rfl) (hpl : (backTo pos (starEach [e2] X.env)).any (·.1) = false := by rfl) (hK : X.K = K := by rfl) :
    PI X (.Tuple elts kk tpos) (.Call (.Name "zip" p) [e, e2] [] pos) (iZip K ta) := by subst hK; exact pi_zip hg hm ha hs hpl
end
/-- Same H1 H', but a new list at q and a new dict at p -/
theorem natL_get {l : List Nat} {i : Nat} (h : i < l.length) : (natL l)[i]? = some (.int ((l[i] : Nat) : Int)) := by
  unfold natL
  rw [List.getElem?_map, List.getElem?_eq_getElem h]
  rfl
theorem natL_snoc {l : List Nat} {z : Nat} : natL l ++ [V.int (z : Int)] = natL (l ++ [z]) := by
  unfold natL
  rw [List.map_append]
  rfl
theorem nodup_snoc {l : List Nat} {z : Nat} (h : l.Nodup) (hz : z ∉ l) : (l ++ [z]).Nodup := by
  rw [List.nodup_append]
  exact ⟨h, by simp, fun a ha b hb q => by rw [List.mem_singleton.mp hb] at q; exact hz (q ▸ ha)⟩
theorem nodup_len {n : Nat} {l : List Nat} (h : l.Nodup) (hb : ∀ x ∈ l, x < n) : l.length ≤ n := by
  have := List.Nodup.length_le_of_subset h (l₂ := List.range n) fun x hx => List.mem_range.mpr (hb x hx)
  rwa [List.length_range] at this
theorem nodup_full {n : Nat} {l : List Nat} (h : l.Nodup) (hb : ∀ x ∈ l, x < n) (hl : n ≤ l.length) : ∀ x, x < n → x ∈ l := by
  intro x hx
  refine Classical.byContradiction fun q => ?_
  have := nodup_len (nodup_snoc h q) (n := n) (fun y hy => by rcases List.mem_append.mp hy with hy | hy; exact hb y hy; rw [List.mem_singleton.mp hy]; exact hx)
  rw [List.length_append, List.length_singleton] at this
  omega
end Wk
end
section
set_option Elab.async false
set_option linter.all false
set_option maxRecDepth 100000
/-! comprehensions over lists: the heap only grows, or the list at p changes besides -/
namespace Wk
open PySem PySem.Spec PyProof.Rows L2
section
variable {K : PySem.W.Frag} {j : Nat} {tl te : TE} {vs : List Nat} {σ : L2.St} {H : Hp} {Q : VK} {a : Addr} {xs : List V}
/-- over a list: the items told by R, that may speak of where the new list lies -/
theorem lc_lstD (R : Addr → Nat → V → Hp → Prop) (hs : SqL K H a xs) (hz : xs.length ≤ 50000) (htl : ∀ R' : V → Hp → Prop, R' (.ref a) H → tl σ H R') (mono : ∀ D i v H1 H2 L, H1 D = some (.lst L) → ExP D H1 H2 → R D i v H1 → R D i v H2)
    (step : ∀ D (i : Nat) x H1 (Q' : VK) L, xs[i]? = some x → H D = none → Same H H1 → H1 D = some (.lst L) → (∀ v H2, Same H1 H2 → R D i v H2 → Q' v H2) → te ((wipe σ vs).set j (some x)) H1 Q')
    (done : ∀ D L H1, H D = none → Same H H1 → H1 D = some (.lst L) → L.length = xs.length → (∀ (i : Nat) v, L[i]? = some v → R D i v H1) → Q (.ref D) H1) (hw : ∀ x, wipe ((wipe σ vs).set j (some x)) vs = wipe σ vs := by intro _; rfl) : tLc (iList K tl) (gName j) tYes te vs σ H Q := by
  refine htl _ ⟨a, rfl, ⟨xs, hs⟩, fun D hD => ?_⟩
  refine lc_list (K := K) (a := a) (xs := xs) (fun i H1 => ∃ L, Same H H1 ∧ H1 D = some (.lst L) ∧ L.length = i ∧ ∀ (k : Nat) v, L[k]? = some v → R D k v H1) ⟨[], same_new hD, upd_same, rfl, fun k v e => by simp at e⟩ (fun i H1 _ ⟨_, s1, _⟩ => s1.seq hs) ?_ ?_
  · rintro i x H1 hx ⟨L, s1, hL, len, r⟩
    have hi : i < xs.length := (List.getElem?_eq_some_iff.mp hx).1
    refine ⟨hw _, ?_⟩
    refine r_yes (r_T ?_)
    refine step D i x H1 _ L hx hD s1 hL fun v H2 s2 rv => ?_
    have hL2 := s2 _ _ hL
    refine ⟨L, hL2, szlt (by omega), L ++ [v], fun b o e => ?_, upd_same, by rw [List.length_append, len]; rfl, fun k w e => ?_⟩
    · rw [upd_ne (ne_of_none e hD)]; exact s2 _ _ (s1 _ _ e)
    · rcases get_snoc e with ⟨_, q⟩ | ⟨q, rfl⟩
      · exact mono D k w H2 _ L hL2 ExP.upd (mono D k w H1 H2 L hL (L2.Same.exP s2) (r k w q))
      · rw [q, len]
        exact mono D i w H2 _ L hL2 ExP.upd rv
  · rintro H1 ⟨L, s1, hL, len, r⟩
    exact done D L H1 hD s1 hL len r
/-- the list at p changes while the new list is made -/
theorem lc_lstP {p : Addr} {o0 : HO} (I : Hp → Prop) (R : Nat → V → Prop) (hp : H p = some o0) (hs : ∀ H', ExP p H H' → SqL K H' a xs) (hz : xs.length ≤ 50000) (htl : ∀ R' : V → Hp → Prop, R' (.ref a) H → tl σ H R') (I0 : I H)
    (stay : ∀ D H1 L, H D = none → I H1 → (H1 D = none ∨ ∃ L0, H1 D = some (.lst L0)) → I (upd H1 D (.lst L)))
    (step : ∀ (i : Nat) x H1 (Q' : VK), xs[i]? = some x → ExP p H H1 → I H1 → (∀ v H2, ExP p H1 H2 → I H2 → R i v → Q' v H2) → te ((wipe σ vs).set j (some x)) H1 Q')
    (done : ∀ D L H1, H D = none → ExP p H H1 → I H1 → H1 D = some (.lst L) → L.length = xs.length → (∀ (i : Nat) v, L[i]? = some v → R i v) → Q (.ref D) H1) (hw : ∀ x, wipe ((wipe σ vs).set j (some x)) vs = wipe σ vs := by intro _; rfl) : tLc (iList K tl) (gName j) tYes te vs σ H Q := by
  refine htl _ ⟨a, rfl, ⟨xs, hs H (ExP.refl _ _)⟩, fun D hD => ?_⟩
  have hDp : D ≠ p := fun z => by rw [z, hp] at hD; cases hD
  refine lc_list (K := K) (a := a) (xs := xs) (fun i H1 => ∃ L, ExP p H H1 ∧ I H1 ∧ H1 D = some (.lst L) ∧ L.length = i ∧ ∀ (k : Nat) v, L[k]? = some v → R k v) ⟨[], (same_new hD).exP, stay D _ _ hD I0 (.inl hD), upd_same, rfl, fun k v e => by simp at e⟩ (fun i H1 _ ⟨_, s1, _⟩ => hs _ s1) ?_ ?_
  · rintro i x H1 hx ⟨L, s1, i1, hL, len, r⟩
    have hi : i < xs.length := (List.getElem?_eq_some_iff.mp hx).1
    refine ⟨hw _, ?_⟩
    refine r_yes (r_T ?_)
    refine step i x H1 _ hx s1 i1 fun v H2 s2 i2 rv => ?_
    have hL2 := s2 _ _ hDp hL
    refine ⟨L, hL2, szlt (by omega), L ++ [v], fun b o nb e => ?_, stay D _ _ hD i2 (.inr ⟨_, hL2⟩), upd_same, by rw [List.length_append, len]; rfl, fun k w e => ?_⟩
    · rw [upd_ne (ne_of_none e hD)]; exact s2 _ _ nb (s1 _ _ nb e)
    · rcases get_snoc e with ⟨_, q⟩ | ⟨q, rfl⟩
      · exact r k w q
      · rw [q, len]
        exact rv
  · rintro H1 ⟨L, s1, i1, hL, len, r⟩
    exact done D L H1 hD s1 i1 hL len r
end
theorem nats_of {k : Nat} : ∀ {L : List V}, (∀ v ∈ L, ∃ z : Nat, z < k ∧ v = .int (z : Int)) → ∃ l : List Nat, L = natL l ∧ ∀ z ∈ l, z < k
  | [], _ => ⟨[], rfl, fun _ h => by cases h⟩
  | v :: L, h => by
    obtain ⟨z, hz, rfl⟩ := h v List.mem_cons_self
    obtain ⟨l, rfl, hl⟩ := nats_of (L := L) fun u hu => h u (List.mem_cons_of_mem _ hu)
    exact ⟨z :: l, rfl, fun y hy => by
      rcases List.mem_cons.mp hy with rfl | hy
      · exact hz
      · exact hl y hy⟩
end Wk
end
section
set_option Elab.async false
set_option linter.all false
set_option maxRecDepth 100000
/-! slices -/
namespace Wk
open PySem PySem.Spec PyProof.Rows L2
section
variable {K : PySem.W.Frag} {σ : L2.St} {H : Hp} {Q : VK} {te : TE} {tl th : TO} {r : V → Option Int → Option Int → Hp → VK → Prop} {QO : Option Int → Hp → Prop}
theorem r_sl (h : te σ H fun x H1 => tl σ H1 fun l H2 => th σ H2 fun u H3 => r x l u H3 Q) : L2.tSl r te tl th σ H Q := h
theorem r_part (h : te σ H fun x H1 => ∃ i, x = .int i ∧ QO (some i) H1) : tPart te σ H QO := h
theorem r_nopart (h : QO none H) : tNoPart σ H QO := h
theorem r_slL {a : Addr} {xs : List V} {lo hi : Option Int} (h : SqL K H a xs) (q : ∀ p, H p = none → Q (.ref p) (upd H p (.lst (cutV xs lo hi)))) : rSlL K (.ref a) lo hi H Q := ⟨a, xs, rfl, h, q⟩
theorem sl_listK {X : Cx} (K : PySem.W.Frag) (hK : X.K = K := by rfl) : SlR X (rSlL K) := by subst hK; exact sl_list
theorem cut_take {xs : List V} {w : Nat} : cutV xs none (some (w : Int)) = xs.take w := by
  unfold cutV
  rw [HT.sIx_none, HT.sIx_nat, List.drop_zero, Nat.sub_zero]
  by_cases c : w ≤ xs.length
  · rw [Nat.min_eq_left c]
  · rw [Nat.min_eq_right (by omega), List.take_of_length_le (Nat.le_refl _), List.take_of_length_le (by omega)]
end
end Wk
end
section
set_option Elab.async false
set_option linter.all false
set_option maxRecDepth 100000
/-! max of a tuple; xs[i] += e -/
namespace Wk
open PySem PySem.Spec PyProof.Rows L2
def rMaxT (K : PySem.W.Frag) : List V → Hp → VK → Prop := fun vs H Q => ∃ (a : Addr) (ns : List Int), vs = [V.ref a] ∧ SqT K H a (ns.map V.int) ∧ 0 < ns.length ∧ ∀ m, m ∈ ns → (∀ y, y ∈ ns → y ≤ m) → Q (.int m) H
section
variable {X : Cx}
theorem holds_ints {h : Heap} : ∀ {us : List Value} {ns : List Int}, Vals (ns.map V.int) us → PySem.W.HoldAll h us ns
  | [], [], _ => PySem.W.HoldAll.nil
  | u :: us, n :: ns, r => by
    cases r with
    | cons a b =>
      obtain ⟨t, rfl⟩ := a
      exact PySem.W.HoldAll.cons ⟨_, .int _ _⟩ (holds_ints b)
theorem maxOf_ints : ∀ (ns : List Int) (n : Int), PySem.W.maxOf n ns ∈ n :: ns ∧ ∀ y ∈ n :: ns, y ≤ PySem.W.maxOf n ns
  | [], n => ⟨by simp [PySem.W.maxOf], fun y hy => by simp [PySem.W.maxOf] at hy ⊢; omega⟩
  | k :: ns, n => by
    have e : PySem.W.maxOf n (k :: ns) = PySem.W.maxOf (if n < k then k else n) ns := by
      unfold PySem.W.maxOf
      rw [List.foldl_cons]
      congr 1
      by_cases c : n < k
      · rw [if_pos c, if_pos (by simpa [PySem.W.DatumOrd.lt] using c)]
      · rw [if_neg c, if_neg (by simpa [PySem.W.DatumOrd.lt] using c)]
    obtain ⟨h1, h2⟩ := maxOf_ints ns (if n < k then k else n)
    rw [e]
    refine ⟨?_, fun y hy => ?_⟩
    · rcases List.mem_cons.mp h1 with h | h
      · rw [h]
        by_cases c : n < k
        · rw [if_pos c]; simp
        · rw [if_neg c]; simp
      · simp [h]
    · have h3 := h2 _ List.mem_cons_self
      have h4 : ∀ z ∈ ns, z ≤ PySem.W.maxOf (if n < k then k else n) ns := fun z hz => h2 z (List.mem_cons_of_mem _ hz)
      generalize PySem.W.maxOf (if n < k then k else n) ns = M at h3 h4 ⊢
      rcases List.mem_cons.mp hy with rfl | hy
      · split at h3 <;> omega
      · rcases List.mem_cons.mp hy with rfl | hy
        · split at h3 <;> omega
        · exact h4 y hy
theorem c_maxT (K : PySem.W.Frag) (hc : X.calm = true) (hu : X.A.units + 65 < cLine) (hK : X.K = K := by rfl) : CallR X (.builtin "max") (rMaxT K) := by
  subst hK
  intro pins s σ H vs us Q I r h
  obtain ⟨a, ns, rfl, hs, hne, q⟩ := h
  obtain ⟨its, rv, hl, _⟩ := I.tuple hs
  rw [Vals.ref1 r]
  cases ns with
  | nil => cases hne
  | cons n ns =>
    refine PySem.W.max_tuple_datum (I.ok.hd hc) hl (x := n) (xs := ns) (by simpa using holds_ints rv) (by show X.A.units + 1 + 0 < cLine; omega) fun i v h' tk hv ho hk => ?_
    obtain ⟨as, ho⟩ := ho
    cases ho
    obtain ⟨h1, h2⟩ := maxOf_ints ns n
    exact ⟨.int _, H, I.kept hk, ⟨_, rfl⟩, q _ h1 h2⟩
end
/-- o[i], by values -/
def rGetL (K : PySem.W.Frag) : V → V → Hp → VK → Prop := fun x y H Q => ∃ (p : Addr) (xs : List V) (j : Nat) (v : V), x = .ref p ∧ y = .int (j : Int) ∧ SqL K H p xs ∧ xs[j]? = some v ∧ Q v H
theorem get_listK {X : Cx} (K : PySem.W.Frag) (hK : X.K = K := by rfl) : PGet X (rGetL K) := by
  subst hK
  intro pins s σ H o i ov iv Q I ro ri h
  obtain ⟨p, xs, j, v, rfl, rfl, hq, he, q⟩ := h
  cases ro
  obtain ⟨t, rfl⟩ := ri
  obtain ⟨its, r, pl, hz⟩ := I.list hq
  obtain ⟨w, ew, rw'⟩ := r.get he
  have hl := r.length
  have hn := line63
  have hj := (List.getElem?_eq_some_iff.mp he).1
  exact wpAny_getItem_list pl.isList (by omega) (by omega) (by rw [Int.toNat_natCast]; simpa using ew) ⟨v, H, I, rw', q⟩
section
variable {σ : L2.St} {H : Hp} {D : Ends} {to ti te : TE} {tget : V → V → Hp → VK → Prop} {tip : TIp} {tset : TSet} {Q : VK}
theorem r_augS (h : to σ H fun o H1 => ti σ H1 fun i H2 => tget o i H2 fun x H3 => te σ H3 fun y H4 => tip x y H4 fun z H5 => tset o i z H5 fun H6 => D.nx σ H6) : tAugS to ti te tget tip tset D σ H := h
theorem r_getL {K : PySem.W.Frag} {p : Addr} {xs : List V} {j : Nat} {v : V} (h : SqL K H p xs) (e : xs[j]? = some v) (q : Q v H) : rGetL K (.ref p) (.int (j : Int)) H Q := ⟨p, xs, j, v, rfl, rfl, h, e, q⟩
theorem r_ipI {f : Int → Int → Int} {i j : Int} (q : Q (.int (f i j)) H) : ipI f (.int i) (.int j) H Q := ⟨i, j, rfl, rfl, q⟩
end
end Wk
end
section
set_option Elab.async false
set_option linter.all false
set_option maxRecDepth 100000
/-! defs called with keywords -/
namespace Wk
open PySem PySem.Spec PyProof.Rows L2
section
variable {X : Cx}
theorem c_maxL (K : PySem.W.Frag) (hc : X.calm = true) (hK : X.K = K := by rfl) : CallR X (.builtin "max") (rMax K) := by subst hK; exact cr_max hc
theorem c_minL (K : PySem.W.Frag) (hc : X.calm = true) (hK : X.K = K := by rfl) : CallR X (.builtin "min") (rMin K) := by subst hK; exact cr_min hc
theorem c_sumL (K : PySem.W.Frag) (hc : X.calm = true) (hK : X.K = K := by rfl) : CallR X (.builtin "sum") (rSum K) := by subst hK; exact cr_sum hc
end
def KeepK (P : Program) (w : World) (K : PySem.W.Frag) (mg : PySem.Str → Option Value) (base : Heap) (k : Nat) (x : PySem.Str) (ps : List PySem.Str) (n : Nat) (ks : List PySem.Str) (sp : Sp) : Prop :=
  ∃ f fd, FnOk P w K mg base CX0 k f fd ps sp ∧ mg x = some (.ref f) ∧ PySem.W.keepIn K (.ref f) = true ∧ KBn K fd ps n ks (fun us ws => us ++ ws) (fun vs zs => vs ++ zs)
/-- the def x of the text, called with and without keywords -/
def AtB (K : PySem.W.Frag) (mg : PySem.Str → Option Value) (x : PySem.Str) (st : Stmt) (ps : List PySem.Str) (n : Nat) (ks : List PySem.Str) : Prop :=
  ∃ f fd, Fun K x x st f fd ∧ mg x = some (.ref f) ∧ Binds K fd ps [] ∧ KBn K fd ps n ks (fun us ws => us ++ ws) (fun vs zs => vs ++ zs)
def KeepB (P : Program) (w : World) (K : PySem.W.Frag) (mg : PySem.Str → Option Value) (base : Heap) (k : Nat) (x : PySem.Str) (ps : List PySem.Str) (n : Nat) (ks : List PySem.Str) (sp : Sp) : Prop :=
  ∃ f fd, FnOk P w K mg base CX0 k f fd ps sp ∧ mg x = some (.ref f) ∧ PySem.W.keepIn K (.ref f) = true ∧ Binds K fd ps [] ∧ KBn K fd ps n ks (fun us ws => us ++ ws) (fun vs zs => vs ++ zs)
section
variable {P : Program} {w : World} {K : PySem.W.Frag} {mg : PySem.Str → Option Value} {base : Heap} {k n : Nat} {x : PySem.Str} {ps ks : List PySem.Str} {sp : Sp}
theorem KeepB.of {st : Stmt} {N : List PySem.Str} (a : AtB K mg x st ps n ks) (S : FnScope N ps (defScope st)) (len : ∀ vs H Q E, sp vs H Q E → vs.length = ps.length)
    (hbody : ∀ (f : Addr) (cdv : Value) (A : Around) (outer : List Env) (s : Shared) (H : Hp) (vs : List V) (Q : VK) (E : XK), Room k (A.deeper (envOfC x (defScope st) s.heap.objs.size f cdv)) → sp vs H Q E →
      ∃ t, PSs (cxOf CX0 P w K mg base N x (defScope st) f cdv A outer s H E).nox (defBody st) t ∧ t { nx := fun _ H' => Q .non H', rt := Q } (start N vs) H) : KeepB P w K mg base (k + 1) x ps n ks sp := by
  obtain ⟨f, fd, F, g, b, kb⟩ := a
  exact ⟨f, fd, F.ok S len (fun cdv A outer s H vs Q E hr h => hbody f cdv A outer s H vs Q E hr h), g, F.kp, b, kb⟩
theorem KeepB.keep (G : KeepB P w K mg base k x ps n ks sp) : Keep P w K mg base k x ps sp := by
  obtain ⟨f, fd, F, g, kp, b, _⟩ := G
  exact ⟨f, fd, F, g, kp, b⟩
theorem KeepB.kw (G : KeepB P w K mg base k x ps n ks sp) : KeepK P w K mg base k x ps n ks sp := by
  obtain ⟨f, fd, F, g, kp, _, kb⟩ := G
  exact ⟨f, fd, F, g, kp, kb⟩
end
section
variable {X : Cx} {k n : Nat} {x : PySem.Str} {ps ks : List PySem.Str} {sp : Sp} {p pos : Pos} {e : Expr} {es : List Expr} {kws : List Keyword} {t tk : TA}
theorem pe_kK (G : KeepK X.prog X.w X.K X.mg X.base k x ps n ks sp) (hr : Room k X.A) (hg : Gl X x) (ha : PA X (e :: es) t) (hkw : PK X kws tk) (hall : (backToKw pos (keywordEach kws X.env)).all (·.1.isSome) = true := by rfl) (hks : (backToKw pos (keywordEach kws X.env)).filterMap (·.1) = ks := by rfl)
    (hdb : (x == ("__debug__" : PySem.Str)) = false := by decide) (he : starEach (e :: es) X.env = (false, eval e X.env) :: starEach es X.env := by rfl)
    (hpl : ((backTo pos (starEach (e :: es) X.env)).any (·.1) || (backToKw pos (keywordEach kws X.env)).any (·.1.isNone)) = false := by rfl) :
    PE X (.Call (.Name x p) (e :: es) kws pos) (tCallN n ks.length sp (fun vs zs => vs ++ zs) E0 t tk) := by
  obtain ⟨f, fd, F, g, kp, b⟩ := G
  exact pe_callN F hr hg g kp b pass0 ha hkw hall hks hdb he hpl
theorem r_callN {m : Nat} {gV : List V → List V → List V} {E : XK} {σ : L2.St} {H : Hp} {Q : VK} (h : t σ H fun vs H1 => tk σ H1 fun zs H2 => vs.length = n ∧ zs.length = m ∧ sp (gV vs zs) H2 Q E) : tCallN n m sp gV E t tk σ H Q := h
end
section
variable {K : PySem.W.Frag} {j : Nat} {tl te : TE} {vs : List Nat} {σ : L2.St} {H : Hp} {Q : VK} {xs : List V}
/-- over range(n): the items told by R, that may speak of where the new list lies -/
theorem lc_rngD {n : Nat} {ta : TA} (R : Addr → Nat → V → Hp → Prop) (hn : n ≤ 50000) (hta : ∀ R' : List V → Hp → Prop, R' [.int n] H → ta σ H R') (mono : ∀ D i v H1 H2 L, H1 D = some (.lst L) → ExP D H1 H2 → R D i v H1 → R D i v H2)
    (step : ∀ D (i : Nat) H1 (Q' : VK) L, i < n → H D = none → Same H H1 → H1 D = some (.lst L) → (∀ v H2, Same H1 H2 → R D i v H2 → Q' v H2) → te ((wipe σ vs).set j (some (.int (i : Int)))) H1 Q')
    (done : ∀ D L H1, H D = none → Same H H1 → H1 D = some (.lst L) → L.length = n → (∀ (i : Nat) v, L[i]? = some v → R D i v H1) → Q (.ref D) H1) (hw : ∀ x, wipe ((wipe σ vs).set j (some x)) vs = wipe σ vs := by intro _; rfl) : tLc (iRng1 ta) (gName j) tYes te vs σ H Q := by
  refine hta _ ⟨n, rfl, by omega, by omega, fun D hD => ?_⟩
  have en : ((n : Int)).toNat = n := Int.toNat_natCast n
  rw [en]
  refine lc_range (lo := 0) (n := n) (fun i H1 => ∃ L, Same H H1 ∧ H1 D = some (.lst L) ∧ L.length = i ∧ ∀ (k : Nat) v, L[k]? = some v → R D k v H1) ⟨[], same_new hD, upd_same, rfl, fun k v e => by simp at e⟩ ?_ ?_
  · rintro i H1 hi ⟨L, s1, hL, len, r⟩
    have e0 : (0 : Int) + (i : Int) = (i : Int) := Int.zero_add _
    rw [e0]
    refine ⟨hw _, ?_⟩
    refine r_yes (r_T ?_)
    refine step D i H1 _ L hi hD s1 hL fun v H2 s2 rv => ?_
    have hL2 := s2 _ _ hL
    refine ⟨L, hL2, szlt (by omega), L ++ [v], fun b o e => ?_, upd_same, by rw [List.length_append, len]; rfl, fun k w e => ?_⟩
    · rw [upd_ne (ne_of_none e hD)]; exact s2 _ _ (s1 _ _ e)
    · rcases get_snoc e with ⟨_, q⟩ | ⟨q, rfl⟩
      · exact mono D k w H2 _ L hL2 ExP.upd (mono D k w H1 H2 L hL (L2.Same.exP s2) (r k w q))
      · rw [q, len]
        exact mono D i w H2 _ L hL2 ExP.upd rv
  · rintro H1 ⟨L, s1, hL, len, r⟩
    exact done D L H1 hD s1 hL len r
/-- over the tuple that a call hands back -/
theorem lc_tplS (R : Nat → V → Hp → Prop) (hz : xs.length ≤ 50000) (htl : ∀ R' : V → Hp → Prop, (∀ a H1, Same H H1 → SqT K H1 a xs → R' (.ref a) H1) → tl σ H R') (mono : ∀ i, Mut (R i))
    (step : ∀ (i : Nat) x H1 (Q' : VK), xs[i]? = some x → Same H H1 → (∀ v H2, Same H1 H2 → R i v H2 → Q' v H2) → te ((wipe σ vs).set j (some x)) H1 Q')
    (done : ∀ D L H1, H D = none → Same H H1 → H1 D = some (.lst L) → L.length = xs.length → (∀ i v, L[i]? = some v → R i v H1) → Q (.ref D) H1) (hw : ∀ x, wipe ((wipe σ vs).set j (some x)) vs = wipe σ vs := by intro _; rfl) : tLc (iTup K tl) (gName j) tYes te vs σ H Q :=
  htl _ fun a H1 s1 hs => lc_tpl (tl := fun _ H Q => Q (.ref a) H) R hs hz (fun _ h => h) mono (fun i x H2 Q' hx s2 k => step i x H2 Q' hx (s1.trans s2) k) (fun D L H2 hD s2 hL len r => done D L H2 (Same.free s1 hD) (s1.trans s2) hL len r) hw
end
end Wk
end
section
set_option linter.all false
/-! sums over the numbers below n; how many pairs are broken, and what follows for votes -/
namespace G
def sm : Nat → (Nat → Nat) → Nat
  | 0, _ => 0
  | n + 1, g => sm n g + g n
def ind (p : Prop) [Decidable p] : Nat := if p then 1 else 0
theorem ind_le (p : Prop) [Decidable p] : ind p ≤ 1 := by unfold ind; split <;> omega
theorem sm_congr {n : Nat} {g h : Nat → Nat} (e : ∀ i, i < n → g i = h i) : sm n g = sm n h := by
  induction n with
  | zero => rfl
  | succ n ih =>
    show sm n g + g n = sm n h + h n
    rw [ih fun i hi => e i (by omega), e n (by omega)]
theorem sm_le {n : Nat} {g h : Nat → Nat} (e : ∀ i, i < n → g i ≤ h i) : sm n g ≤ sm n h := by
  induction n with
  | zero => exact Nat.le_refl _
  | succ n ih =>
    show sm n g + g n ≤ sm n h + h n
    have := ih fun i hi => e i (by omega)
    have := e n (by omega)
    omega
theorem sm_add (n : Nat) (g h : Nat → Nat) : sm n (fun i => g i + h i) = sm n g + sm n h := by
  induction n with
  | zero => rfl
  | succ n ih =>
    show sm n (fun i => g i + h i) + (g n + h n) = sm n g + g n + (sm n h + h n)
    omega
theorem sm_mul (n c : Nat) (g : Nat → Nat) : sm n (fun i => c * g i) = c * sm n g := by
  induction n with
  | zero => rfl
  | succ n ih =>
    show sm n (fun i => c * g i) + c * g n = c * (sm n g + g n)
    rw [ih, Nat.mul_add]
theorem sm_mulR (n c : Nat) (g : Nat → Nat) : sm n (fun i => g i * c) = sm n g * c := by
  rw [Nat.mul_comm, ← sm_mul]
  exact sm_congr fun i _ => Nat.mul_comm _ _
theorem sm_const (n c : Nat) : sm n (fun _ => c) = n * c := by
  induction n with
  | zero => simp [sm]
  | succ n ih =>
    show sm n (fun _ => c) + c = (n + 1) * c
    rw [ih, Nat.succ_mul]
theorem sm_zero (n : Nat) : sm n (fun _ => 0) = 0 := by rw [sm_const]; simp
theorem sm_comm (n k : Nat) (g : Nat → Nat → Nat) : sm n (fun i => sm k (g i)) = sm k fun j => sm n fun i => g i j := by
  induction n with
  | zero =>
    show 0 = sm k fun _ => 0
    rw [sm_zero]
  | succ n ih =>
    show sm n (fun i => sm k (g i)) + sm k (g n) = sm k fun j => sm n (fun i => g i j) + g n j
    rw [sm_add, ih]
theorem sm_one {n a : Nat} (c : Nat) (h : a < n) : sm n (fun i => if i = a then c else 0) = c := by
  induction n with
  | zero => omega
  | succ n ih =>
    show sm n (fun i => if i = a then c else 0) + (if n = a then c else 0) = c
    by_cases q : n = a
    · rw [if_pos q, sm_congr (h := fun _ => 0) fun i hi => if_neg (by omega), sm_zero]
      omega
    · rw [if_neg q, ih (by omega)]
      omega
/-- a sum over the values of a bijection -/
theorem sm_perm {n : Nat} {s t : Nat → Nat} (g : Nat → Nat) (hs : ∀ i, i < n → s i < n) (ht : ∀ i, i < n → t i < n) (st : ∀ i, i < n → s (t i) = i) (ts : ∀ i, i < n → t (s i) = i) : sm n (fun i => g (s i)) = sm n g := by
  have e1 : sm n (fun i => g (s i)) = sm n fun i => sm n fun j => if j = s i then g j else 0 := by
    refine sm_congr fun i hi => ?_
    rw [sm_congr (n := n) (g := fun j => if j = s i then g j else 0) (h := fun j => if j = s i then g (s i) else 0) fun j _ => by
      by_cases q : j = s i
      · rw [if_pos q, if_pos q, q]
      · rw [if_neg q, if_neg q], sm_one _ (hs i hi)]
  rw [e1, sm_comm]
  refine sm_congr fun j hj => ?_
  rw [sm_congr (n := n) (g := fun i => if j = s i then g j else 0) (h := fun i => if i = t j then g j else 0) fun i hi => by
    by_cases q : i = t j
    · rw [if_pos q, if_pos (by rw [q, st j hj])]
    · rw [if_neg q, if_neg (fun z => q (by rw [z, ts i hi]))]]
  exact sm_one _ (ht j hj)
theorem sm_filter (n : Nat) (p : Nat → Bool) : ((List.range n).filter p).length = sm n fun i => ind (p i = true) := by
  induction n with
  | zero => rfl
  | succ n ih =>
    rw [List.range_succ, List.filter_append, List.length_append, ih]
    show _ = sm n (fun i => ind (p i = true)) + ind (p n = true)
    congr 1
    unfold ind
    cases e : p n <;> simp [e]
theorem sm_list (n : Nat) (g : Nat → Nat) : ((List.range n).map fun i => (g i : Int)).sum = (sm n g : Int) := by
  induction n with
  | zero => rfl
  | succ n ih =>
    rw [List.range_succ, List.map_append, List.sum_append, ih]
    show (sm n g : Int) + (List.map (fun i => (g i : Int)) [n]).sum = ((sm n g + g n : Nat) : Int)
    simp
/-- how many pairs are broken -/
def brk (n : Nat) (m1 m2 : Nat → Nat → Nat) (f : Nat → Nat) : Nat := sm n fun x => sm n fun y => ind (m2 (f x) (f y) ≠ f (m1 x y))
section
variable {n k : Nat} {m1 m2 : Nat → Nat → Nat} {e1 e2 : Nat} {inv1 inv f : Nat → Nat} {x : Nat}
theorem vts_sm (h : Nat) : vts m1 m2 inv f x n h = sm n fun y => ind (vote m1 m2 inv f x y = h) := by
  unfold vts
  rw [sm_filter]
  exact sm_congr fun i _ => by
    unfold ind
    by_cases q : vote m1 m2 inv f x i = h
    · rw [if_pos q, if_pos (by simpa using q)]
    · rw [if_neg q, if_neg (by simpa using q)]
/-- two votes at x are unlike at twice the broken pairs at most -/
theorem unlike_le (g1 : Grp n m1) (g2 : Grp k m2) (h1 : IsNe n m1 e1) (h2 : IsNe k m2 e2) (i1 : InvOf n m1 e1 inv1) (i2 : InvOf k m2 e2 inv) (hf : ∀ x, x < n → f x < k) (hx : x < n) :
    sm n (fun z => sm n fun y => ind (vote m1 m2 inv f x y ≠ vote m1 m2 inv f x z)) ≤ 2 * brk n m1 m2 f := by
  have c1 : ∀ {a b}, a < n → b < n → m1 a b < n := fun ha hb => g1.cl _ _ ha hb
  -- if neither (xz, u) nor (z, u) is broken, u = z^-1 y, the votes of y and z are equal
  have key : ∀ z y, z < n → y < n → ind (vote m1 m2 inv f x y ≠ vote m1 m2 inv f x z) ≤ ind (m2 (f (m1 x z)) (f (m1 (inv1 z) y)) ≠ f (m1 (m1 x z) (m1 (inv1 z) y))) + ind (m2 (f z) (f (m1 (inv1 z) y)) ≠ f (m1 z (m1 (inv1 z) y))) := fun z y hz hy => by
    obtain ⟨hiz, z1, z2⟩ := i1 z hz
    have hu := c1 hiz hy
    have e : m1 z (m1 (inv1 z) y) = y := by rw [← g1.as z _ y hz hiz hy, z1, h1.l y hy]
    have e' : m1 (m1 x z) (m1 (inv1 z) y) = m1 x y := by rw [g1.as x z _ hx hz hu, e]
    rw [e, e']
    by_cases p : m2 (f (m1 x z)) (f (m1 (inv1 z) y)) = f (m1 x y)
    · by_cases q : m2 (f z) (f (m1 (inv1 z) y)) = f y
      · have hfu := hf _ hu
        obtain ⟨iy1, iy2, iy3⟩ := i2 _ (hf y hy)
        obtain ⟨iz1, iz2, iz3⟩ := i2 _ (hf z hz)
        have ev : vote m1 m2 inv f x y = vote m1 m2 inv f x z := by
          unfold vote
          have hxz := hf _ (c1 hx hz)
          -- f(xy) f(y)^-1 = f(xz) f(u) f(y)^-1, and f(u) f(y)^-1 = f(z)^-1
          have w : m2 (f (m1 (inv1 z) y)) (inv (f y)) = inv (f z) := by
            have hw := g2.cl _ _ hfu iy1
            have t1 : m2 (f z) (m2 (f (m1 (inv1 z) y)) (inv (f y))) = e2 := by rw [← g2.as _ _ _ (hf z hz) hfu iy1, q, iy2]
            exact inv_uniq g2 h2 (hf z hz) hw iz1 t1 iz3
          rw [← p, g2.as _ _ _ hxz hfu iy1, w]
        unfold ind
        rw [if_neg (fun q => q ev)]
        omega
      · have := ind_le (vote m1 m2 inv f x y ≠ vote m1 m2 inv f x z)
        have : ind (m2 (f z) (f (m1 (inv1 z) y)) ≠ f y) = 1 := by unfold ind; rw [if_pos q]
        omega
    · have := ind_le (vote m1 m2 inv f x y ≠ vote m1 m2 inv f x z)
      have : ind (m2 (f (m1 x z)) (f (m1 (inv1 z) y)) ≠ f (m1 x y)) = 1 := by unfold ind; rw [if_pos p]
      omega
  have s1 := sm_le (n := n) (g := fun z => sm n fun y => ind (vote m1 m2 inv f x y ≠ vote m1 m2 inv f x z)) (h := fun z => sm n (fun y => ind (m2 (f (m1 x z)) (f (m1 (inv1 z) y)) ≠ f (m1 (m1 x z) (m1 (inv1 z) y)))) + sm n fun y => ind (m2 (f z) (f (m1 (inv1 z) y)) ≠ f (m1 z (m1 (inv1 z) y)))) fun z hz => by
    rw [← sm_add]
    exact sm_le fun y hy => key z y hz hy
  rw [sm_add] at s1
  have inner : ∀ (a z : Nat), z < n → sm n (fun y => ind (m2 (f a) (f (m1 (inv1 z) y)) ≠ f (m1 a (m1 (inv1 z) y)))) = sm n fun u => ind (m2 (f a) (f u) ≠ f (m1 a u)) := fun a z hz => by
    obtain ⟨hiz, z1, z2⟩ := i1 z hz
    exact sm_perm (s := fun y => m1 (inv1 z) y) (t := fun u => m1 z u) (fun u => ind (m2 (f a) (f u) ≠ f (m1 a u))) (fun i hi => c1 hiz hi) (fun i hi => c1 hz hi)
      (fun i hi => by show m1 (inv1 z) (m1 z i) = i; rw [← g1.as _ _ _ hiz hz hi, z2, h1.l i hi]) (fun i hi => by show m1 z (m1 (inv1 z) i) = i; rw [← g1.as _ _ _ hz hiz hi, z1, h1.l i hi])
  obtain ⟨hix, x1, x2⟩ := i1 x hx
  have o1 : sm n (fun z => sm n fun y => ind (m2 (f (m1 x z)) (f (m1 (inv1 z) y)) ≠ f (m1 (m1 x z) (m1 (inv1 z) y)))) = brk n m1 m2 f := by
    rw [sm_congr fun z hz => inner (m1 x z) z hz]
    exact sm_perm (s := fun z => m1 x z) (t := fun z => m1 (inv1 x) z) (fun a => sm n fun u => ind (m2 (f a) (f u) ≠ f (m1 a u))) (fun i hi => c1 hx hi) (fun i hi => c1 hix hi)
      (fun i hi => by show m1 x (m1 (inv1 x) i) = i; rw [← g1.as _ _ _ hx hix hi, x1, h1.l i hi]) (fun i hi => by show m1 (inv1 x) (m1 x i) = i; rw [← g1.as _ _ _ hix hx hi, x2, h1.l i hi])
  have o2 : sm n (fun z => sm n fun y => ind (m2 (f z) (f (m1 (inv1 z) y)) ≠ f (m1 z (m1 (inv1 z) y)))) = brk n m1 m2 f := sm_congr fun z hz => inner z z hz
  rw [o1, o2] at s1
  omega
end
end G
end
section
set_option linter.all false
namespace G
theorem ind_mul (p q : Prop) [Decidable p] [Decidable q] : ind p * ind q = ind (p ∧ q) := by
  unfold ind
  by_cases a : p <;> by_cases b : q <;> simp [a, b]
theorem ind_iff {p q : Prop} [Decidable p] [Decidable q] (h : p ↔ q) : ind p = ind q := by
  unfold ind
  by_cases a : p
  · rw [if_pos a, if_pos (h.mp a)]
  · rw [if_neg a, if_neg (fun b => a (h.mpr b))]
theorem ind_not (p : Prop) [Decidable p] : ind p + ind (¬ p) = 1 := by
  unfold ind
  by_cases a : p <;> simp [a]
theorem sm_prod (n l : Nat) (a b : Nat → Nat) : sm n (fun i => sm l fun j => a j * b i) = sm l a * sm n b := by
  rw [sm_congr (h := fun i => sm l a * b i) fun i _ => sm_mulR l (b i) a, sm_mul]
section
variable {n k : Nat} {m1 m2 : Nat → Nat → Nat} {e1 e2 : Nat} {inv1 inv f : Nat → Nat} {x : Nat}
/-- any values v y below k: pairs with equal ones, by how often each value is taken -/
theorem equal_pairs (v : Nat → Nat) (hv : ∀ y, y < n → v y < k) : sm k (fun h => (sm n fun y => ind (v y = h)) * (sm n fun y => ind (v y = h))) = sm n fun z => sm n fun y => ind (v y = v z) := by
  have a1 : ∀ h, (sm n fun y => ind (v y = h)) * (sm n fun y => ind (v y = h)) = sm n fun z => sm n fun y => ind (v y = h) * ind (v z = h) := fun h => (sm_prod n n (fun y => ind (v y = h)) fun z => ind (v z = h)).symm
  rw [sm_congr fun h _ => a1 h, sm_comm]
  refine sm_congr fun z hz => ?_
  rw [sm_comm]
  refine sm_congr fun y hy => ?_
  have a2 : ∀ h, ind (v y = h) * ind (v z = h) = if h = v z then ind (v y = v z) else 0 := fun h => by
    rw [ind_mul]
    by_cases q : h = v z
    · rw [if_pos q, q]
      exact ind_iff ⟨fun a => a.1, fun a => ⟨a, rfl⟩⟩
    · rw [if_neg q]
      unfold ind
      rw [if_neg (fun a => q a.2.symm)]
  rw [sm_congr fun h _ => a2 h]
  exact sm_one _ (hv z hz)
theorem pairs_all (v : Nat → Nat) : (sm n fun z => sm n fun y => ind (v y = v z)) + (sm n fun z => sm n fun y => ind (v y ≠ v z)) = n * n := by
  rw [← sm_add, sm_congr (h := fun _ => n) fun z _ => ?_, sm_const]
  rw [← sm_add, sm_congr (h := fun _ => 1) fun y _ => ind_not _, sm_const]
  omega
theorem cut_pairs (v : Nat → Nat) (h c : Nat) (hc : c = sm n fun y => ind (v y = h)) : 2 * (c * (n - c)) ≤ sm n fun z => sm n fun y => ind (v y ≠ v z) := by
  have d : sm n (fun y => ind (¬ v y = h)) = n - c := by
    have : sm n (fun y => ind (v y = h)) + sm n (fun y => ind (¬ v y = h)) = n := by
      rw [← sm_add, sm_congr (h := fun _ => 1) fun y _ => ind_not _, sm_const]
      omega
    omega
  have p1 := sm_prod n n (fun y => ind (v y = h)) fun z => ind (¬ v z = h)
  have p2 := sm_prod n n (fun y => ind (¬ v y = h)) fun z => ind (v z = h)
  rw [← hc, d] at p1 p2
  have le := sm_le (n := n) (g := fun z => sm n (fun y => ind (v y = h) * ind (¬ v z = h)) + sm n fun y => ind (¬ v y = h) * ind (v z = h)) (h := fun z => sm n fun y => ind (v y ≠ v z)) fun z _ => by
    rw [← sm_add]
    refine sm_le fun y _ => ?_
    rw [ind_mul, ind_mul]
    unfold ind
    by_cases a : v y = h
    · by_cases b : v z = h
      · rw [if_neg (fun q => q.2 b), if_neg (fun q => q.1 a)]; omega
      · rw [if_pos ⟨a, b⟩, if_neg (fun q => q.1 a), if_pos (fun q => b (by rw [← q, a]))]; omega
    · by_cases b : v z = h
      · rw [if_neg (fun q => a q.1), if_pos ⟨a, b⟩, if_pos (fun q => a (by rw [q, b]))]; omega
      · rw [if_neg (fun q => a q.1), if_neg (fun q => b q.2)]; omega
  rw [sm_add, p1, p2, Nat.mul_comm (n - c) c] at le
  omega
theorem equal_ge (g1 : Grp n m1) (g2 : Grp k m2) (h1 : IsNe n m1 e1) (h2 : IsNe k m2 e2) (i1 : InvOf n m1 e1 inv1) (i2 : InvOf k m2 e2 inv) (hf : ∀ x, x < n → f x < k) (hx : x < n) :
    n * n ≤ sm k (fun h => vts m1 m2 inv f x n h * vts m1 m2 inv f x n h) + 2 * brk n m1 m2 f := by
  have u := unlike_le g1 g2 h1 h2 i1 i2 hf hx
  have e := equal_pairs (n := n) (k := k) (vote m1 m2 inv f x) fun y hy => vote_lt g1 g2 i2 hf hx hy
  have a := pairs_all (n := n) (vote m1 m2 inv f x)
  rw [sm_congr (h := fun h => (sm n fun y => ind (vote m1 m2 inv f x y = h)) * (sm n fun y => ind (vote m1 m2 inv f x y = h))) fun h _ => by rw [vts_sm], e]
  omega
theorem cut_le (g1 : Grp n m1) (g2 : Grp k m2) (h1 : IsNe n m1 e1) (h2 : IsNe k m2 e2) (i1 : InvOf n m1 e1 inv1) (i2 : InvOf k m2 e2 inv) (hf : ∀ x, x < n → f x < k) (hx : x < n) (h : Nat) :
    vts m1 m2 inv f x n h * (n - vts m1 m2 inv f x n h) ≤ brk n m1 m2 f := by
  have u := unlike_le g1 g2 h1 h2 i1 i2 hf hx
  have c := cut_pairs (n := n) (vote m1 m2 inv f x) h _ (vts_sm h)
  omega
end
end G
end
section
set_option Elab.async false
set_option linter.all false
namespace G
/-- the law's own reckoning of the greatest common divisor: where it stands behind i steps -/
def EuI (a b M i x y : Nat) : Prop := Nat.gcd x y = Nat.gcd a b ∧ ((i = 0 ∧ x = a ∧ y = b) ∨ (1 ≤ i ∧ y < x ∧ x * y * 2 ^ (i - 1) < 2 ^ M))
theorem EuI.zero {a b M : Nat} : EuI a b M 0 a b := ⟨rfl, .inl ⟨rfl, rfl, rfl⟩⟩
theorem EuI.step {a b M i x y : Nat} (hM : a * b < 2 ^ M) (h : EuI a b M i x y) (hy : y ≠ 0) : EuI a b M (i + 1) y (x % y) := by
  obtain ⟨hg, h⟩ := h
  have hy0 : 0 < y := Nat.pos_of_ne_zero hy
  have lt : x % y < y := Nat.mod_lt _ hy0
  refine ⟨by rw [← hg, Nat.gcd_comm x y, Nat.gcd_rec y x, Nat.gcd_comm], .inr ⟨by omega, lt, ?_⟩⟩
  rcases h with ⟨rfl, rfl, rfl⟩ | ⟨h1, hlt, hp⟩
  · rw [Nat.zero_add, Nat.sub_self, Nat.pow_zero, Nat.mul_one]
    have := Nat.mul_le_mul_left y (Nat.mod_le x y)
    rw [Nat.mul_comm x y] at hM
    omega
  · have e : i + 1 - 1 = (i - 1) + 1 := by omega
    rw [e, Nat.pow_succ]
    have d := Nat.div_add_mod x y
    have q1 : 1 ≤ x / y := (Nat.le_div_iff_mul_le hy0).mpr (by omega)
    have m1 := Nat.mul_le_mul_left y q1
    have h2 : 2 * (x % y) ≤ x := by omega
    have h3 := Nat.mul_le_mul_left y h2
    have h4 := Nat.mul_le_mul_right (2 ^ (i - 1)) h3
    have e2 : y * (x % y) * (2 ^ (i - 1) * 2) = y * (2 * (x % y)) * 2 ^ (i - 1) := by
      rw [Nat.mul_comm (2 ^ (i - 1)) 2, ← Nat.mul_assoc, ← Nat.mul_assoc y 2, Nat.mul_comm y 2, Nat.mul_assoc 2 y, Nat.mul_comm 2 (y * (x % y))]
    rw [e2]
    rw [Nat.mul_comm y x] at h4
    omega
theorem EuI.fin {a b M N x y : Nat} (h : EuI a b M N x y) (hN : M + 1 ≤ N) : x = Nat.gcd a b := by
  obtain ⟨hg, h⟩ := h
  rcases h with ⟨e, _⟩ | ⟨h1, hlt, hp⟩
  · omega
  · have y0 : y = 0 := by
      apply Classical.byContradiction
      intro c
      have a1 : 1 ≤ x * y := Nat.mul_pos (by omega) (by omega)
      have a2 : 2 ^ M ≤ 2 ^ (N - 1) := Nat.pow_le_pow_right (by decide) (by omega)
      have a3 := Nat.mul_le_mul_right (2 ^ (N - 1)) a1
      omega
    rw [y0, Nat.gcd_zero_right] at hg
    exact hg
theorem EuI.now {a b M i x : Nat} (h : EuI a b M i x 0) : x = Nat.gcd a b := by
  have hg := h.1
  rw [Nat.gcd_zero_right] at hg
  exact hg
end G
end
section
set_option Elab.async false
set_option linter.all false
set_option maxRecDepth 100000
namespace Wk
open PySem PySem.Spec PyProof.Rows L2
section
variable {X : Cx} {C : Addr} {k i : Nat} {sp : Sp} {x m : PySem.Str} {e o : Expr} {es : List Expr} {ta : TE} {t tk : TA} {p pos apos : Pos} {kws : List Keyword} {ps ks : List PySem.Str}
/-- the class is called: its __init__ keeps sp -/
def KeepC (P : Program) (w : World) (K : PySem.W.Frag) (mg : PySem.Str → Option Value) (base : Heap) (k : Nat) (C : Addr) (ps ks : List PySem.Str) (sp : Sp) : Prop :=
  ∃ f fd, Mk K C f ∧ FnOk P w K mg base CX0 k f fd ps sp ∧ Binds K fd ps [] ∧ KBn K fd ps 1 ks (fun us ws => us ++ ws) (fun vs zs => vs ++ zs)
theorem e_make (M : KeepC X.prog X.w X.K X.mg X.base k C ps ks sp) (hr : Room (k + 1) X.A) (hg : Gl X x) (hm : X.mg x = some (.ref C)) (ha : PA X (e :: es) t) (hdb : (x == ("__debug__" : PySem.Str)) = false := by decide)
    (he : starEach (e :: es) X.env = (false, eval e X.env) :: starEach es X.env := by rfl) (hpl : (backTo pos (starEach es X.env)).any (·.1) = false := by rfl) : PE X (.Call (.Name x p) (e :: es) [] pos) (tMake C sp [] E0 t) := by
  obtain ⟨f, fd, M, F, hb, _⟩ := M
  exact pe_make M F hr hg hm hb .nil pass0 ha hdb he hpl
theorem r_make {dvs : List V} {E : XK} {σ : L2.St} {H : Hp} {Q : VK} (h : t σ H fun vs H1 => ∀ x dx, H1 x = none → H1 dx = none → dx ≠ x → sp (.ref x :: (vs ++ dvs)) (upd (upd H1 dx (.own x)) x (.ins C dx [])) (fun v H2 => v = .non ∧ Q (.ref x) H2) E) : tMake C sp dvs E t σ H Q := h
/-- the class in the i-th slot is called -/
def tMakeL (i : Nat) (C : Addr) (sp : Sp) (t : TA) : TE := fun σ H Q => σ[i]? = some (some (.ref C)) ∧ tMake C sp [] E0 t σ H Q
theorem e_makeL (M : KeepC X.prog X.w X.K X.mg X.base k C ps ks sp) (hr : Room (k + 1) X.A) (ha : PA X (e :: es) t) (hN : X.N[i]? = some x := by rfl) (hv : Vis X.env.scope x := by first | exact Or.inl rfl | exact Or.inr (Or.inl rfl) | exact Or.inr (Or.inr rfl)) (hdb : (x == ("__debug__" : PySem.Str)) = false := by decide) (hcd : (x == ("__classdict__" : PySem.Str)) = false := by decide)
    (he : starEach (e :: es) X.env = (false, eval e X.env) :: starEach es X.env := by rfl) (hpl : (backTo pos (starEach es X.env)).any (·.1) = false := by rfl) : PE X (.Call (.Name x p) (e :: es) [] pos) (tMakeL i C sp t) := by
  obtain ⟨f, fd, M, F, hb, _⟩ := M
  refine ⟨fun pins s σ H Q I h => ?_⟩
  obtain ⟨hs, ht⟩ := h
  refine wpAny_Call_Name_kw (thn ((pe_var (pos := p) hN hv hdb hcd).run pins s σ H (fun v H1 => v = .ref C ∧ H1 = H) I ⟨.ref C, hs, rfl, rfl⟩) fun u s1 ⟨v, H1, I1, r1, q1⟩ => ?_)
  obtain ⟨rfl, rfl⟩ := q1
  cases r1
  refine PySem.W.callWith_K (h₀ := X.base) I.ok.mod.kin M.kp (thn (ha.run pos pins s1 σ _ _ I1 ht) fun us s2 ⟨vs, H2, I2, r, q⟩ => ⟨I2.kIn, ?_⟩) he hpl
  exact run_make M F hr hb .nil pass0 I2 r q
/-- x(k = v, ..), a def of the text -/
theorem pe_kK0 (G : KeepK X.prog X.w X.K X.mg X.base k x ps 0 ks sp) (hr : Room k X.A) (hg : Gl X x) (hkw : PK X kws tk) (hall : (backToKw pos (keywordEach kws X.env)).all (·.1.isSome) = true := by rfl) (hks : (backToKw pos (keywordEach kws X.env)).filterMap (·.1) = ks := by rfl)
    (hdb : (x == ("__debug__" : PySem.Str)) = false := by decide)
    (hpl : ((backTo pos (starEach [] X.env)).any (·.1) || (backToKw pos (keywordEach kws X.env)).any (·.1.isNone)) = false := by rfl) :
    PE X (.Call (.Name x p) [] kws pos) (tCallN 0 ks.length sp (fun vs zs => vs ++ zs) E0 tNil tk) := by
  obtain ⟨f, fd, F, g, kp, b⟩ := G
  refine ⟨fun pins s σ H Q I h => ?_⟩
  refine wpAny_Call_Name_kw (ld_glob I hg g ?_ hdb)
  refine PySem.W.callWith_KW0 (h₀ := X.base) I.ok.mod.kin kp hall ?_ hpl
  refine thn (hkw.run pos pins s σ H _ I h) fun ws s2 ⟨zs, H2, I2, rz, l1, l2, q2⟩ => ⟨I2.kIn, ?_⟩
  rw [hks]
  exact run_fnN (us := []) (vs := []) F hr b pass0 I2 .nil rz l1 l2 q2
/-- a classmethod of the class at C -/
def KeepCM (P : Program) (w : World) (K : PySem.W.Frag) (mg : PySem.Str → Option Value) (base : Heap) (k : Nat) (C : Addr) (m : PySem.Str) (ps : List PySem.Str) (sp : Sp) : Prop :=
  ∃ p g fd, ClX.CRead K C (.type "type") ∧ ClX.CMet K C (.type "type") m p g ∧ FnOk P w K mg base CX0 k g fd ps sp ∧ Binds K fd ps []
theorem e_cm {pl : Sem Bool} (M : KeepCM X.prog X.w X.K X.mg X.base k C m ps sp) (hr : Room k X.A) (he : PE X o ta) (ha : PA X (e :: es) t)
    (hst : starEach (e :: es) X.env = (false, eval e X.env) :: starEach es X.env := by rfl) (hpl : (backTo pos (starEach es X.env)).any (·.1) = false := by rfl)
    (ht : eval (.Call (.Attribute o m apos) (e :: es) [] pos) X.env = (do
      let ov ← eval o X.env
      standAt apos.atName
      let (f, first) ← holding [ov] (getMethod ov m pl)
      callWith pos f first (backTo pos (starEach (e :: es) X.env)) (backToKw pos (keywordEach [] X.env))) := by rfl) :
    PE X (.Call (.Attribute o m apos) (e :: es) [] pos) (ClX.tCMeth C (fun vs H Q E => sp (vs ++ []) H Q E) E0 ta t) := by
  obtain ⟨p, g, fd, r, c, F, hb⟩ := M
  exact ClX.pe_cmeth he r c (F.raw hb .nil) hr pass0 ha hst hpl ht
theorem r_cm {σ : L2.St} {H : Hp} {Q : VK} (h : ta σ H fun x H1 => x = .ref C ∧ t σ H1 fun vs H2 => sp (.ref C :: vs) H2 Q E0) : ClX.tCMeth C (fun vs H Q E => sp (vs ++ []) H Q E) E0 ta t σ H Q := by
  have e : (fun (vs : List V) (H2 : Hp) => sp (.ref C :: vs ++ []) H2 Q E0) = fun vs H2 => sp (.ref C :: vs) H2 Q E0 := by
    funext vs H2
    rw [List.append_nil]
  show ta σ H fun x H1 => x = .ref C ∧ t σ H1 fun vs H2 => sp (.ref C :: vs ++ []) H2 Q E0
  rw [e]
  exact h
end
end Wk
end
section
set_option Elab.async false
set_option linter.all false
set_option maxRecDepth 100000
namespace Wk
open PySem PySem.Spec PyProof.Rows L2
local macro_rules | `(tactic| walk_at "hp") => `(tactic| first | assumption | exact upd_same | exact (upd_ne (ne_of_none (by assumption) (by assumption))).trans (by assumption) | (rw [upd_ne (by first | assumption | exact Ne.symm (by assumption))]; walk_at "hp"))
local macro_rules | `(tactic| walk_at "sq") => `(tactic| first | assumption | exact SqL.of (by assumption) | exact SqT.of (by assumption) | exact SqL.of (by walk_at "hp") | exact SqT.of (by walk_at "hp") | (refine Same.seq ?_ ?_ <;> assumption))
local macro_rules | `(tactic| walk_at "cmul") => `(tactic| first | exact .inr ⟨by decide, by decide⟩ | exact .inl ⟨by decide, by decide⟩ | exact .inr ⟨by omega, by omega⟩ | exact .inl ⟨by omega, by omega⟩)
local macro_rules | `(tactic| walk_at "cdiv") => `(tactic| first | exact ⟨by decide, by decide⟩ | exact wide_div (b := 64) (by omega) (by omega) (by decide) (by decide) | exact wide_div (b := 128) (by omega) (by omega) (by decide) (by decide))
local macro_rules | `(tactic| walk_at "rd1") => `(tactic| first
  | ((with_reducible show tVar _ _ _ _); refine Wk.r_var rfl ?_)
  | (with_reducible first
    | refine Wk.r_c ?_ | refine Wk.r_op ?_ | refine Wk.r_cons ?_ | refine Wk.r_nil ?_
    | refine Wk.r_seq ?_ | refine Wk.r_next ?_ | refine Wk.r_set ?_ | refine Wk.r_asgS ?_ | refine Wk.r_ret ?_ | refine Wk.r_drop ?_ | refine Wk.r_if ?_
    | refine Wk.r_asgG ?_ | refine Wk.r_gName ?_ | refine Wk.r_gCons ?_ | refine Wk.r_gNil ?_ | refine Wk.r_par ?_ | refine Wk.r_par3 ?_ | refine Wk.r_lstRg1 ?_ | refine Wk.r_tupRg1 ?_ | refine ⟨_, _, _, rfl, ?_⟩ | refine Wk.r_un ?_ | refine Wk.r_I0 ?_ | refine Wk.r_U ?_
    | refine Wk.r_test ?_ | refine Wk.r_B ?_ | refine Wk.r_k ?_ | refine Wk.r_not ?_ | refine Wk.r_and ?_ | refine Wk.r_or ?_ | refine Wk.r_andV ?_ | refine Wk.r_orV ?_ | refine Wk.r_notV ?_
    | refine Wk.r_CB ?_ | refine Wk.r_chain ?_ | refine Wk.r_fld ?_ | refine Wk.r_sfld ?_ | refine Wk.r_lst ?_ | refine Wk.r_tup ?_ | refine Wk.r_call ?_ | refine Wk.r_BM ?_ | refine Wk.r_BM0 ?_ | refine Wk.r_T ?_ | refine Wk.r_nT ?_ | refine Wk.r_nF ?_ | refine Wk.r_F ?_
    | refine Or.inl ⟨_, rfl, ?_⟩ | refine Or.inr ⟨_, rfl, ?_⟩ | refine ⟨_, rfl, ?_⟩ | refine ⟨_, _, rfl, ?_⟩)
  | ((with_reducible refine Wk.r_eq ?c0 ?_); (case c0 => rfl)) | ((with_reducible refine Wk.r_ne ?c0 ?_); (case c0 => rfl))
  | ((with_reducible refine Wk.r_pow ?c0 ?_); (case c0 => exact ⟨by decide, by decide, by decide⟩))
  | ((with_reducible refine Wk.r_mul ?c0 ?_); (case c0 => walk_at "cmul")) | ((with_reducible refine Wk.r_mod ?c0 ?_); (case c0 => first | decide | omega)) | ((with_reducible refine Wk.r_div ?c0 ?_); (case c0 => walk_at "cdiv"))
  | ((with_reducible refine Wk.r_new ?c0 ?_); (case c0 => (simp only [List.length_cons, List.length_nil]; omega)))
  | ((with_reducible show gTup _ _ _ _ _ _ _); refine Wk.r_gTup (by walk_at "sq") (by rfl) ?_)
  | (refine Wk.r_tyL (by walk_at "hp") ?_)
  | ((with_reducible show rSetL _ _ _ _ _); refine Wk.r_setL (by walk_at "hp") (by rfl) ?_)
  | ((with_reducible show rIxL _ _ _ _ _); refine Wk.r_ixL (by walk_at "sq") (by rfl) ?_) | ((with_reducible show rIxT _ _ _ _ _); refine Wk.r_ixT (by walk_at "sq") (by rfl) ?_)
  | ((with_reducible show rLenOf _ _ _ _); first | refine Wk.n_lenL (by walk_at "sq") ?_ | refine Wk.n_lenT (by walk_at "sq") ?_)
  | ((with_reducible show rListOf _ _ _ _); first | refine Wk.n_listL (by walk_at "sq") ?_ | refine Wk.n_listT (by walk_at "sq") ?_)
  | ((with_reducible show rTupZ _ _ _ _); first | refine Wk.z_tupL (by walk_at "sq") ?_ | refine Wk.z_tupT (by walk_at "sq") ?_)
  | ((with_reducible show rTupOf _ _ _ _); first | refine Wk.n_tupL (by walk_at "sq") ?_ | refine Wk.n_tupT (by walk_at "sq") ?_))
local macro_rules | `(tactic| walk_at "rd") => `(tactic| repeat (walk_at "rd1"))

structure TxtH (mg : Str → Option Value) : Prop extends Txt mg where
  n_sorted : mg "sorted" = none
  n_min : mg "min" = none
  n_zip : mg "zip" = none
section
variable {P : Program} {w : World} {K : PySem.W.Frag} {mg : Str → Option Value} {base : Heap}
theorem dp_natsT {H : Hp} {a : Addr} {r : List Nat} (h : SqT K H a (natL r)) : Dp K H (.ref a) (dT r) := .tup h (dp_nats r)
def spLNeu (K : PySem.W.Frag) : Sp := fun vs H Q _ => ∃ (a n e : Nat) (m : Nat → Nat → Nat), vs = [.ref a] ∧ n ≤ 60 ∧ TabL K H a n m ∧ G.IsNe n m e ∧ ∀ H', Same H H' → Q (.int e) H'
theorem k__law_integer (T : Txt mg) (a : At K mg "_law_integer" s__law_integer ["value"]) : Keep P w K mg base 1 "_law_integer" ["value"] spWhole := by
  refine Keep.of a sc__law_integer (fun vs H Q E h => ?_) (fun f cdv A outer s H vs Q E hr h => ?_)
  · obtain ⟨i, rfl, _⟩ := h
    rfl
  · obtain ⟨i, rfl, kk⟩ := h
    refine ⟨_, (pss_one (ps_ret (pe_and (pe_callB call_isi (by rfl) T.n_isinstance (by decide +kernel) (pa_cons (pv 0) (pa_cons (pe_bltn (v := .ty "int") (u := .type "int") (by rfl) T.n_int (by decide +kernel) rfl) pa_nil))) (pe_one (pe_not (pe_callB call_isi (by rfl) T.n_isinstance (by decide +kernel) (pa_cons (pv 0) (pa_cons (pe_bltn (v := .ty "bool") (u := .type "bool") (by rfl) T.n_bool (by decide +kernel) rfl) pa_nil)))))))), ?_⟩
    walk_at "rd"
    refine n_isiB (b := true) (.base (.int _)) (by decide +kernel) ?_
    walk_at "rd"
    refine n_isiB (b := false) (.base (.int _)) (by decide +kernel) ?_
    walk_at "rd"
    exact kk
theorem k__law_neutral (T : Txt mg) (a : At K mg "_law_neutral" s__law_neutral ["table"]) : Keep P w K mg base 1 "_law_neutral" ["table"] (spLNeu K) := by
  refine Keep.of a sc__law_neutral (fun vs H Q E h => ?_) (fun f cdv A outer s H vs Q E hr h => ?_)
  · obtain ⟨_, _, _, _, rfl, _⟩ := h
    rfl
  · obtain ⟨a, n, e, m, rfl, hn, ⟨L, hL, hR⟩, he, kk⟩ := h
    refine ⟨_, (pss_cons (ps_set (i := 1) sc__law_neutral.nd rfl (by first | exact Or.inl rfl | exact Or.inr rfl) (pe_tupRg rfl (by rfl) T.n_tuple (prg_1 (by rfl) T.n_range (pe_callB (c_len K) (by rfl) T.n_len (by decide +kernel) (pa_cons (pv 0) pa_nil)))))
    (pss_cons (ps_for PassesOwn.never rfl (pi_range1 (by rfl) T.n_range (pa_cons (pe_callB (c_len K) (by rfl) T.n_len (by decide +kernel) (pa_cons (pv 0) pa_nil)) pa_nil)) (pg_name (i := 2) sc__law_neutral.nd rfl (by first | exact Or.inl rfl | exact Or.inr rfl)) (pss_one (ps_if (pt_cmpR (c_eqD K hr.units) (pe_ix (x_list K) (pv 0) (pv 2) (fun _ _ => rfl)) (pv 1) (nomark _)) (pss_one (ps_ret (pv 2))) pss_nil)))
    (pss_one (ps_ret pe_int)))), ?_⟩
    walk_at "rd"
    rw [hR.1]
    refine ⟨⟨by omega, by decide, by omega, by omega⟩, fun t ht => ?_⟩
    have s1 := same_new (o := .tup (rgV 0 (n : Int))) ht
    have htT : SqT K (upd H t (.tup (rgV 0 (n : Int)))) t (natL (List.range n)) := SqT.of (by rw [upd_same, rgV_nats, natL_range])
    have hL1 := s1 _ _ hL
    walk_at "rd"
    refine f_rng (n := n) (fun i σ' H' => ∃ v2 : Option V, σ' = [some (.ref a), some (.ref t), v2] ∧ Same (upd H t (.tup (rgV 0 (n : Int)))) H' ∧ i ≤ e) (by omega) (fun R' h => ?_) ⟨_, rfl, Same.refl _, Nat.zero_le _⟩ ?_ ?_
    · walk_at "rd"
      rw [hR.1]
      exact h
    · rintro i σ' H' hi ⟨v2, rfl, s2, hie⟩ N B R hN hB hRt
      obtain ⟨b, eb, hb⟩ := hR.get hi
      have hb2 := (s1.trans s2).sqT hb
      rw [rowV_natL] at hb2
      have hL2 := s2 _ _ hL1
      walk_at "rd"
      refine Wk.r_ixL (SqL.of hL2) (at_n eb) ?_
      walk_at "rd"
      refine ⟨_, _, dp_natsT hb2, dp_natsT (s2.sqT htT), dT_shaped _, dT_shaped _, ?_⟩
      rw [dT_eqv]
      walk_at "rd"
      refine r_if1 (fun c => ?_) (fun c => ?_)
      · walk_at "rd"
        have ei : i = e := by
          have h1 : m i e = e := by
            have h2 := congrArg (fun l => l[e]?) c
            simp only [List.getElem?_map, List.getElem?_range he.lt] at h2
            exact Option.some.inj h2
          rw [he.r i hi] at h1
          exact h1
        subst ei
        exact hRt _ _ (kk _ (s1.trans s2))
      · walk_at "rd"
        refine hN _ _ ⟨_, rfl, s2, ?_⟩
        have ne : i ≠ e := fun q => by
          subst q
          refine c ?_
          have : (List.range n).map (m i) = (List.range n).map id := List.map_congr_left fun x hx => he.l x (List.mem_range.mp hx)
          rw [this, List.map_id]
        omega
    · rintro σ' H' ⟨v2, rfl, s2, hie⟩
      exfalso
      have := he.lt
      omega

end
end Wk
end
section
set_option Elab.async false
set_option linter.all false
set_option maxRecDepth 100000
namespace Wk
open PySem PySem.Spec PyProof.Rows L2
local macro_rules | `(tactic| walk_at "hp") => `(tactic| first | assumption | exact upd_same | exact (upd_ne (ne_of_none (by assumption) (by assumption))).trans (by assumption) | (rw [upd_ne (by first | assumption | exact Ne.symm (by assumption))]; walk_at "hp"))
local macro_rules | `(tactic| walk_at "sq") => `(tactic| first | assumption | exact SqL.of (by assumption) | exact SqT.of (by assumption) | exact SqL.of (by walk_at "hp") | exact SqT.of (by walk_at "hp") | (refine Same.seq ?_ ?_ <;> assumption))
local macro_rules | `(tactic| walk_at "cmul") => `(tactic| first | exact .inr ⟨by decide, by decide⟩ | exact .inl ⟨by decide, by decide⟩ | exact .inr ⟨by omega, by omega⟩ | exact .inl ⟨by omega, by omega⟩)
local macro_rules | `(tactic| walk_at "cdiv") => `(tactic| first | exact ⟨by decide, by decide⟩ | exact wide_div (b := 64) (by omega) (by omega) (by decide) (by decide) | exact wide_div (b := 128) (by omega) (by omega) (by decide) (by decide))
local macro_rules | `(tactic| walk_at "rd1") => `(tactic| first
  | ((with_reducible show tVar _ _ _ _); refine Wk.r_var rfl ?_)
  | (with_reducible first
    | refine Wk.r_c ?_ | refine Wk.r_op ?_ | refine Wk.r_cons ?_ | refine Wk.r_nil ?_
    | refine Wk.r_seq ?_ | refine Wk.r_next ?_ | refine Wk.r_set ?_ | refine Wk.r_asgS ?_ | refine Wk.r_ret ?_ | refine Wk.r_drop ?_ | refine Wk.r_if ?_
    | refine Wk.r_asgG ?_ | refine Wk.r_gName ?_ | refine Wk.r_gCons ?_ | refine Wk.r_gNil ?_ | refine Wk.r_par ?_ | refine Wk.r_par3 ?_ | refine Wk.r_lstRg1 ?_ | refine Wk.r_tupRg1 ?_ | refine ⟨_, _, _, rfl, ?_⟩ | refine Wk.r_un ?_ | refine Wk.r_I0 ?_ | refine Wk.r_U ?_
    | refine Wk.r_test ?_ | refine Wk.r_B ?_ | refine Wk.r_k ?_ | refine Wk.r_not ?_ | refine Wk.r_and ?_ | refine Wk.r_or ?_ | refine Wk.r_andV ?_ | refine Wk.r_orV ?_ | refine Wk.r_notV ?_
    | refine Wk.r_CB ?_ | refine Wk.r_chain ?_ | refine Wk.r_fld ?_ | refine Wk.r_sfld ?_ | refine Wk.r_lst ?_ | refine Wk.r_tup ?_ | refine Wk.r_call ?_ | refine Wk.r_BM ?_ | refine Wk.r_BM0 ?_ | refine Wk.r_T ?_ | refine Wk.r_nT ?_ | refine Wk.r_nF ?_ | refine Wk.r_F ?_
    | refine Or.inl ⟨_, rfl, ?_⟩ | refine Or.inr ⟨_, rfl, ?_⟩ | refine ⟨_, rfl, ?_⟩ | refine ⟨_, _, rfl, ?_⟩)
  | ((with_reducible refine Wk.r_eq ?c0 ?_); (case c0 => rfl)) | ((with_reducible refine Wk.r_ne ?c0 ?_); (case c0 => rfl))
  | ((with_reducible refine Wk.r_pow ?c0 ?_); (case c0 => exact ⟨by decide, by decide, by decide⟩))
  | ((with_reducible refine Wk.r_mul ?c0 ?_); (case c0 => walk_at "cmul")) | ((with_reducible refine Wk.r_mod ?c0 ?_); (case c0 => first | decide | omega)) | ((with_reducible refine Wk.r_div ?c0 ?_); (case c0 => walk_at "cdiv"))
  | ((with_reducible refine Wk.r_new ?c0 ?_); (case c0 => (simp only [List.length_cons, List.length_nil]; omega)))
  | ((with_reducible show gTup _ _ _ _ _ _ _); refine Wk.r_gTup (by walk_at "sq") (by rfl) ?_)
  | (refine Wk.r_tyL (by walk_at "hp") ?_)
  | ((with_reducible show rSetL _ _ _ _ _); refine Wk.r_setL (by walk_at "hp") (by rfl) ?_)
  | ((with_reducible show rIxL _ _ _ _ _); refine Wk.r_ixL (by walk_at "sq") (by rfl) ?_) | ((with_reducible show rIxT _ _ _ _ _); refine Wk.r_ixT (by walk_at "sq") (by rfl) ?_)
  | ((with_reducible show rLenOf _ _ _ _); first | refine Wk.n_lenL (by walk_at "sq") ?_ | refine Wk.n_lenT (by walk_at "sq") ?_)
  | ((with_reducible show rListOf _ _ _ _); first | refine Wk.n_listL (by walk_at "sq") ?_ | refine Wk.n_listT (by walk_at "sq") ?_)
  | ((with_reducible show rTupZ _ _ _ _); first | refine Wk.z_tupL (by walk_at "sq") ?_ | refine Wk.z_tupT (by walk_at "sq") ?_)
  | ((with_reducible show rTupOf _ _ _ _); first | refine Wk.n_tupL (by walk_at "sq") ?_ | refine Wk.n_tupT (by walk_at "sq") ?_))
local macro_rules | `(tactic| walk_at "rd") => `(tactic| repeat (walk_at "rd1"))
local macro_rules | `(tactic| walk_at "rd1") => `(tactic| (with_reducible first | refine Wk.r_dget ?_ | refine Wk.r_din ?_ | refine Wk.r_dnotin ?_ | refine Wk.r_dput ?_ | refine Wk.r_pairs ?_ | refine Wk.r_pairs0 ?_ | refine Wk.r_sl ?_ | refine Wk.r_part ?_ | refine Wk.r_nopart ?_ | refine Wk.r_augS ?_ | refine Wk.r_ipI ?_))

section
variable {P : Program} {w : World} {K : PySem.W.Frag} {mg : Str → Option Value} {base : Heap}
/-- at b a list of such numbers below n -/
def NatsL (H : Hp) (b : Addr) (n : Nat) (S : List Nat) : Prop := H b = some (.lst (natL S)) ∧ ∀ y ∈ S, y < n
def spGen (K : PySem.W.Frag) : Sp := fun vs H Q _ => ∃ (a b n e : Nat) (m : Nat → Nat → Nat) (S : List Nat), vs = [.ref a, .ref b] ∧ n ≤ 60 ∧ TabL K H a n m ∧ G.Grp n m ∧ G.IsNe n m e ∧ NatsL H b n S ∧ S.length ≤ 1000 ∧
  ∀ H' c L, Same H H' → H c = none → NatsL H' c n L → L.Nodup → Q (.ref c) H'
end
end Wk
end
section
set_option Elab.async false
set_option linter.all false
set_option maxRecDepth 100000
namespace Wk
open PySem PySem.Spec PyProof.Rows L2
local macro_rules | `(tactic| walk_at "hp") => `(tactic| first | assumption | exact upd_same | exact (upd_ne (ne_of_none (by assumption) (by assumption))).trans (by assumption) | (rw [upd_ne (by first | assumption | exact Ne.symm (by assumption))]; walk_at "hp"))
local macro_rules | `(tactic| walk_at "sq") => `(tactic| first | assumption | exact SqL.of (by assumption) | exact SqT.of (by assumption) | exact SqL.of (by walk_at "hp") | exact SqT.of (by walk_at "hp") | (refine Same.seq ?_ ?_ <;> assumption))
local macro_rules | `(tactic| walk_at "cmul") => `(tactic| first | exact .inr ⟨by decide, by decide⟩ | exact .inl ⟨by decide, by decide⟩ | exact .inr ⟨by omega, by omega⟩ | exact .inl ⟨by omega, by omega⟩)
local macro_rules | `(tactic| walk_at "cdiv") => `(tactic| first | exact ⟨by decide, by decide⟩ | exact wide_div (b := 64) (by omega) (by omega) (by decide) (by decide) | exact wide_div (b := 128) (by omega) (by omega) (by decide) (by decide))
local macro_rules | `(tactic| walk_at "rd1") => `(tactic| first
  | ((with_reducible show tVar _ _ _ _); refine Wk.r_var rfl ?_)
  | (with_reducible first
    | refine Wk.r_c ?_ | refine Wk.r_op ?_ | refine Wk.r_cons ?_ | refine Wk.r_nil ?_
    | refine Wk.r_seq ?_ | refine Wk.r_next ?_ | refine Wk.r_set ?_ | refine Wk.r_asgS ?_ | refine Wk.r_ret ?_ | refine Wk.r_drop ?_ | refine Wk.r_if ?_
    | refine Wk.r_asgG ?_ | refine Wk.r_gName ?_ | refine Wk.r_gCons ?_ | refine Wk.r_gNil ?_ | refine Wk.r_par ?_ | refine Wk.r_par3 ?_ | refine Wk.r_lstRg1 ?_ | refine Wk.r_tupRg1 ?_ | refine ⟨_, _, _, rfl, ?_⟩ | refine Wk.r_un ?_ | refine Wk.r_I0 ?_ | refine Wk.r_U ?_
    | refine Wk.r_test ?_ | refine Wk.r_B ?_ | refine Wk.r_k ?_ | refine Wk.r_not ?_ | refine Wk.r_and ?_ | refine Wk.r_or ?_ | refine Wk.r_andV ?_ | refine Wk.r_orV ?_ | refine Wk.r_notV ?_
    | refine Wk.r_CB ?_ | refine Wk.r_chain ?_ | refine Wk.r_fld ?_ | refine Wk.r_sfld ?_ | refine Wk.r_lst ?_ | refine Wk.r_tup ?_ | refine Wk.r_call ?_ | refine Wk.r_BM ?_ | refine Wk.r_BM0 ?_ | refine Wk.r_T ?_ | refine Wk.r_nT ?_ | refine Wk.r_nF ?_ | refine Wk.r_F ?_
    | refine Or.inl ⟨_, rfl, ?_⟩ | refine Or.inr ⟨_, rfl, ?_⟩ | refine ⟨_, rfl, ?_⟩ | refine ⟨_, _, rfl, ?_⟩)
  | ((with_reducible refine Wk.r_eq ?c0 ?_); (case c0 => rfl)) | ((with_reducible refine Wk.r_ne ?c0 ?_); (case c0 => rfl))
  | ((with_reducible refine Wk.r_pow ?c0 ?_); (case c0 => exact ⟨by decide, by decide, by decide⟩))
  | ((with_reducible refine Wk.r_mul ?c0 ?_); (case c0 => walk_at "cmul")) | ((with_reducible refine Wk.r_mod ?c0 ?_); (case c0 => first | decide | omega)) | ((with_reducible refine Wk.r_div ?c0 ?_); (case c0 => walk_at "cdiv"))
  | ((with_reducible refine Wk.r_new ?c0 ?_); (case c0 => (simp only [List.length_cons, List.length_nil]; omega)))
  | ((with_reducible show gTup _ _ _ _ _ _ _); refine Wk.r_gTup (by walk_at "sq") (by rfl) ?_)
  | (refine Wk.r_tyL (by walk_at "hp") ?_)
  | ((with_reducible show rSetL _ _ _ _ _); refine Wk.r_setL (by walk_at "hp") (by rfl) ?_)
  | ((with_reducible show rIxL _ _ _ _ _); refine Wk.r_ixL (by walk_at "sq") (by rfl) ?_) | ((with_reducible show rIxT _ _ _ _ _); refine Wk.r_ixT (by walk_at "sq") (by rfl) ?_)
  | ((with_reducible show rLenOf _ _ _ _); first | refine Wk.n_lenL (by walk_at "sq") ?_ | refine Wk.n_lenT (by walk_at "sq") ?_)
  | ((with_reducible show rListOf _ _ _ _); first | refine Wk.n_listL (by walk_at "sq") ?_ | refine Wk.n_listT (by walk_at "sq") ?_)
  | ((with_reducible show rTupZ _ _ _ _); first | refine Wk.z_tupL (by walk_at "sq") ?_ | refine Wk.z_tupT (by walk_at "sq") ?_)
  | ((with_reducible show rTupOf _ _ _ _); first | refine Wk.n_tupL (by walk_at "sq") ?_ | refine Wk.n_tupT (by walk_at "sq") ?_))
local macro_rules | `(tactic| walk_at "rd") => `(tactic| repeat (walk_at "rd1"))
local macro_rules | `(tactic| walk_at "rd1") => `(tactic| (with_reducible first | refine Wk.r_dget ?_ | refine Wk.r_din ?_ | refine Wk.r_dnotin ?_ | refine Wk.r_dput ?_ | refine Wk.r_pairs ?_ | refine Wk.r_pairs0 ?_ | refine Wk.r_sl ?_ | refine Wk.r_part ?_ | refine Wk.r_nopart ?_ | refine Wk.r_augS ?_ | refine Wk.r_ipI ?_))

section
variable {P : Program} {w : World} {K : PySem.W.Frag} {mg : Str → Option Value} {base : Heap}
def spGens (K : PySem.W.Frag) : Sp := fun vs H Q _ => ∃ (a n e : Nat) (m : Nat → Nat → Nat), vs = [.ref a] ∧ n ≤ 60 ∧ TabL K H a n m ∧ G.Grp n m ∧ G.IsNe n m e ∧
  ∀ H' c L, Same H H' → H c = none → NatsL H' c n L → L.length ≤ 6 → Q (.ref c) H'
theorem given_nats {n : Nat} {p : Nat → Bool} : Evl.given n p (fun x => V.int (x : Int)) = natL ((List.range n).filter p) := rfl
theorem free_of {n : Nat} {L : List Nat} (h : L.length < n) : ∃ x, x < n ∧ x ∉ L := by
  refine Classical.byContradiction fun q => ?_
  have := List.Nodup.length_le_of_subset (List.nodup_range (n := n)) (l₂ := L) fun x hx => Classical.byContradiction fun z => q ⟨x, List.mem_range.mp hx, z⟩
  rw [List.length_range] at this
  omega
end
end Wk
end
section
set_option Elab.async false
set_option linter.all false
set_option maxRecDepth 100000
namespace Wk
open PySem PySem.Spec PyProof.Rows L2
local macro_rules | `(tactic| walk_at "hp") => `(tactic| first | assumption | exact upd_same | exact (upd_ne (ne_of_none (by assumption) (by assumption))).trans (by assumption) | (rw [upd_ne (by first | assumption | exact Ne.symm (by assumption))]; walk_at "hp"))
local macro_rules | `(tactic| walk_at "sq") => `(tactic| first | assumption | exact SqL.of (by assumption) | exact SqT.of (by assumption) | exact SqL.of (by walk_at "hp") | exact SqT.of (by walk_at "hp") | (refine Same.seq ?_ ?_ <;> assumption))
local macro_rules | `(tactic| walk_at "cmul") => `(tactic| first | exact .inr ⟨by decide, by decide⟩ | exact .inl ⟨by decide, by decide⟩ | exact .inr ⟨by omega, by omega⟩ | exact .inl ⟨by omega, by omega⟩)
local macro_rules | `(tactic| walk_at "cdiv") => `(tactic| first | exact ⟨by decide, by decide⟩ | exact wide_div (b := 64) (by omega) (by omega) (by decide) (by decide) | exact wide_div (b := 128) (by omega) (by omega) (by decide) (by decide))
local macro_rules | `(tactic| walk_at "rd1") => `(tactic| first
  | ((with_reducible show tVar _ _ _ _); refine Wk.r_var rfl ?_)
  | (with_reducible first
    | refine Wk.r_c ?_ | refine Wk.r_op ?_ | refine Wk.r_cons ?_ | refine Wk.r_nil ?_
    | refine Wk.r_seq ?_ | refine Wk.r_next ?_ | refine Wk.r_set ?_ | refine Wk.r_asgS ?_ | refine Wk.r_ret ?_ | refine Wk.r_drop ?_ | refine Wk.r_if ?_
    | refine Wk.r_asgG ?_ | refine Wk.r_gName ?_ | refine Wk.r_gCons ?_ | refine Wk.r_gNil ?_ | refine Wk.r_par ?_ | refine Wk.r_par3 ?_ | refine Wk.r_lstRg1 ?_ | refine Wk.r_tupRg1 ?_ | refine ⟨_, _, _, rfl, ?_⟩ | refine Wk.r_un ?_ | refine Wk.r_I0 ?_ | refine Wk.r_U ?_
    | refine Wk.r_test ?_ | refine Wk.r_B ?_ | refine Wk.r_k ?_ | refine Wk.r_not ?_ | refine Wk.r_and ?_ | refine Wk.r_or ?_ | refine Wk.r_andV ?_ | refine Wk.r_orV ?_ | refine Wk.r_notV ?_
    | refine Wk.r_CB ?_ | refine Wk.r_chain ?_ | refine Wk.r_fld ?_ | refine Wk.r_sfld ?_ | refine Wk.r_lst ?_ | refine Wk.r_tup ?_ | refine Wk.r_call ?_ | refine Wk.r_BM ?_ | refine Wk.r_BM0 ?_ | refine Wk.r_T ?_ | refine Wk.r_nT ?_ | refine Wk.r_nF ?_ | refine Wk.r_F ?_
    | refine Or.inl ⟨_, rfl, ?_⟩ | refine Or.inr ⟨_, rfl, ?_⟩ | refine ⟨_, rfl, ?_⟩ | refine ⟨_, _, rfl, ?_⟩)
  | ((with_reducible refine Wk.r_eq ?c0 ?_); (case c0 => rfl)) | ((with_reducible refine Wk.r_ne ?c0 ?_); (case c0 => rfl))
  | ((with_reducible refine Wk.r_pow ?c0 ?_); (case c0 => exact ⟨by decide, by decide, by decide⟩))
  | ((with_reducible refine Wk.r_mul ?c0 ?_); (case c0 => walk_at "cmul")) | ((with_reducible refine Wk.r_mod ?c0 ?_); (case c0 => first | decide | omega)) | ((with_reducible refine Wk.r_div ?c0 ?_); (case c0 => walk_at "cdiv"))
  | ((with_reducible refine Wk.r_new ?c0 ?_); (case c0 => (simp only [List.length_cons, List.length_nil]; omega)))
  | ((with_reducible show gTup _ _ _ _ _ _ _); refine Wk.r_gTup (by walk_at "sq") (by rfl) ?_)
  | (refine Wk.r_tyL (by walk_at "hp") ?_)
  | ((with_reducible show rSetL _ _ _ _ _); refine Wk.r_setL (by walk_at "hp") (by rfl) ?_)
  | ((with_reducible show rIxL _ _ _ _ _); refine Wk.r_ixL (by walk_at "sq") (by rfl) ?_) | ((with_reducible show rIxT _ _ _ _ _); refine Wk.r_ixT (by walk_at "sq") (by rfl) ?_)
  | ((with_reducible show rLenOf _ _ _ _); first | refine Wk.n_lenL (by walk_at "sq") ?_ | refine Wk.n_lenT (by walk_at "sq") ?_)
  | ((with_reducible show rListOf _ _ _ _); first | refine Wk.n_listL (by walk_at "sq") ?_ | refine Wk.n_listT (by walk_at "sq") ?_)
  | ((with_reducible show rTupZ _ _ _ _); first | refine Wk.z_tupL (by walk_at "sq") ?_ | refine Wk.z_tupT (by walk_at "sq") ?_)
  | ((with_reducible show rTupOf _ _ _ _); first | refine Wk.n_tupL (by walk_at "sq") ?_ | refine Wk.n_tupT (by walk_at "sq") ?_))
local macro_rules | `(tactic| walk_at "rd") => `(tactic| repeat (walk_at "rd1"))
local macro_rules | `(tactic| walk_at "rd1") => `(tactic| (with_reducible first | refine Wk.r_dget ?_ | refine Wk.r_din ?_ | refine Wk.r_dnotin ?_ | refine Wk.r_dput ?_ | refine Wk.r_pairs ?_ | refine Wk.r_pairs0 ?_ | refine Wk.r_sl ?_ | refine Wk.r_part ?_ | refine Wk.r_nopart ?_ | refine Wk.r_augS ?_ | refine Wk.r_ipI ?_))

section
variable {P : Program} {w : World} {K : PySem.W.Frag} {mg : Str → Option Value} {base : Heap}
/-- a map: a tuple of n numbers below k -/
structure MapT (K : PySem.W.Frag) (H : Hp) (t n k : Nat) (f : Nat → Nat) : Prop where
  tup : SqT K H t (natsV n f)
  lt : ∀ x, x < n → f x < k
theorem natL_inv {l : List Nat} {i : Nat} {y : V} (h : (natL l)[i]? = some y) : ∃ z : Nat, l[i]? = some z ∧ y = .int (z : Int) := by
  unfold natL at h
  rw [List.getElem?_map] at h
  cases e : l[i]? with
  | none => rw [e] at h; cases h
  | some z => rw [e] at h; exact ⟨z, rfl, (Option.some.inj h).symm⟩
theorem dk_if {A : List Nat} {F : Nat → Nat} {z d : Nat} : dk A (fun x => if x = z then V.int (d : Int) else V.int (F x : Int)) = dk A (fun x => V.int ((if x = z then d else F x : Nat) : Int)) := by
  congr 1
  funext x
  split <;> rfl
def spWalk (K : PySem.W.Frag) : Sp := fun vs H Q _ => ∃ (a1 a2 b c n k e e2 : Nat) (m1 m2 : Nat → Nat → Nat) (S Vs : List Nat), vs = [.ref a1, .ref a2, .ref b, .ref c] ∧ n ≤ 60 ∧ k ≤ 60 ∧ TabL K H a1 n m1 ∧ TabL K H a2 k m2 ∧ G.Grp n m1 ∧ G.Grp k m2 ∧ G.IsNe n m1 e ∧ G.IsNe k m2 e2 ∧
  NatsL H b n S ∧ NatsL H c k Vs ∧ S.length = Vs.length ∧ (∀ H', Same H H' → Q .non H') ∧ ∀ H' t f, Same H H' → MapT K H' t n k f → G.Hom n m1 m2 f → Q (.ref t) H'
end
end Wk
end
section
set_option Elab.async false
set_option linter.all false
set_option maxRecDepth 100000
namespace Wk
open PySem PySem.Spec PyProof.Rows L2
local macro_rules | `(tactic| walk_at "hp") => `(tactic| first | assumption | exact upd_same | exact (upd_ne (ne_of_none (by assumption) (by assumption))).trans (by assumption) | (rw [upd_ne (by first | assumption | exact Ne.symm (by assumption))]; walk_at "hp"))
local macro_rules | `(tactic| walk_at "sq") => `(tactic| first | assumption | exact SqL.of (by assumption) | exact SqT.of (by assumption) | exact SqL.of (by walk_at "hp") | exact SqT.of (by walk_at "hp") | (refine Same.seq ?_ ?_ <;> assumption))
local macro_rules | `(tactic| walk_at "cmul") => `(tactic| first | exact .inr ⟨by decide, by decide⟩ | exact .inl ⟨by decide, by decide⟩ | exact .inr ⟨by omega, by omega⟩ | exact .inl ⟨by omega, by omega⟩)
local macro_rules | `(tactic| walk_at "cdiv") => `(tactic| first | exact ⟨by decide, by decide⟩ | exact wide_div (b := 64) (by omega) (by omega) (by decide) (by decide) | exact wide_div (b := 128) (by omega) (by omega) (by decide) (by decide))
local macro_rules | `(tactic| walk_at "rd1") => `(tactic| first
  | ((with_reducible show tVar _ _ _ _); refine Wk.r_var rfl ?_)
  | (with_reducible first
    | refine Wk.r_c ?_ | refine Wk.r_op ?_ | refine Wk.r_cons ?_ | refine Wk.r_nil ?_
    | refine Wk.r_seq ?_ | refine Wk.r_next ?_ | refine Wk.r_set ?_ | refine Wk.r_asgS ?_ | refine Wk.r_ret ?_ | refine Wk.r_drop ?_ | refine Wk.r_if ?_
    | refine Wk.r_asgG ?_ | refine Wk.r_gName ?_ | refine Wk.r_gCons ?_ | refine Wk.r_gNil ?_ | refine Wk.r_par ?_ | refine Wk.r_par3 ?_ | refine Wk.r_lstRg1 ?_ | refine Wk.r_tupRg1 ?_ | refine ⟨_, _, _, rfl, ?_⟩ | refine Wk.r_un ?_ | refine Wk.r_I0 ?_ | refine Wk.r_U ?_
    | refine Wk.r_test ?_ | refine Wk.r_B ?_ | refine Wk.r_k ?_ | refine Wk.r_not ?_ | refine Wk.r_and ?_ | refine Wk.r_or ?_ | refine Wk.r_andV ?_ | refine Wk.r_orV ?_ | refine Wk.r_notV ?_
    | refine Wk.r_CB ?_ | refine Wk.r_chain ?_ | refine Wk.r_fld ?_ | refine Wk.r_sfld ?_ | refine Wk.r_lst ?_ | refine Wk.r_tup ?_ | refine Wk.r_call ?_ | refine Wk.r_BM ?_ | refine Wk.r_BM0 ?_ | refine Wk.r_T ?_ | refine Wk.r_nT ?_ | refine Wk.r_nF ?_ | refine Wk.r_F ?_
    | refine Or.inl ⟨_, rfl, ?_⟩ | refine Or.inr ⟨_, rfl, ?_⟩ | refine ⟨_, rfl, ?_⟩ | refine ⟨_, _, rfl, ?_⟩)
  | ((with_reducible refine Wk.r_eq ?c0 ?_); (case c0 => rfl)) | ((with_reducible refine Wk.r_ne ?c0 ?_); (case c0 => rfl))
  | ((with_reducible refine Wk.r_pow ?c0 ?_); (case c0 => exact ⟨by decide, by decide, by decide⟩))
  | ((with_reducible refine Wk.r_mul ?c0 ?_); (case c0 => walk_at "cmul")) | ((with_reducible refine Wk.r_mod ?c0 ?_); (case c0 => first | decide | omega)) | ((with_reducible refine Wk.r_div ?c0 ?_); (case c0 => walk_at "cdiv"))
  | ((with_reducible refine Wk.r_new ?c0 ?_); (case c0 => (simp only [List.length_cons, List.length_nil]; omega)))
  | ((with_reducible show gTup _ _ _ _ _ _ _); refine Wk.r_gTup (by walk_at "sq") (by rfl) ?_)
  | (refine Wk.r_tyL (by walk_at "hp") ?_)
  | ((with_reducible show rSetL _ _ _ _ _); refine Wk.r_setL (by walk_at "hp") (by rfl) ?_)
  | ((with_reducible show rIxL _ _ _ _ _); refine Wk.r_ixL (by walk_at "sq") (by rfl) ?_) | ((with_reducible show rIxT _ _ _ _ _); refine Wk.r_ixT (by walk_at "sq") (by rfl) ?_)
  | ((with_reducible show rLenOf _ _ _ _); first | refine Wk.n_lenL (by walk_at "sq") ?_ | refine Wk.n_lenT (by walk_at "sq") ?_)
  | ((with_reducible show rListOf _ _ _ _); first | refine Wk.n_listL (by walk_at "sq") ?_ | refine Wk.n_listT (by walk_at "sq") ?_)
  | ((with_reducible show rTupZ _ _ _ _); first | refine Wk.z_tupL (by walk_at "sq") ?_ | refine Wk.z_tupT (by walk_at "sq") ?_)
  | ((with_reducible show rTupOf _ _ _ _); first | refine Wk.n_tupL (by walk_at "sq") ?_ | refine Wk.n_tupT (by walk_at "sq") ?_))
local macro_rules | `(tactic| walk_at "rd") => `(tactic| repeat (walk_at "rd1"))
local macro_rules | `(tactic| walk_at "rd1") => `(tactic| (with_reducible first | refine Wk.r_dget ?_ | refine Wk.r_din ?_ | refine Wk.r_dnotin ?_ | refine Wk.r_dput ?_ | refine Wk.r_pairs ?_ | refine Wk.r_pairs0 ?_ | refine Wk.r_sl ?_ | refine Wk.r_part ?_ | refine Wk.r_nopart ?_ | refine Wk.r_augS ?_ | refine Wk.r_ipI ?_))

section
variable {P : Program} {w : World} {K : PySem.W.Frag} {mg : Str → Option Value} {base : Heap}
theorem MapT.mono {H H' : Hp} {t n k : Nat} {f : Nat → Nat} (s : Same H H') (h : MapT K H t n k f) : MapT K H' t n k f := ⟨s.sqT h.tup, h.lt⟩
theorem MapT.exP {H H' : Hp} {p q t n k : Nat} {f : Nat → Nat} (d : DS H p q) (s : ExP p H H') (h : MapT K H t n k f) : MapT K H' t n k f := by
  obtain ⟨ns, i, b, l, z, h1, _⟩ := d
  exact ⟨sqT_mut h1 s h.tup, h.lt⟩
theorem DS.at_ {H : Hp} {p q : Addr} (d : DS H p q) : ∃ o, H p = some o := by
  obtain ⟨ns, i, b, l, z, h1, _⟩ := d
  exact ⟨_, h1⟩
theorem list_const {L : List V} {n : Nat} {v : Nat → V} (hl : L.length = n) (h : ∀ (i : Nat) u, L[i]? = some u → u = v i) : L = (List.range n).map v := by
  apply List.ext_getElem?
  intro i
  rw [List.getElem?_map]
  by_cases c : i < n
  · have cl : i < L.length := by omega
    rw [List.getElem?_eq_getElem cl, List.getElem?_range c]
    exact congrArg some (h i _ (List.getElem?_eq_getElem cl))
  · rw [List.getElem?_eq_none (by omega), List.getElem?_eq_none (by rw [List.length_range]; omega)]
    rfl
/-- what is drawn from, and two tables of groups -/
structure Two (K : PySem.W.Frag) (H : Hp) (p q a1 a2 n k : Nat) (m1 m2 : Nat → Nat → Nat) (e e2 : Nat) : Prop where
  d : DS H p q
  t1 : TabL K H a1 n m1
  t2 : TabL K H a2 k m2
  n1 : a1 ≠ p
  n2 : a2 ≠ p
  g1 : G.Grp n m1
  g2 : G.Grp k m2
  e1 : G.IsNe n m1 e
  e2 : G.IsNe k m2 e2
  ln : n ≤ 60
  lk : k ≤ 60
section
variable {H H' : Hp} {p q a1 a2 n k : Nat} {m1 m2 : Nat → Nat → Nat} {e e2 : Nat}
theorem Two.mono (s : Same H H') (h : Two K H p q a1 a2 n k m1 m2 e e2) : Two K H' p q a1 a2 n k m1 m2 e e2 := { h with d := h.d.mono s, t1 := h.t1.mono s, t2 := h.t2.mono s }
theorem Two.exP (x : ExP p H H') (d : DS H' p q) (h : Two K H p q a1 a2 n k m1 m2 e e2) : Two K H' p q a1 a2 n k m1 m2 e e2 := { h with d := d, t1 := h.t1.exP h.n1 h.d x, t2 := h.t2.exP h.n2 h.d x }
end
def spHom (K : PySem.W.Frag) : Sp := fun vs H Q _ => ∃ (p q a1 a2 n k e e2 : Nat) (m1 m2 : Nat → Nat → Nat), vs = [.ref p, .ref a1, .ref a2] ∧ Two K H p q a1 a2 n k m1 m2 e e2 ∧
  ∀ H' t f, ExP p H H' → DS H' p q → MapT K H' t n k f → G.Hom n m1 m2 f → Q (.ref t) H'
end
end Wk
end
section
set_option Elab.async false
set_option linter.all false
set_option maxRecDepth 100000
namespace Wk
open PySem PySem.Spec PyProof.Rows L2
local macro_rules | `(tactic| walk_at "hp") => `(tactic| first | assumption | exact upd_same | exact (upd_ne (ne_of_none (by assumption) (by assumption))).trans (by assumption) | (rw [upd_ne (by first | assumption | exact Ne.symm (by assumption))]; walk_at "hp"))
local macro_rules | `(tactic| walk_at "sq") => `(tactic| first | assumption | exact SqL.of (by assumption) | exact SqT.of (by assumption) | exact SqL.of (by walk_at "hp") | exact SqT.of (by walk_at "hp") | (refine Same.seq ?_ ?_ <;> assumption))
local macro_rules | `(tactic| walk_at "cmul") => `(tactic| first | exact .inr ⟨by decide, by decide⟩ | exact .inl ⟨by decide, by decide⟩ | exact .inr ⟨by omega, by omega⟩ | exact .inl ⟨by omega, by omega⟩)
local macro_rules | `(tactic| walk_at "cdiv") => `(tactic| first | exact ⟨by decide, by decide⟩ | exact wide_div (b := 64) (by omega) (by omega) (by decide) (by decide) | exact wide_div (b := 128) (by omega) (by omega) (by decide) (by decide))
local macro_rules | `(tactic| walk_at "rd1") => `(tactic| first
  | ((with_reducible show tVar _ _ _ _); refine Wk.r_var rfl ?_)
  | (with_reducible first
    | refine Wk.r_c ?_ | refine Wk.r_op ?_ | refine Wk.r_cons ?_ | refine Wk.r_nil ?_
    | refine Wk.r_seq ?_ | refine Wk.r_next ?_ | refine Wk.r_set ?_ | refine Wk.r_asgS ?_ | refine Wk.r_ret ?_ | refine Wk.r_drop ?_ | refine Wk.r_if ?_
    | refine Wk.r_asgG ?_ | refine Wk.r_gName ?_ | refine Wk.r_gCons ?_ | refine Wk.r_gNil ?_ | refine Wk.r_par ?_ | refine Wk.r_par3 ?_ | refine Wk.r_lstRg1 ?_ | refine Wk.r_tupRg1 ?_ | refine ⟨_, _, _, rfl, ?_⟩ | refine Wk.r_un ?_ | refine Wk.r_I0 ?_ | refine Wk.r_U ?_
    | refine Wk.r_test ?_ | refine Wk.r_B ?_ | refine Wk.r_k ?_ | refine Wk.r_not ?_ | refine Wk.r_and ?_ | refine Wk.r_or ?_ | refine Wk.r_andV ?_ | refine Wk.r_orV ?_ | refine Wk.r_notV ?_
    | refine Wk.r_CB ?_ | refine Wk.r_chain ?_ | refine Wk.r_fld ?_ | refine Wk.r_sfld ?_ | refine Wk.r_lst ?_ | refine Wk.r_tup ?_ | refine Wk.r_call ?_ | refine Wk.r_BM ?_ | refine Wk.r_BM0 ?_ | refine Wk.r_T ?_ | refine Wk.r_nT ?_ | refine Wk.r_nF ?_ | refine Wk.r_F ?_
    | refine Or.inl ⟨_, rfl, ?_⟩ | refine Or.inr ⟨_, rfl, ?_⟩ | refine ⟨_, rfl, ?_⟩ | refine ⟨_, _, rfl, ?_⟩)
  | ((with_reducible refine Wk.r_eq ?c0 ?_); (case c0 => rfl)) | ((with_reducible refine Wk.r_ne ?c0 ?_); (case c0 => rfl))
  | ((with_reducible refine Wk.r_pow ?c0 ?_); (case c0 => exact ⟨by decide, by decide, by decide⟩))
  | ((with_reducible refine Wk.r_mul ?c0 ?_); (case c0 => walk_at "cmul")) | ((with_reducible refine Wk.r_mod ?c0 ?_); (case c0 => first | decide | omega)) | ((with_reducible refine Wk.r_div ?c0 ?_); (case c0 => walk_at "cdiv"))
  | ((with_reducible refine Wk.r_new ?c0 ?_); (case c0 => (simp only [List.length_cons, List.length_nil]; omega)))
  | ((with_reducible show gTup _ _ _ _ _ _ _); refine Wk.r_gTup (by walk_at "sq") (by rfl) ?_)
  | (refine Wk.r_tyL (by walk_at "hp") ?_)
  | ((with_reducible show rSetL _ _ _ _ _); refine Wk.r_setL (by walk_at "hp") (by rfl) ?_)
  | ((with_reducible show rIxL _ _ _ _ _); refine Wk.r_ixL (by walk_at "sq") (by rfl) ?_) | ((with_reducible show rIxT _ _ _ _ _); refine Wk.r_ixT (by walk_at "sq") (by rfl) ?_)
  | ((with_reducible show rLenOf _ _ _ _); first | refine Wk.n_lenL (by walk_at "sq") ?_ | refine Wk.n_lenT (by walk_at "sq") ?_)
  | ((with_reducible show rListOf _ _ _ _); first | refine Wk.n_listL (by walk_at "sq") ?_ | refine Wk.n_listT (by walk_at "sq") ?_)
  | ((with_reducible show rTupZ _ _ _ _); first | refine Wk.z_tupL (by walk_at "sq") ?_ | refine Wk.z_tupT (by walk_at "sq") ?_)
  | ((with_reducible show rTupOf _ _ _ _); first | refine Wk.n_tupL (by walk_at "sq") ?_ | refine Wk.n_tupT (by walk_at "sq") ?_))
local macro_rules | `(tactic| walk_at "rd") => `(tactic| repeat (walk_at "rd1"))
local macro_rules | `(tactic| walk_at "rd1") => `(tactic| (with_reducible first | refine Wk.r_dget ?_ | refine Wk.r_din ?_ | refine Wk.r_dnotin ?_ | refine Wk.r_dput ?_ | refine Wk.r_pairs ?_ | refine Wk.r_pairs0 ?_ | refine Wk.r_sl ?_ | refine Wk.r_part ?_ | refine Wk.r_nopart ?_ | refine Wk.r_augS ?_ | refine Wk.r_ipI ?_))

section
variable {P : Program} {w : World} {K : PySem.W.Frag} {mg : Str → Option Value} {base : Heap}
theorem natL_take {n w : Nat} {o : Nat → Nat} : (natsV n o).take w = natL (((List.range n).map o).take w) := by
  unfold natsV natL
  rw [List.map_take, List.map_map]
  rfl
theorem natsV_set {n x v : Nat} {g : Nat → Nat} (h : x < n) : (natsV n g).set x (V.int (v : Int)) = natsV n (fun y => if y = x then v else g y) := by
  apply List.ext_getElem?
  intro i
  rw [List.getElem?_set]
  by_cases c : x = i
  · subst c
    rw [if_pos rfl, if_pos (by rw [natsV_len]; exact h), natsV_get h, if_pos rfl]
  · rw [if_neg c]
    by_cases d : i < n
    · rw [natsV_get d, natsV_get d, if_neg (fun q => c q.symm)]
    · rw [List.getElem?_eq_none (by rw [natsV_len]; omega), List.getElem?_eq_none (by rw [natsV_len]; omega)]
/-- in the midst of the changes: l holds what has come of f -/
structure Spl (K : PySem.W.Frag) (H0 H : Hp) (p q a1 a2 n k : Nat) (m1 m2 : Nat → Nat → Nat) (e e2 t2 : Nat) (f2 : Nat → Nat) (l sl : Nat) (S : List Nat) (g : Nat → Nat) : Prop where
  x : ExP p H0 H
  tw : Two K H p q a1 a2 n k m1 m2 e e2
  m : MapT K H t2 n k f2
  hl : H l = some (.lst (natsV n g))
  hs : H sl = some (.lst (natL S))
  gl : ∀ y, y < n → g y < k
theorem Spl.mono {H0 H H' : Hp} {p q a1 a2 n k : Nat} {m1 m2 : Nat → Nat → Nat} {e e2 t2 : Nat} {f2 : Nat → Nat} {l sl : Nat} {S : List Nat} {g : Nat → Nat} (s : Same H H') (h : Spl K H0 H p q a1 a2 n k m1 m2 e e2 t2 f2 l sl S g) : Spl K H0 H' p q a1 a2 n k m1 m2 e e2 t2 f2 l sl S g :=
  ⟨h.x.trans s.exP, h.tw.mono s, h.m.mono s, s _ _ h.hl, s _ _ h.hs, h.gl⟩
theorem Spl.exP {H0 H H' : Hp} {p q a1 a2 n k : Nat} {m1 m2 : Nat → Nat → Nat} {e e2 t2 : Nat} {f2 : Nat → Nat} {l sl : Nat} {S : List Nat} {g : Nat → Nat} (x : ExP p H H') (d : DS H' p q) (nl : l ≠ p) (ns : sl ≠ p) (h : Spl K H0 H p q a1 a2 n k m1 m2 e e2 t2 f2 l sl S g) : Spl K H0 H' p q a1 a2 n k m1 m2 e e2 t2 f2 l sl S g :=
  ⟨h.x.trans x, h.tw.exP x d, h.m.exP h.tw.d x, x _ _ nl h.hl, x _ _ ns h.hs, h.gl⟩
def spSpoilt (K : PySem.W.Frag) : Sp := fun vs H Q _ => ∃ (p q a1 a2 n k e e2 t : Nat) (m1 m2 : Nat → Nat → Nat) (f : Nat → Nat) (wr : Nat), vs = [.ref p, .ref a1, .ref a2, .ref t, .int (wr : Int)] ∧ Two K H p q a1 a2 n k m1 m2 e e2 ∧ MapT K H t n k f ∧ wr ≤ 1000 ∧
  ∀ H' t' g (Z : List Nat), ExP p H H' → DS H' p q → MapT K H' t' n k g → Z.Nodup → Z.length = min wr n → (∀ x ∈ Z, x < n) → (∀ x, x < n → x ∉ Z → g x = f x) → (1 < k → ∀ x ∈ Z, g x ≠ f x) → Q (.ref t') H'
end
end Wk
end
section
set_option Elab.async false
set_option linter.all false
set_option maxRecDepth 100000
namespace Wk
open PySem PySem.Spec PyProof.Rows L2
local macro_rules | `(tactic| walk_at "hp") => `(tactic| first | assumption | exact upd_same | exact (upd_ne (ne_of_none (by assumption) (by assumption))).trans (by assumption) | (rw [upd_ne (by first | assumption | exact Ne.symm (by assumption))]; walk_at "hp"))
local macro_rules | `(tactic| walk_at "sq") => `(tactic| first | assumption | exact SqL.of (by assumption) | exact SqT.of (by assumption) | exact SqL.of (by walk_at "hp") | exact SqT.of (by walk_at "hp") | (refine Same.seq ?_ ?_ <;> assumption))
local macro_rules | `(tactic| walk_at "cmul") => `(tactic| first | exact .inr ⟨by decide, by decide⟩ | exact .inl ⟨by decide, by decide⟩ | exact .inr ⟨by omega, by omega⟩ | exact .inl ⟨by omega, by omega⟩)
local macro_rules | `(tactic| walk_at "cdiv") => `(tactic| first | exact ⟨by decide, by decide⟩ | exact wide_div (b := 64) (by omega) (by omega) (by decide) (by decide) | exact wide_div (b := 128) (by omega) (by omega) (by decide) (by decide))
local macro_rules | `(tactic| walk_at "rd1") => `(tactic| first
  | ((with_reducible show tVar _ _ _ _); refine Wk.r_var rfl ?_)
  | (with_reducible first
    | refine Wk.r_c ?_ | refine Wk.r_op ?_ | refine Wk.r_cons ?_ | refine Wk.r_nil ?_
    | refine Wk.r_seq ?_ | refine Wk.r_next ?_ | refine Wk.r_set ?_ | refine Wk.r_asgS ?_ | refine Wk.r_ret ?_ | refine Wk.r_drop ?_ | refine Wk.r_if ?_
    | refine Wk.r_asgG ?_ | refine Wk.r_gName ?_ | refine Wk.r_gCons ?_ | refine Wk.r_gNil ?_ | refine Wk.r_par ?_ | refine Wk.r_par3 ?_ | refine Wk.r_lstRg1 ?_ | refine Wk.r_tupRg1 ?_ | refine ⟨_, _, _, rfl, ?_⟩ | refine Wk.r_un ?_ | refine Wk.r_I0 ?_ | refine Wk.r_U ?_
    | refine Wk.r_test ?_ | refine Wk.r_B ?_ | refine Wk.r_k ?_ | refine Wk.r_not ?_ | refine Wk.r_and ?_ | refine Wk.r_or ?_ | refine Wk.r_andV ?_ | refine Wk.r_orV ?_ | refine Wk.r_notV ?_
    | refine Wk.r_CB ?_ | refine Wk.r_chain ?_ | refine Wk.r_fld ?_ | refine Wk.r_sfld ?_ | refine Wk.r_lst ?_ | refine Wk.r_tup ?_ | refine Wk.r_call ?_ | refine Wk.r_BM ?_ | refine Wk.r_BM0 ?_ | refine Wk.r_T ?_ | refine Wk.r_nT ?_ | refine Wk.r_nF ?_ | refine Wk.r_F ?_
    | refine Or.inl ⟨_, rfl, ?_⟩ | refine Or.inr ⟨_, rfl, ?_⟩ | refine ⟨_, rfl, ?_⟩ | refine ⟨_, _, rfl, ?_⟩)
  | ((with_reducible refine Wk.r_eq ?c0 ?_); (case c0 => rfl)) | ((with_reducible refine Wk.r_ne ?c0 ?_); (case c0 => rfl))
  | ((with_reducible refine Wk.r_pow ?c0 ?_); (case c0 => exact ⟨by decide, by decide, by decide⟩))
  | ((with_reducible refine Wk.r_mul ?c0 ?_); (case c0 => walk_at "cmul")) | ((with_reducible refine Wk.r_mod ?c0 ?_); (case c0 => first | decide | omega)) | ((with_reducible refine Wk.r_div ?c0 ?_); (case c0 => walk_at "cdiv"))
  | ((with_reducible refine Wk.r_new ?c0 ?_); (case c0 => (simp only [List.length_cons, List.length_nil]; omega)))
  | ((with_reducible show gTup _ _ _ _ _ _ _); refine Wk.r_gTup (by walk_at "sq") (by rfl) ?_)
  | (refine Wk.r_tyL (by walk_at "hp") ?_)
  | ((with_reducible show rSetL _ _ _ _ _); refine Wk.r_setL (by walk_at "hp") (by rfl) ?_)
  | ((with_reducible show rIxL _ _ _ _ _); refine Wk.r_ixL (by walk_at "sq") (by rfl) ?_) | ((with_reducible show rIxT _ _ _ _ _); refine Wk.r_ixT (by walk_at "sq") (by rfl) ?_)
  | ((with_reducible show rLenOf _ _ _ _); first | refine Wk.n_lenL (by walk_at "sq") ?_ | refine Wk.n_lenT (by walk_at "sq") ?_)
  | ((with_reducible show rListOf _ _ _ _); first | refine Wk.n_listL (by walk_at "sq") ?_ | refine Wk.n_listT (by walk_at "sq") ?_)
  | ((with_reducible show rTupZ _ _ _ _); first | refine Wk.z_tupL (by walk_at "sq") ?_ | refine Wk.z_tupT (by walk_at "sq") ?_)
  | ((with_reducible show rTupOf _ _ _ _); first | refine Wk.n_tupL (by walk_at "sq") ?_ | refine Wk.n_tupT (by walk_at "sq") ?_))
local macro_rules | `(tactic| walk_at "rd") => `(tactic| repeat (walk_at "rd1"))
local macro_rules | `(tactic| walk_at "rd1") => `(tactic| (with_reducible first | refine Wk.r_dget ?_ | refine Wk.r_din ?_ | refine Wk.r_dnotin ?_ | refine Wk.r_dput ?_ | refine Wk.r_pairs ?_ | refine Wk.r_pairs0 ?_ | refine Wk.r_sl ?_ | refine Wk.r_part ?_ | refine Wk.r_nopart ?_ | refine Wk.r_augS ?_ | refine Wk.r_ipI ?_))

section
variable {X : Cx} {C : Addr} {k : Nat} {sp : Sp} {e o : Expr} {es : List Expr} {ta : TE} {t : TA} {m f : PySem.Str} {apos pos : Pos} {ps : List PySem.Str}
theorem pe_m {pl : Sem Bool} (he : PE X o ta) (c : Cls X.K C) (M : KeepM X.prog X.w X.K X.mg X.base k C m ps sp) (hr : Room k X.A) (ha : PA X (e :: es) t)
    (hst : starEach (e :: es) X.env = (false, eval e X.env) :: starEach es X.env := by rfl) (hpl : (backTo pos (starEach es X.env)).any (·.1) = false := by rfl)
    (ht : eval (.Call (.Attribute o m apos) (e :: es) [] pos) X.env = (do
      let ov ← eval o X.env
      standAt apos.atName
      let (f, first) ← holding [ov] (getMethod ov m pl)
      callWith pos f first (backTo pos (starEach (e :: es) X.env)) (backToKw pos (keywordEach [] X.env))) := by rfl) :
    PE X (.Call (.Attribute o m apos) (e :: es) [] pos) (tMeth C m sp [] E0 ta t) := by
  obtain ⟨f, fd, F, M, hb⟩ := M
  exact pe_meth he c M F hr hb .nil pass0 ha hst hpl ht
theorem r_meth {ta : TE} {t : TA} {dvs : List V} {E : XK} {σ : L2.St} {H : Hp} {Q : VK} (h : ta σ H fun x H1 => ∃ a dx fs, x = .ref a ∧ H1 a = some (.ins C dx fs) ∧ fs.lookup m = none ∧ t σ H1 fun vs H2 => sp (x :: (vs ++ dvs)) H2 Q E) : tMeth C m sp dvs E ta t σ H Q := h
end
section
variable {P : Program} {w : World} {K : PySem.W.Frag} {mg : Str → Option Value} {base : Heap}
theorem GrpO.mono {C : Addr} {H H' : Hp} {g n : Addr} {m : Nat → Nat → Nat} (s : Same H H') (h : GrpO K C H g n m) : GrpO K C H' g n m := by
  obtain ⟨dx, t, iv, e, inv, gg⟩ := h
  exact ⟨dx, t, iv, e, inv, gg.mono s⟩
theorem GrpO.exP {C p q : Addr} {H H' : Hp} {g n : Addr} {m : Nat → Nat → Nat} (d : DS H p q) (s : ExP p H H') (h : GrpO K C H g n m) : GrpO K C H' g n m := by
  obtain ⟨ns, i, b, l, z, h1, _⟩ := d
  obtain ⟨dx, t, iv, e, inv, gg⟩ := h
  exact ⟨dx, t, iv, e, inv, gg.mut h1 s⟩
def spNRow (K : PySem.W.Frag) : Sp := fun vs H Q _ => ∃ (t n k : Nat) (f : Nat → Nat), vs = [.ref t, .int (n : Int), .int (k : Int)] ∧ MapT K H t n k f ∧ n ≤ 1000 ∧ ∀ H', Same H H' → Q (.bl true) H'
theorem k_is_number_row (T : Txt mg) (k_is_within : Keep P w K mg base 2 "is_within" ["value", "least", "most"] spWithin) (a : At K mg "is_number_row" s_is_number_row ["value", "length", "bound"]) : Keep P w K mg base 3 "is_number_row" ["value", "length", "bound"] (spNRow K) := by
  refine Keep.of a sc_is_number_row (fun vs H Q E h => ?_) (fun fa cdv A outer s H vs Q E hr h => ?_)
  · obtain ⟨_, _, _, _, rfl, _⟩ := h
    rfl
  · obtain ⟨t, n, k, f, rfl, mt, hn, kk⟩ := h
    have htup := mt.tup
    refine ⟨_, (pss_cons (ps_if (PW.pt (pw_or (pt_not (pt_val (pe_callB call_isi (by rfl) T.n_isinstance (by decide +kernel) (pa_cons (pv 0) (pa_cons (pe_bltn (v := .ty "tuple") (u := .type "tuple") (by rfl) T.n_tuple (by decide +kernel) rfl) pa_nil))))) (pw_or1 (pt_cmpR op_ne (pe_callB (c_len K) (by rfl) T.n_len (by decide +kernel) (pa_cons (pv 0) pa_nil)) (pv 1) (nomark _))))) (pss_one (ps_ret pe_bl)) pss_nil)
    (pss_one (ps_ret (pe_callB (c_all K rfl) (by rfl) T.n_all (by decide +kernel) (pa_cons (pe_lc (own := [("x", 3)]) rfl sc_is_number_row.nd (i_tup K (pv 0)) (blkOk_by (N := ["value", "length", "bound", "x"]) (sc := defScope s_is_number_row) (by decide +kernel)) (fun _ _ _ _ _ => (pg_name (i := 3) sc_is_number_row.nd rfl (by first | exact Or.inl rfl | exact Or.inr rfl))) (fun _ _ _ _ _ => pts_nil) (fun _ _ _ _ _ => (pe_k k_is_within (hr.mono (by decide)) (by rfl) (pa_cons (pv 3) (pa_cons pe_int (pa_cons (pe_op op_sub (pv 2) pe_int) pa_nil)))))) pa_nil))))), ?_⟩
    walk_at "rd"
    refine n_isiB (b := true) (sq_ty htup) (by decide +kernel) ?_
    walk_at "rd"
    rw [natsV_len]
    refine r_ifNI (fun c => absurd rfl c) (fun _ => ?_)
    walk_at "rd"
    refine lc_tpl (fun _ v _ => v = V.bl true) htup (by rw [natsV_len]; omega) (fun R' h => ?_) (fun i => mut_val) ?_ ?_
    · walk_at "rd"
      exact h
    · intro i y H2 Q' hy s2 k2
      have hi : i < n := by have := (List.getElem?_eq_some_iff.mp hy).1; rw [natsV_len] at this; exact this
      rw [natsV_get hi] at hy
      cases hy
      have := mt.lt i hi
      walk_at "rd"
      refine ⟨_, _, _, rfl, ?_⟩
      have e : (decide ((0 : Int) ≤ (f i : Int)) && decide ((f i : Int) ≤ (k : Int) - 1)) = true := by
        rw [decide_eq_true (by omega), decide_eq_true (by omega)]; rfl
      rw [e]
      exact k2 _ _ (Same.refl _) rfl
    · intro D L H2 hD s2 hL len r
      walk_at "rd"
      rw [trues len r] at hL
      refine n_all (SqL.of hL) ?_
      rw [all_trues]
      exact kk _ s2
def spMRow (K : PySem.W.Frag) (C : Addr) : Sp := fun vs H Q _ => ∃ (g t n k : Nat) (m : Nat → Nat → Nat) (f : Nat → Nat), vs = [.ref g, .ref t, .int (n : Int)] ∧ GrpO K C H g k m ∧ MapT K H t n k f ∧ n ≤ 1000 ∧ ∀ H', Same H H' → Q (.bl true) H'
theorem k_is_member_row {C : Addr} (T : TxG K mg C) (k_is_number_row : Keep P w K mg base 3 "is_number_row" ["value", "length", "bound"] (spNRow K)) (a : At K mg "is_member_row" s_is_member_row ["group", "value", "length"]) : Keep P w K mg base 4 "is_member_row" ["group", "value", "length"] (spMRow K C) := by
  refine Keep.of a sc_is_member_row (fun vs H Q E h => ?_) (fun fa cdv A outer s H vs Q E hr h => ?_)
  · obtain ⟨_, _, _, _, _, _, rfl, _⟩ := h
    rfl
  · obtain ⟨g, t, n, k, m, f, rfl, hg, mt, hn, kk⟩ := h
    obtain ⟨dx, tt, iv, e', inv, gg⟩ := id hg
    refine ⟨_, (pss_one (ps_ret (pe_k k_is_number_row (hr.mono (by decide)) (by rfl) (pa_cons (pv 1) (pa_cons (pv 2) (pa_cons (e_fld K (pv 0) rfl) pa_nil)))))), ?_⟩
    walk_at "rd"
    refine ⟨_, _, _, _, _, rfl, gg.ins, T.cl, T.nS, gf_size, ?_⟩
    walk_at "rd"
    exact ⟨t, n, k, f, rfl, mt, hn, kk⟩
def spMap (K : PySem.W.Frag) (C : Addr) (v : V) : Sp := fun vs H Q _ => ∃ (g1 g2 t n k : Nat) (m1 m2 : Nat → Nat → Nat) (f : Nat → Nat), vs = [.ref g1, .ref g2, .ref t] ∧ GrpO K C H g1 n m1 ∧ GrpO K C H g2 k m2 ∧ MapT K H t n k f ∧ ∀ H', Same H H' → Q v H'
def spInv (K : PySem.W.Frag) (C : Addr) : Sp := fun vs H Q _ => ∃ (g n x e : Nat) (m : Nat → Nat → Nat) (inv : Nat → Nat), vs = [.ref g, .int x] ∧ GrpO K C H g n m ∧ G.IsNe n m e ∧ G.InvOf n m e inv ∧ x < n ∧ Q (.int (inv x : Nat)) H
theorem ok_inverse {C f : Addr} {fd : FuncData} (T : TxG K mg C) (k_require_member : Keep P w K mg base 4 "require_member" ["group", "value"] (spMember K C .non)) (F : Fun K "inverse" "Group.inverse" s_Group_inverse f fd) : FnOk P w K mg base CX0 5 f fd ["self", "x"] (spInv K C) := by
  refine F.ok sc_Group_inverse (fun vs H Q E h => ?_) (fun cdv A outer s H vs Q E hr h => ?_)
  · obtain ⟨_, _, _, _, _, _, rfl, _⟩ := h
    rfl
  · obtain ⟨p, n, x, e, m, inv2, rfl, ⟨dx, t, iv, e', inv, g⟩, he, hi2, hx, kk⟩ := h
    have ee : e' = e := g.ne.uniq he
    subst ee
    have ey : inv x = inv2 x := G.InvOf.uniq g.grp he g.iv_ok hi2 x hx
    refine ⟨_, (pss_cons (ps_expr (pe_k k_require_member (hr.mono (by decide)) (by rfl) (pa_cons (pv 0) (pa_cons (pv 1) pa_nil))))
    (pss_one (ps_ret (pe_ix (x_tup K) (e_fld K (pv 0) rfl) (pv 1) (fun _ _ => rfl))))), ?_⟩
    walk_at "rd"
    refine ⟨p, dx, t, iv, n, e', x, rfl, g.ins, hx, ?_⟩
    walk_at "rd"
    refine ⟨_, _, _, _, _, rfl, g.ins, T.cl, T.nI, gf_inverses, ?_⟩
    walk_at "rd"
    refine Wk.r_ixT g.invs (at_n (natsV_get hx)) ?_
    rw [ey]
    exact kk
end
end Wk
end
section
set_option Elab.async false
set_option linter.all false
set_option maxRecDepth 100000
/-! methods that may raise; what is asked of a caught error: its fields, isinstance -/
namespace Wk
open PySem PySem.Spec PyProof.Rows L2
section
variable {X : Cx} {CX : CXT} {k n : Nat} {C f : Addr} {fd : FuncData} {ps ks : List PySem.Str} {sp : Sp} {E : L2.St → XK} {m : PySem.Str} {apos pos : Pos} {o e : Expr} {es : List Expr} {kws : List Keyword} {ta : TE} {t tk : TA} {g : List Value → List Value → List Value} {gV : List V → List V → List V} {W : WX}
theorem run_fnNS {pins : List (Addr × Obj)} {σ : L2.St} {H : Hp} {s : Shared} {Q : VK} {us ws : List Value} {vs zs : List V} {E : XK} (F : FnOk X.prog X.w X.K X.mg X.base CX k f fd ps sp) (hr : Room k X.A) (hb : KBn X.K fd ps n ks g gV) (hx : PassesAt CX X σ E)
    (I : Inv X pins σ H s) (r : Vals vs us) (rz : Vals zs ws) (l1 : vs.length = n) (l2 : zs.length = ks.length) (h : sp (gV vs zs) H Q E) : wpAny (model X.prog X.w) X.A (call (.ref f) us (ks.zip ws)) (EP X pins σ Q) X.xe s := by
  have r2 := hb.rel r rz
  refine wpAny_call (codeAny_mono (F.run X.A X.stack s H ⟨us, ks.zip ws⟩ (g us ws) (gV vs zs) Q E hr I.env0 (hb.to s us ws I.kIn (r.length.symm.trans l1) (rz.length.symm.trans l2)) r2 h) fun r s' hq => ?_)
  cases r with
  | error e => exact hx pins H s e s' I hq
  | ok fl =>
    cases fl with
    | ret u => exact I.after hq
    | next => exact False.elim hq
    | brk => exact False.elim hq
    | cont => exact False.elim hq
/-- a method that keeps sp and may raise -/
def KeepMX (P : Program) (w : World) (K : PySem.W.Frag) (mg : PySem.Str → Option Value) (base : Heap) (k : Nat) (C : Addr) (x : PySem.Str) (ps : List PySem.Str) (sp : Sp) : Prop :=
  ∃ f fd, FnOk P w K mg base (L2.CX P w) k f fd ps sp ∧ Meth K C x f ∧ Binds K fd ps []
/-- the same, with keywords -/
def KeepNX (P : Program) (w : World) (K : PySem.W.Frag) (mg : PySem.Str → Option Value) (base : Heap) (k : Nat) (C : Addr) (x : PySem.Str) (ps : List PySem.Str) (n : Nat) (ks : List PySem.Str) (sp : Sp) : Prop :=
  ∃ f fd, FnOk P w K mg base (L2.CX P w) k f fd ps sp ∧ Meth K C x f ∧ KBn K fd ps n ks (fun us ws => us ++ ws) (fun vs zs => vs ++ zs)
def tMethX (C : Addr) (m : PySem.Str) (sp : Sp) (E : L2.St → XK) (ta : TE) (t : TA) : TE := fun σ H Q => ta σ H fun x H1 => ∃ a dx fs, x = .ref a ∧ H1 a = some (.ins C dx fs) ∧ fs.lookup m = none ∧ t σ H1 fun vs H2 => sp (x :: vs) H2 Q (E σ)
theorem r_methX {σ : L2.St} {H : Hp} {Q : VK} (h : ta σ H fun x H1 => ∃ a dx fs, x = .ref a ∧ H1 a = some (.ins C dx fs) ∧ fs.lookup m = none ∧ t σ H1 fun vs H2 => sp (x :: vs) H2 Q (E σ)) : tMethX C m sp E ta t σ H Q := h
theorem pe_mX {pl : Sem Bool} (he : PE X o ta) (c : Cls X.K C) (M : KeepMX X.prog X.w X.K X.mg X.base k C m ps sp) (hr : Room k X.A) (tkk : Takes X W) (ha : PA X (e :: es) t)
    (hst : starEach (e :: es) X.env = (false, eval e X.env) :: starEach es X.env := by rfl) (hpl : (backTo pos (starEach es X.env)).any (·.1) = false := by rfl)
    (ht : eval (.Call (.Attribute o m apos) (e :: es) [] pos) X.env = (do
      let ov ← eval o X.env
      standAt apos.atName
      let (f, first) ← holding [ov] (getMethod ov m pl)
      callWith pos f first (backTo pos (starEach (e :: es) X.env)) (backToKw pos (keywordEach [] X.env))) := by rfl) :
    PE X (.Call (.Attribute o m apos) (e :: es) [] pos) (tMethX C m sp (WE W) ta t) := by
  obtain ⟨f, fd, F, M, hb⟩ := M
  refine ⟨fun pins s σ H Q I h => ?_⟩
  refine PySem.W.methodCall_KW (pl := pl) (thn (he.run pins s σ H _ I h) fun u s1 ⟨x, H1, I1, rx, a, dx, fs, ex, ea, l, q⟩ => ?_) ht
  subst ex
  obtain rfl : u = Value.ref a := rx
  refine getmeth_ok I1 ea c M l ?_
  refine PySem.W.callWith_K (first := [.ref a]) (h₀ := X.base) I.ok.mod.kin M.kp (thn (ha.run pos pins s1 σ H1 _ I1 q) fun us s2 ⟨vs, H2, I2, r, q2⟩ => ⟨I2.kIn, ?_⟩) hst hpl
  exact run_fnS (us := .ref a :: us) (vs := .ref a :: vs) F hr hb (passAt tkk σ) I2 (.cons rfl r) q2
def tMethNX (C : Addr) (m : PySem.Str) (n mm : Nat) (sp : Sp) (E : L2.St → XK) (ta : TE) (t tk : TA) : TE := fun σ H Q => ta σ H fun x H1 => ∃ a dx fs, x = .ref a ∧ H1 a = some (.ins C dx fs) ∧ fs.lookup m = none ∧
  t σ H1 fun vs H2 => tk σ H2 fun zs H3 => vs.length + 1 = n ∧ zs.length = mm ∧ sp (x :: vs ++ zs) H3 Q (E σ)
theorem r_methNX {mm : Nat} {σ : L2.St} {H : Hp} {Q : VK} (h : ta σ H fun x H1 => ∃ a dx fs, x = .ref a ∧ H1 a = some (.ins C dx fs) ∧ fs.lookup m = none ∧ t σ H1 fun vs H2 => tk σ H2 fun zs H3 => vs.length + 1 = n ∧ zs.length = mm ∧ sp (x :: vs ++ zs) H3 Q (E σ)) : tMethNX C m n mm sp E ta t tk σ H Q := h
theorem pe_mKX {pl : Sem Bool} (he : PE X o ta) (c : Cls X.K C) (M : KeepNX X.prog X.w X.K X.mg X.base k C m ps n ks sp) (hr : Room k X.A) (tkk : Takes X W) (ha : PA X (e :: es) t) (hkw : PK X kws tk)
    (hall : (backToKw pos (keywordEach kws X.env)).all (·.1.isSome) = true := by rfl) (hks : (backToKw pos (keywordEach kws X.env)).filterMap (·.1) = ks := by rfl)
    (hst : starEach (e :: es) X.env = (false, eval e X.env) :: starEach es X.env := by rfl) (hpl : ((backTo pos (starEach (e :: es) X.env)).any (·.1) || (backToKw pos (keywordEach kws X.env)).any (·.1.isNone)) = false := by rfl)
    (ht : eval (.Call (.Attribute o m apos) (e :: es) kws pos) X.env = (do
      let ov ← eval o X.env
      standAt apos.atName
      let (f, first) ← holding [ov] (getMethod ov m pl)
      callWith pos f first (backTo pos (starEach (e :: es) X.env)) (backToKw pos (keywordEach kws X.env))) := by rfl) :
    PE X (.Call (.Attribute o m apos) (e :: es) kws pos) (tMethNX C m n ks.length sp (WE W) ta t tk) := by
  obtain ⟨f, fd, F, M, hb⟩ := M
  refine ⟨fun pins s σ H Q I h => ?_⟩
  refine PySem.W.methodCall_KW (pl := pl) (thn (he.run pins s σ H _ I h) fun u s1 ⟨x, H1, I1, rx, a, dx, fs, ex, ea, l, q⟩ => ?_) ht
  subst ex
  obtain rfl : u = Value.ref a := rx
  refine getmeth_ok I1 ea c M l ?_
  refine PySem.W.callWith_KW (first := [.ref a]) (h₀ := X.base) I.ok.mod.kin M.kp hall (thn (ha.run pos pins s1 σ H1 _ I1 q) fun us s2 ⟨vs, H2, I2, r, q2⟩ => ?_) hpl hst
  refine thn (hkw.run pos pins s2 σ H2 _ I2 q2) fun ws s3 ⟨zs, H3, I3, rz, l1, l2, q3⟩ => ⟨I3.kIn, ?_⟩
  rw [hks]
  exact run_fnNS (us := .ref a :: us) (vs := .ref a :: vs) F hr hb (passAt tkk σ) I3 (.cons rfl r) rz (by rw [List.length_cons]; exact l1) l2 q3
end
/-- what is asked of the class of a caught error -/
structure XcC (K : PySem.W.Frag) (C : Addr) : Prop where
  ga : PySem.W.findIn K (.ref C) "__getattribute__" = some (some (.builtin "BaseException.__getattribute__"))
  gg : PySem.W.findIn K (.ref C) "__getattr__" = some none
  exC : PySem.W.subIn K (.ref C) (.type "BaseException") = some true
  hdC : PySem.W.hasDictIn K C = true
  ha : PySem.W.findIn K (.ref C) "__class__" = some (some (.builtin "object.__class__"))
  hn : PySem.W.specialIn K (.builtin "object.__class__") "__get__" = some (some (.builtin "getset_descriptor.__get__"))
  ht : PySem.W.takesIn K (.builtin "object.__class__") = some true
  hm : PySem.W.mroIn K C (.type "object") = some true
theorem XcC.cl {K : PySem.W.Frag} {C : Addr} (T : XcC K C) : (PySem.W.clsIn K C).isSome = true := by
  obtain ⟨cd, hc, _⟩ := PySem.W.any_some T.hdC
  rw [hc]
  rfl
/-- err.f, err the error that the suite holds -/
def tXfA (K : PySem.W.Frag) (a : Addr) (cls : Value) (d : Option Addr) (f : PySem.Str) (te : TE) : TE := fun σ H Q => te σ H fun x H1 => x = .ref a ∧ ∃ (C dd : Addr) (fs : List (PySem.Str × V)) (v : V), cls = .ref C ∧ d = some dd ∧ XcC K C ∧ PySem.W.findIn K (.ref C) f = some none ∧ H1 dd = some (.xd fs) ∧ fs.lookup f = some v ∧ Q v H1
theorem r_xfA {K : PySem.W.Frag} {a : Addr} {cls : Value} {d : Option Addr} {f : PySem.Str} {te : TE} {σ : L2.St} {H : Hp} {Q : VK} (h : te σ H fun x H1 => x = .ref a ∧ ∃ (C dd : Addr) (fs : List (PySem.Str × V)) (v : V), cls = .ref C ∧ d = some dd ∧ XcC K C ∧ PySem.W.findIn K (.ref C) f = some none ∧ H1 dd = some (.xd fs) ∧ fs.lookup f = some v ∧ Q v H1) : tXfA K a cls d f te σ H Q := h
theorem pe_xfA {X : Cx} {a : Addr} {oe : Obj} {cls : Value} {d : Option Addr} {pn : List (Addr × Obj)} {e : Expr} {te : TE} {pos : Pos} {n : PySem.Str}
    (hz : Zc cls d oe) (hf : ∃ vs, oe.data = .fields vs) (he : PE (X.suite a ((a, oe) :: pn)) e te) (hb : attributeBase e n X.env (eval e X.env) = eval e X.env := by rfl) :
    PE (X.suite a ((a, oe) :: pn)) (.Attribute e n pos) (tXfA X.K a cls d n te) := by
  refine ⟨fun pins s σ H Q I h => ?_⟩
  refine attr_of hb (thn (he.run pins s σ H _ I h) fun u s1 hh => ?_)
  obtain ⟨x, H1, I1, rx, ex, C, dd, fs, v, ec, ed, T, hno, ea, l, q⟩ := hh
  subst ex
  obtain rfl : u = Value.ref a := rx
  subst ec
  subst ed
  obtain ⟨ha, _⟩ := I1.pin (a, oe) (List.mem_append_left _ List.mem_cons_self)
  obtain ⟨vs, hd⟩ := hf
  have hx : ObjOk X.prog X.w H1 s1.heap dd (.xd fs) := I1.hok dd _ ea
  obtain ⟨mA, hns, hr⟩ := hx
  obtain ⟨od, ho, hl⟩ := lookIn_ns hns
  obtain ⟨u, hu, ru⟩ := RelO.some_of (v := v) (o := mA n) (by rw [← l]; exact hr n)
  have J : PySem.W.InstAt s1.heap a oe C (some od) := ⟨ha, hz.1, by unfold PySem.W.notCls; rw [hd] <;> rfl, by rw [hz.2]; exact ho⟩
  exact HandSPX.exc_get I1.kIn J T.ga T.gg T.exC (PySem.W.findObj_own T.hdC hno rfl (by rw [hl, hu])) (handed_of ru) ⟨v, H1, I1.tok _, ru, q⟩
/-- isinstance(err, c) | isinstance(err, (c, ..)) -/
def rIsX (K : PySem.W.Frag) (cls : Value) (d : Option Addr) (a : Addr) : List V → Hp → VK → Prop := fun xs H Q => ∃ (C dd : Addr) (fs : List (PySem.Str × V)) (b : Bool) (y : V), cls = .ref C ∧ d = some dd ∧ XcC K C ∧ H dd = some (.xd fs) ∧ xs = [.ref a, y] ∧
  ((∃ u, ClsV y u ∧ PySem.W.kitOne K (.ref C) u = some b) ∨ ∃ (tp : Addr) (cs : List V) (us : List Value), y = .ref tp ∧ H tp = some (.tup cs) ∧ Paired ClsV cs us ∧ PySem.W.kitAny K (.ref C) us = some b) ∧ Q (.bl b) H
theorem call_isX {X : Cx} {a : Addr} {oe : Obj} {cls : Value} {d : Option Addr} {pn : List (Addr × Obj)} (hz : Zc cls d oe) (hf : ∃ vs, oe.data = .fields vs) : CallR (X.suite a ((a, oe) :: pn)) (.builtin "isinstance") (rIsX X.K cls d a) := by
  intro pins s σ H xs us Q I r h
  obtain ⟨C, dd, fs, b, y, ec, ed, T, ea, rfl, e, q⟩ := h
  subst ec
  subst ed
  obtain ⟨u1, u2, rfl, r1, r2⟩ := vals2 r
  obtain rfl : u1 = Value.ref a := r1
  obtain ⟨ha, _⟩ := I.pin (a, oe) (List.mem_append_left _ List.mem_cons_self)
  obtain ⟨vs, hd⟩ := hf
  have hx : ObjOk X.prog X.w H s.heap dd (.xd fs) := I.hok dd _ ea
  obtain ⟨mA, hns, hr⟩ := hx
  obtain ⟨od, ho, hl⟩ := lookIn_ns hns
  have J : PySem.W.InstAt s.heap a oe C (some od) := ⟨ha, hz.1, by unfold PySem.W.notCls; rw [hd] <;> rfl, by rw [hz.2]; exact ho⟩
  have Z : PySem.W.KitX X.K (.ref a) (.ref C) (fun h => PySem.W.InstAt h a oe C (some od)) := PySem.W.kitx_exc T.cl T.ga T.gg T.exC T.ha T.hn T.ht T.hm
  rcases e with ⟨u, k, e⟩ | ⟨tp, cs, ws, rfl, hT, k, e⟩
  · have e2 := k.eq r2
    subst e2
    exact PySem.W.kia_one Z I.kIn J e (fun z => nomatch z) fun tk => ⟨.bl b, H, I.tok tk, rfl, q⟩
  · cases (show u2 = Value.ref tp from r2)
    obtain ⟨_, its, rv, o, h1, h2, n, h3⟩ := (show ObjOk X.prog X.w H s.heap tp (.tup cs) from I.hok tp _ hT)
    have e3 := ClsV.all k rv
    subst e3
    obtain ⟨oc, od, dt, sl⟩ := o
    simp only at h2 h3
    subst h2 h3
    exact PySem.W.kia_tup Z I.kIn J h1 e (fun z => nomatch z) fun tk => ⟨.bl b, H, I.tok tk, rfl, q⟩
end Wk
end
section
set_option Elab.async false
set_option linter.all false
set_option maxRecDepth 100000
namespace Wk
open PySem PySem.Spec PyProof.Rows L2
local macro_rules | `(tactic| walk_at "hp") => `(tactic| first | assumption | exact upd_same | exact (upd_ne (ne_of_none (by assumption) (by assumption))).trans (by assumption) | (rw [upd_ne (by first | assumption | exact Ne.symm (by assumption))]; walk_at "hp"))
local macro_rules | `(tactic| walk_at "sq") => `(tactic| first | assumption | exact SqL.of (by assumption) | exact SqT.of (by assumption) | exact SqL.of (by walk_at "hp") | exact SqT.of (by walk_at "hp") | (refine Same.seq ?_ ?_ <;> assumption))
local macro_rules | `(tactic| walk_at "cmul") => `(tactic| first | exact .inr ⟨by decide, by decide⟩ | exact .inl ⟨by decide, by decide⟩ | exact .inr ⟨by omega, by omega⟩ | exact .inl ⟨by omega, by omega⟩)
local macro_rules | `(tactic| walk_at "cdiv") => `(tactic| first | exact ⟨by decide, by decide⟩ | exact wide_div (b := 64) (by omega) (by omega) (by decide) (by decide) | exact wide_div (b := 128) (by omega) (by omega) (by decide) (by decide))
local macro_rules | `(tactic| walk_at "rd1") => `(tactic| first
  | ((with_reducible show tVar _ _ _ _); refine Wk.r_var rfl ?_)
  | (with_reducible first
    | refine Wk.r_c ?_ | refine Wk.r_op ?_ | refine Wk.r_cons ?_ | refine Wk.r_nil ?_
    | refine Wk.r_seq ?_ | refine Wk.r_next ?_ | refine Wk.r_set ?_ | refine Wk.r_asgS ?_ | refine Wk.r_ret ?_ | refine Wk.r_drop ?_ | refine Wk.r_if ?_
    | refine Wk.r_asgG ?_ | refine Wk.r_gName ?_ | refine Wk.r_gCons ?_ | refine Wk.r_gNil ?_ | refine Wk.r_par ?_ | refine Wk.r_par3 ?_ | refine Wk.r_lstRg1 ?_ | refine Wk.r_tupRg1 ?_ | refine ⟨_, _, _, rfl, ?_⟩ | refine Wk.r_un ?_ | refine Wk.r_I0 ?_ | refine Wk.r_U ?_
    | refine Wk.r_test ?_ | refine Wk.r_B ?_ | refine Wk.r_k ?_ | refine Wk.r_not ?_ | refine Wk.r_and ?_ | refine Wk.r_or ?_ | refine Wk.r_andV ?_ | refine Wk.r_orV ?_ | refine Wk.r_notV ?_
    | refine Wk.r_CB ?_ | refine Wk.r_chain ?_ | refine Wk.r_fld ?_ | refine Wk.r_sfld ?_ | refine Wk.r_lst ?_ | refine Wk.r_tup ?_ | refine Wk.r_call ?_ | refine Wk.r_BM ?_ | refine Wk.r_BM0 ?_ | refine Wk.r_T ?_ | refine Wk.r_nT ?_ | refine Wk.r_nF ?_ | refine Wk.r_F ?_
    | refine Or.inl ⟨_, rfl, ?_⟩ | refine Or.inr ⟨_, rfl, ?_⟩ | refine ⟨_, rfl, ?_⟩ | refine ⟨_, _, rfl, ?_⟩)
  | ((with_reducible refine Wk.r_eq ?c0 ?_); (case c0 => rfl)) | ((with_reducible refine Wk.r_ne ?c0 ?_); (case c0 => rfl))
  | ((with_reducible refine Wk.r_pow ?c0 ?_); (case c0 => exact ⟨by decide, by decide, by decide⟩))
  | ((with_reducible refine Wk.r_mul ?c0 ?_); (case c0 => walk_at "cmul")) | ((with_reducible refine Wk.r_mod ?c0 ?_); (case c0 => first | decide | omega)) | ((with_reducible refine Wk.r_div ?c0 ?_); (case c0 => walk_at "cdiv"))
  | ((with_reducible refine Wk.r_new ?c0 ?_); (case c0 => (simp only [List.length_cons, List.length_nil]; omega)))
  | ((with_reducible show gTup _ _ _ _ _ _ _); refine Wk.r_gTup (by walk_at "sq") (by rfl) ?_)
  | (refine Wk.r_tyL (by walk_at "hp") ?_)
  | ((with_reducible show rSetL _ _ _ _ _); refine Wk.r_setL (by walk_at "hp") (by rfl) ?_)
  | ((with_reducible show rIxL _ _ _ _ _); refine Wk.r_ixL (by walk_at "sq") (by rfl) ?_) | ((with_reducible show rIxT _ _ _ _ _); refine Wk.r_ixT (by walk_at "sq") (by rfl) ?_)
  | ((with_reducible show rLenOf _ _ _ _); first | refine Wk.n_lenL (by walk_at "sq") ?_ | refine Wk.n_lenT (by walk_at "sq") ?_)
  | ((with_reducible show rListOf _ _ _ _); first | refine Wk.n_listL (by walk_at "sq") ?_ | refine Wk.n_listT (by walk_at "sq") ?_)
  | ((with_reducible show rTupZ _ _ _ _); first | refine Wk.z_tupL (by walk_at "sq") ?_ | refine Wk.z_tupT (by walk_at "sq") ?_)
  | ((with_reducible show rTupOf _ _ _ _); first | refine Wk.n_tupL (by walk_at "sq") ?_ | refine Wk.n_tupT (by walk_at "sq") ?_))
local macro_rules | `(tactic| walk_at "rd") => `(tactic| repeat (walk_at "rd1"))

structure TxtS (mg : Str → Option Value) : Prop extends Txt mg where
  n_str : mg "str" = none
section
variable {P : Program} {w : World} {K : PySem.W.Frag} {mg : Str → Option Value} {base : Heap}
def spWideN : Sp := fun vs H Q _ => ∃ p q : Addr, vs = [.ref p] ∧ DS H p q ∧ ∀ H' r, ExP p H H' → DS H' p q → 0 ≤ r → r < 10 ^ 40 → Q (.int r) H'
theorem pow10 {i j : Nat} (h : i ≤ j) : (10 : Int) ^ i ≤ 10 ^ j := by
  have := Nat.pow_le_pow_right (n := 10) (by decide) h
  exact_mod_cast this
theorem k__law_wide (T : Txt mg) (k__law_draw : Keep P w K mg base 1 "_law_draw" ["state", "limit"] spDraw) (a : At K mg "_law_wide" s__law_wide ["state"]) : Keep P w K mg base 2 "_law_wide" ["state"] spWideN := by
  refine Keep.of a sc__law_wide (fun vs H Q E h => ?_) (fun f cdv A outer s H vs Q E hr h => ?_)
  · obtain ⟨_, _, rfl, _⟩ := h
    rfl
  · obtain ⟨p, q, rfl, d, kk⟩ := h
    refine ⟨_, (pss_cons (ps_set (i := 1) sc__law_wide.nd rfl (by first | exact Or.inl rfl | exact Or.inr rfl) pe_int)
    (pss_cons (ps_for PassesOwn.never rfl (pi_range1 (by rfl) T.n_range (pa_cons pe_int pa_nil)) (pg_name (i := 2) sc__law_wide.nd rfl (by first | exact Or.inl rfl | exact Or.inr rfl)) (pss_one (ps_set (i := 1) sc__law_wide.nd rfl (by first | exact Or.inl rfl | exact Or.inr rfl) (pe_op op_add (pe_op op_mul (pv 1) (pe_op op_pow pe_int pe_int)) (pe_k k__law_draw (hr.mono (by decide)) (by rfl) (pa_cons (pv 0) (pa_cons (pe_op op_pow pe_int pe_int) pa_nil)))))))
    (pss_cons (ps_set (i := 3) sc__law_wide.nd rfl (by first | exact Or.inl rfl | exact Or.inr rfl) pe_int)
    (pss_cons (ps_for PassesOwn.never rfl (pi_range1 (by rfl) T.n_range (pa_cons (pe_k k__law_draw (hr.mono (by decide)) (by rfl) (pa_cons (pv 0) (pa_cons pe_int pa_nil))) pa_nil)) (pg_name (i := 2) sc__law_wide.nd rfl (by first | exact Or.inl rfl | exact Or.inr rfl)) (pss_one (ps_set (i := 3) sc__law_wide.nd rfl (by first | exact Or.inl rfl | exact Or.inr rfl) (pe_op op_mul (pv 3) pe_int))))
    (pss_one (ps_ret (pe_op op_mod (pe_callTy call_int1 (by rfl) T.n_int (by decide +kernel) (pa_cons (pv 1) pa_nil)) (pv 3)))))))), ?_⟩
    walk_at "rd"
    refine f_rng (n := 5) (fun i σ' H' => ∃ (z : Int) (v2 v3 : Option V), σ' = [some (.ref p), some (.int z), v2, v3] ∧ 0 ≤ z ∧ ExP p H H' ∧ DS H' p q) (by omega) (fun R' h => ?_) ⟨0, _, _, rfl, by omega, ExP.refl _ _, d⟩ ?_ ?_
    · walk_at "rd"
      exact h
    · rintro i σ' H' hi ⟨z, v2, v3, rfl, z0, x1, d1⟩ N B R hN hB hRt
      walk_at "rd"
      refine ⟨p, q, _, rfl, d1, by decide +kernel, fun H2 r x2 d2 r0 rl => ?_⟩
      walk_at "rd"
      exact hN _ _ ⟨_, _, _, rfl, Int.add_nonneg (Int.mul_nonneg z0 (by decide)) r0, x1.trans x2, d2⟩
    · rintro σ' H1 ⟨z, v2, v3, rfl, z0, x1, d1⟩
      walk_at "rd"
      unfold tFor iRng1
      walk_at "rd"
      refine ⟨p, q, 41, rfl, d1, by decide +kernel, fun H2 r x2 d2 r0 rl => ?_⟩
      have rl' := rl (by decide)
      walk_at "rd"
      refine ⟨by omega, by omega, ?_⟩
      refine for_range (lo := 0) (n := r.toNat) (fun i σ' H' => ∃ v2 : Option V, σ' = [some (.ref p), some (.int z), v2, some (.int (10 ^ i))] ∧ H' = H2) ⟨_, rfl, rfl⟩ ?_ ?_
      · rintro i σ' H' hi ⟨v2, rfl, rfl⟩
        walk_at "rd"
        exact rfl
      · rintro σ' H' ⟨v2, rfl, rfl⟩
        have c0 : (0 : Int) < 10 ^ r.toNat := Int.pow_pos (by decide)
        have c1 : (10 : Int) ^ r.toNat ≤ 10 ^ 40 := pow10 (by omega)
        walk_at "rd"
        exact kk _ _ (x1.trans x2) d2 (Int.emod_nonneg _ (by omega)) (Int.lt_of_lt_of_le (Int.emod_lt_of_pos _ c0) c1)
/-- the odd values of the law's draw; they stay what they are while the list at p changes -/
inductive OddV (K : PySem.W.Frag) (p : Addr) (H : Hp) : V → Prop where
  | non : OddV K p H .non
  | bl (b : Bool) : OddV K p H (.bl b)
  | neg (z : Int) (h : z < 0) (g : -(10 ^ 41) < z) : OddV K p H (.int z)
  | big (z : Int) (h : 200 ≤ z) (g : z < 10 ^ 41) : OddV K p H (.int z)
  | str (x : PySem.Str) (h : PyData.strOk x = true) : OddV K p H (.str x)
  | dat (a : Addr) (d : PyData) (dp : ∀ H', ExP p H H' → Dp K H' (.ref a) d) (sh : (d.canLay0 && decide (d.depth ≤ 8)) = true) (re : PyData.eqv d d = true) (ty : ∀ H', ExP p H H' → TyX K H' (.ref a) (.type "list") ∨ TyX K H' (.ref a) (.type "tuple")) : OddV K p H (.ref a)
def spOdd (K : PySem.W.Frag) : Sp := fun vs H Q _ => ∃ p q : Addr, vs = [.ref p] ∧ DS H p q ∧ ∀ H' v, ExP p H H' → DS H' p q → OddV K p H' v → Q v H'
theorem k__law_odd (T : Txt mg) (n_str : mg "str" = none) (k__law_draw : Keep P w K mg base 1 "_law_draw" ["state", "limit"] spDraw) (k__law_wide : Keep P w K mg base 2 "_law_wide" ["state"] spWideN) (a : At K mg "_law_odd" s__law_odd ["state"]) : Keep P w K mg base 3 "_law_odd" ["state"] (spOdd K) := by
  have T : TxtS mg := { T with n_str := n_str }
  refine Keep.of a sc__law_odd (fun vs H Q E h => ?_) (fun f cdv A outer s H vs Q E hr h => ?_)
  · obtain ⟨_, _, rfl, _⟩ := h
    rfl
  · obtain ⟨p, q, rfl, d, kk⟩ := h
    refine ⟨_, (pss_cons (ps_set (i := 1) sc__law_odd.nd rfl (by first | exact Or.inl rfl | exact Or.inr rfl) (pe_k k__law_draw (hr.mono (by decide)) (by rfl) (pa_cons (pv 0) (pa_cons pe_int pa_nil))))
    (pss_cons (ps_if (pt_cmpR op_eq (pv 1) pe_int (nomark _)) (pss_one (ps_ret pe_non)) pss_nil)
    (pss_cons (ps_if (pt_cmpR op_eq (pv 1) pe_int (nomark _)) (pss_one (ps_ret (pe_cmpR op_eq (pe_k k__law_draw (hr.mono (by decide)) (by rfl) (pa_cons (pv 0) (pa_cons pe_int pa_nil))) pe_int (nomark _)))) pss_nil)
    (pss_cons (ps_if (pt_cmpR op_eq (pv 1) pe_int (nomark _)) (pss_one (ps_ret (pe_op op_sub (pe_op op_sub pe_int pe_int) (pe_op op_mul (pe_k k__law_draw (hr.mono (by decide)) (by rfl) (pa_cons (pv 0) (pa_cons pe_int pa_nil))) (pe_k k__law_wide (hr.mono (by decide)) (by rfl) (pa_cons (pv 0) pa_nil)))))) pss_nil)
    (pss_cons (ps_if (pt_cmpR op_eq (pv 1) pe_int (nomark _)) (pss_one (ps_ret (pe_callTy call_str_int (by rfl) T.n_str (by decide +kernel) (pa_cons (pe_k k__law_draw (hr.mono (by decide)) (by rfl) (pa_cons (pv 0) (pa_cons pe_int pa_nil))) pa_nil)))) pss_nil)
    (pss_cons (ps_if (pt_cmpR op_eq (pv 1) pe_int (nomark _)) (pss_one (ps_ret (pe_lst (pa_cons (pe_k k__law_draw (hr.mono (by decide)) (by rfl) (pa_cons (pv 0) (pa_cons pe_int pa_nil))) pa_nil)))) pss_nil)
    (pss_cons (ps_if (pt_cmpR op_eq (pv 1) pe_int (nomark _)) (pss_one (ps_ret (pe_op op_add pe_int (pe_op op_mul (pe_k k__law_draw (hr.mono (by decide)) (by rfl) (pa_cons (pv 0) (pa_cons pe_int pa_nil))) (pe_k k__law_wide (hr.mono (by decide)) (by rfl) (pa_cons (pv 0) pa_nil)))))) pss_nil)
    (pss_cons (ps_if (pt_cmpR op_eq (pv 1) pe_int (nomark _)) (pss_one (ps_ret (pe_tup (pa_cons (pe_k k__law_draw (hr.mono (by decide)) (by rfl) (pa_cons (pv 0) (pa_cons pe_int pa_nil))) (pa_cons pe_str pa_nil))))) pss_nil)
    (pss_cons (ps_if (pt_cmpR op_eq (pv 1) pe_int (nomark _)) (pss_one (ps_ret (pe_tup pa_nil))) pss_nil)
    (pss_cons (ps_if (pt_cmpR op_eq (pv 1) pe_int (nomark _)) (pss_one (ps_ret (pe_tup (pa_cons (pe_tup (pa_cons pe_int (pa_cons pe_int pa_nil))) (pa_cons (pe_lst (pa_cons pe_non (pa_cons pe_str pa_nil))) pa_nil))))) pss_nil)
    (pss_one (ps_ret pe_str)))))))))))), ?_⟩
    walk_at "rd"
    refine ⟨p, q, 10, rfl, d, by decide, fun H1 kd x1 d1 _ _ => ?_⟩
    walk_at "rd"
    refine r_ifI (fun c => ?_) (fun c => ?_)
    · walk_at "rd"
      exact kk _ _ x1 d1 .non
    walk_at "rd"
    refine r_ifI (fun c => ?_) (fun c => ?_)
    · walk_at "rd"
      refine ⟨p, q, 2, rfl, d1, by decide, fun H2 r x2 d2 r0 rl => ?_⟩
      walk_at "rd"
      exact kk _ _ (x1.trans x2) d2 (.bl _)
    walk_at "rd"
    refine r_ifI (fun c => ?_) (fun c => ?_)
    · walk_at "rd"
      refine ⟨p, q, 2, rfl, d1, by decide, fun H2 r x2 d2 r0 rl => ?_⟩
      walk_at "rd"
      refine ⟨p, q, rfl, d2, fun H3 z x3 d3 z0 zl => ?_⟩
      have rl' := rl (by decide)
      have er : r = 0 ∨ r = 1 := by omega
      walk_at "rd"
      refine kk _ _ ((x1.trans x2).trans x3) d3 (.neg _ ?_ ?_)
      · rcases er with rfl | rfl <;> omega
      · rcases er with rfl | rfl <;> omega
    walk_at "rd"
    refine r_ifI (fun c => ?_) (fun c => ?_)
    · walk_at "rd"
      refine ⟨p, q, 3, rfl, d1, by decide, fun H2 r x2 d2 r0 rl => ?_⟩
      have rl' := rl (by decide)
      have er : r = 0 ∨ r = 1 ∨ r = 2 := by omega
      walk_at "rd"
      refine ⟨by rcases er with rfl | rfl | rfl <;> decide +kernel, ?_⟩
      exact kk _ _ (x1.trans x2) d2 (.str _ (by rcases er with rfl | rfl | rfl <;> decide +kernel))
    walk_at "rd"
    refine r_ifI (fun c => ?_) (fun c => ?_)
    · walk_at "rd"
      refine ⟨p, q, 2, rfl, d1, by decide, fun H2 r x2 d2 r0 rl => ?_⟩
      walk_at "rd"
      intro l hl
      have s3 := same_new (o := .lst [.int r]) hl
      exact kk _ _ ((x1.trans x2).trans s3.exP) (d2.mono s3) (.dat l (.list [.int r]) (fun H9 x9 => .lst (SqL.of (x9 _ _ (d2.ne hl).1 upd_same)) (.cons (.int r) .nil)) (by simp [SeqAt.shaped, PyData.canLay0, PyData.canLayAll0, PyData.depth, PyData.depthAll] <;> decide +kernel) (by simp [PyData.eqv, PyData.eqvAll]) (fun H9 x9 => .inl (sl_ty (SqL.of (x9 _ _ (d2.ne hl).1 upd_same)))))
    walk_at "rd"
    refine r_ifI (fun c => ?_) (fun c => ?_)
    · walk_at "rd"
      refine ⟨p, q, 2, rfl, d1, by decide, fun H2 r x2 d2 r0 rl => ?_⟩
      walk_at "rd"
      refine ⟨p, q, rfl, d2, fun H3 z x3 d3 z0 zl => ?_⟩
      have rl' := rl (by decide)
      have er : r = 0 ∨ r = 1 := by omega
      walk_at "rd"
      refine kk _ _ ((x1.trans x2).trans x3) d3 (.big _ ?_ ?_)
      · rcases er with rfl | rfl <;> omega
      · rcases er with rfl | rfl <;> omega
    walk_at "rd"
    refine r_ifI (fun c => ?_) (fun c => ?_)
    · walk_at "rd"
      refine ⟨p, q, 2, rfl, d1, by decide, fun H2 r x2 d2 r0 rl => ?_⟩
      walk_at "rd"
      intro l hl
      have s3 := same_new (o := .tup [.int r, .str "a"]) hl
      exact kk _ _ ((x1.trans x2).trans s3.exP) (d2.mono s3) (.dat l (.tuple [.int r, .str "a"]) (fun H9 x9 => .tup (SqT.of (x9 _ _ (d2.ne hl).1 upd_same)) (.cons (.int r) (.cons (.str _) .nil))) (by simp [SeqAt.shaped, PyData.canLay0, PyData.canLayAll0, PyData.depth, PyData.depthAll] <;> decide +kernel) (by simp [PyData.eqv, PyData.eqvAll]) (fun H9 x9 => .inr (sq_ty (SqT.of (x9 _ _ (d2.ne hl).1 upd_same)))))
    walk_at "rd"
    refine r_ifI (fun c => ?_) (fun c => ?_)
    · walk_at "rd"
      intro l hl
      have s3 := same_new (o := .tup []) hl
      exact kk _ _ (x1.trans s3.exP) (d1.mono s3) (.dat l (.tuple []) (fun H9 x9 => .tup (SqT.of (x9 _ _ (d1.ne hl).1 upd_same)) .nil) (by simp [SeqAt.shaped, PyData.canLay0, PyData.canLayAll0, PyData.depth, PyData.depthAll] <;> decide +kernel) (by simp [PyData.eqv, PyData.eqvAll]) (fun H9 x9 => .inr (sq_ty (SqT.of (x9 _ _ (d1.ne hl).1 upd_same)))))
    walk_at "rd"
    refine r_ifI (fun c => ?_) (fun c => ?_)
    · walk_at "rd"
      intro l hl
      have s3 := same_new (o := .tup [.int 0, .int 1]) hl
      walk_at "rd"
      intro l2 hl2
      have s4 := same_new (o := .lst [.non, .str "1"]) hl2
      walk_at "rd"
      intro l3 hl3
      have s5 := same_new (o := .tup [.ref l, .ref l2]) hl3
      have h1 : upd (upd (upd H1 l (.tup [.int 0, .int 1])) l2 (.lst [.non, .str "1"])) l3 (.tup [.ref l, .ref l2]) l = some (.tup [.int 0, .int 1]) := s5 _ _ (s4 _ _ upd_same)
      have h2 : upd (upd (upd H1 l (.tup [.int 0, .int 1])) l2 (.lst [.non, .str "1"])) l3 (.tup [.ref l, .ref l2]) l2 = some (.lst [.non, .str "1"]) := s5 _ _ upd_same
      have n1 := (d1.ne hl).1
      have n2 := ((d1.mono s3).ne hl2).1
      have n3 := (((d1.mono s3).mono s4).ne hl3).1
      refine kk _ _ (((x1.trans s3.exP).trans s4.exP).trans s5.exP) (((d1.mono s3).mono s4).mono s5) (.dat l3 (.tuple [.tuple [.int 0, .int 1], .list [.none, .str "1"]]) (fun H9 x9 => .tup (SqT.of (x9 _ _ n3 upd_same)) (.cons (.tup (SqT.of (x9 _ _ n1 h1)) (.cons (.int 0) (.cons (.int 1) .nil))) (.cons (.lst (SqL.of (x9 _ _ n2 h2)) (.cons .non (.cons (.str _) .nil))) .nil))) ?_ ?_ (fun H9 x9 => .inr (sq_ty (SqT.of (x9 _ _ n3 upd_same)))))
      · simp [SeqAt.shaped, PyData.canLay0, PyData.canLayAll0, PyData.depth, PyData.depthAll] <;> decide +kernel
      · simp [PyData.eqv, PyData.eqvAll]
    walk_at "rd"
    exact kk _ _ x1 d1 (.str _ (by decide +kernel))
end
end Wk
end
section
set_option Elab.async false
set_option linter.all false
set_option maxRecDepth 100000
namespace Wk
open PySem PySem.Spec PyProof.Rows L2
local macro_rules | `(tactic| walk_at "hp") => `(tactic| first | assumption | exact upd_same | exact (upd_ne (ne_of_none (by assumption) (by assumption))).trans (by assumption) | (rw [upd_ne (by first | assumption | exact Ne.symm (by assumption))]; walk_at "hp"))
local macro_rules | `(tactic| walk_at "sq") => `(tactic| first | assumption | exact SqL.of (by assumption) | exact SqT.of (by assumption) | exact SqL.of (by walk_at "hp") | exact SqT.of (by walk_at "hp") | (refine Same.seq ?_ ?_ <;> assumption))
local macro_rules | `(tactic| walk_at "cmul") => `(tactic| first | exact .inr ⟨by decide, by decide⟩ | exact .inl ⟨by decide, by decide⟩ | exact .inr ⟨by omega, by omega⟩ | exact .inl ⟨by omega, by omega⟩)
local macro_rules | `(tactic| walk_at "cdiv") => `(tactic| first | exact ⟨by decide, by decide⟩ | exact wide_div (b := 64) (by omega) (by omega) (by decide) (by decide) | exact wide_div (b := 128) (by omega) (by omega) (by decide) (by decide))
local macro_rules | `(tactic| walk_at "rd1") => `(tactic| first
  | ((with_reducible show tVar _ _ _ _); refine Wk.r_var rfl ?_)
  | (with_reducible first
    | refine Wk.r_c ?_ | refine Wk.r_op ?_ | refine Wk.r_cons ?_ | refine Wk.r_nil ?_
    | refine Wk.r_seq ?_ | refine Wk.r_next ?_ | refine Wk.r_set ?_ | refine Wk.r_asgS ?_ | refine Wk.r_ret ?_ | refine Wk.r_drop ?_ | refine Wk.r_if ?_
    | refine Wk.r_asgG ?_ | refine Wk.r_gName ?_ | refine Wk.r_gCons ?_ | refine Wk.r_gNil ?_ | refine Wk.r_par ?_ | refine Wk.r_par3 ?_ | refine Wk.r_lstRg1 ?_ | refine Wk.r_tupRg1 ?_ | refine ⟨_, _, _, rfl, ?_⟩ | refine Wk.r_un ?_ | refine Wk.r_I0 ?_ | refine Wk.r_U ?_
    | refine Wk.r_test ?_ | refine Wk.r_B ?_ | refine Wk.r_k ?_ | refine Wk.r_not ?_ | refine Wk.r_and ?_ | refine Wk.r_or ?_ | refine Wk.r_andV ?_ | refine Wk.r_orV ?_ | refine Wk.r_notV ?_
    | refine Wk.r_CB ?_ | refine Wk.r_chain ?_ | refine Wk.r_fld ?_ | refine Wk.r_sfld ?_ | refine Wk.r_lst ?_ | refine Wk.r_tup ?_ | refine Wk.r_call ?_ | refine Wk.r_BM ?_ | refine Wk.r_BM0 ?_ | refine Wk.r_T ?_ | refine Wk.r_nT ?_ | refine Wk.r_nF ?_ | refine Wk.r_F ?_
    | refine Or.inl ⟨_, rfl, ?_⟩ | refine Or.inr ⟨_, rfl, ?_⟩ | refine ⟨_, rfl, ?_⟩ | refine ⟨_, _, rfl, ?_⟩)
  | ((with_reducible refine Wk.r_eq ?c0 ?_); (case c0 => rfl)) | ((with_reducible refine Wk.r_ne ?c0 ?_); (case c0 => rfl))
  | ((with_reducible refine Wk.r_pow ?c0 ?_); (case c0 => exact ⟨by decide, by decide, by decide⟩))
  | ((with_reducible refine Wk.r_mul ?c0 ?_); (case c0 => walk_at "cmul")) | ((with_reducible refine Wk.r_mod ?c0 ?_); (case c0 => first | decide | omega)) | ((with_reducible refine Wk.r_div ?c0 ?_); (case c0 => walk_at "cdiv"))
  | ((with_reducible refine Wk.r_new ?c0 ?_); (case c0 => (simp only [List.length_cons, List.length_nil]; omega)))
  | ((with_reducible show gTup _ _ _ _ _ _ _); refine Wk.r_gTup (by walk_at "sq") (by rfl) ?_)
  | (refine Wk.r_tyL (by walk_at "hp") ?_)
  | ((with_reducible show rSetL _ _ _ _ _); refine Wk.r_setL (by walk_at "hp") (by rfl) ?_)
  | ((with_reducible show rIxL _ _ _ _ _); refine Wk.r_ixL (by walk_at "sq") (by rfl) ?_) | ((with_reducible show rIxT _ _ _ _ _); refine Wk.r_ixT (by walk_at "sq") (by rfl) ?_)
  | ((with_reducible show rLenOf _ _ _ _); first | refine Wk.n_lenL (by walk_at "sq") ?_ | refine Wk.n_lenT (by walk_at "sq") ?_)
  | ((with_reducible show rListOf _ _ _ _); first | refine Wk.n_listL (by walk_at "sq") ?_ | refine Wk.n_listT (by walk_at "sq") ?_)
  | ((with_reducible show rTupZ _ _ _ _); first | refine Wk.z_tupL (by walk_at "sq") ?_ | refine Wk.z_tupT (by walk_at "sq") ?_)
  | ((with_reducible show rTupOf _ _ _ _); first | refine Wk.n_tupL (by walk_at "sq") ?_ | refine Wk.n_tupT (by walk_at "sq") ?_))
local macro_rules | `(tactic| walk_at "rd") => `(tactic| repeat (walk_at "rd1"))

section
variable {P : Program} {w : World} {K : PySem.W.Frag} {mg : Str → Option Value} {base : Heap}
/-- the __init__ of an error with one field f -/
def spOexI (C : Addr) (f : Str) : Sp := fun vs H Q _ => ∃ (a : Addr) (v : V), vs = [.ref a, v] ∧ H a = some (exo a C none) ∧ ∀ dx, H dx = none → dx ≠ a → Q .non (upd (upd H dx (exd dx [(f, v)])) a (exo a C (some dx)))
theorem ok_invalidNumber {C f : Addr} {fd : FuncData} (T : OexC K C) (hno : PySem.W.findIn K (.ref C) "value" = some none) (F : Fun K "__init__" "InvalidNumber.__init__" s_InvalidNumber___init__ f fd) : FnOk P w K mg base CX0 1 f fd ["self", "value"] (spOexI C "value") := by
  refine F.ok sc_InvalidNumber___init__ (fun vs H Q E h => ?_) (fun cdv A outer s H vs Q E hr h => ?_)
  · obtain ⟨_, _, rfl, _⟩ := h
    rfl
  · obtain ⟨a, v, rfl, ha, kk⟩ := h
    refine ⟨_, (pss_one (ps_ost (pv 0) (pv 1))), ?_⟩
    refine ⟨_, rfl, _, rfl, a, C, rfl, T, hno, .inl ⟨ha, fun dx hd ne => ?_⟩⟩
    exact kk dx hd ne
end
end Wk
end
section
set_option Elab.async false
set_option linter.all false
set_option maxRecDepth 100000
namespace Wk
open PySem PySem.Spec PyProof.Rows L2
local macro_rules | `(tactic| walk_at "hp") => `(tactic| first | assumption | exact upd_same | exact (upd_ne (ne_of_none (by assumption) (by assumption))).trans (by assumption) | (rw [upd_ne (by first | assumption | exact Ne.symm (by assumption))]; walk_at "hp"))
local macro_rules | `(tactic| walk_at "sq") => `(tactic| first | assumption | exact SqL.of (by assumption) | exact SqT.of (by assumption) | exact SqL.of (by walk_at "hp") | exact SqT.of (by walk_at "hp") | (refine Same.seq ?_ ?_ <;> assumption))
local macro_rules | `(tactic| walk_at "cmul") => `(tactic| first | exact .inr ⟨by decide, by decide⟩ | exact .inl ⟨by decide, by decide⟩ | exact .inr ⟨by omega, by omega⟩ | exact .inl ⟨by omega, by omega⟩)
local macro_rules | `(tactic| walk_at "cdiv") => `(tactic| first | exact ⟨by decide, by decide⟩ | exact wide_div (b := 64) (by omega) (by omega) (by decide) (by decide) | exact wide_div (b := 128) (by omega) (by omega) (by decide) (by decide))
local macro_rules | `(tactic| walk_at "rd1") => `(tactic| first
  | ((with_reducible show tVar _ _ _ _); refine Wk.r_var rfl ?_)
  | (with_reducible first
    | refine Wk.r_c ?_ | refine Wk.r_op ?_ | refine Wk.r_cons ?_ | refine Wk.r_nil ?_
    | refine Wk.r_seq ?_ | refine Wk.r_next ?_ | refine Wk.r_set ?_ | refine Wk.r_asgS ?_ | refine Wk.r_ret ?_ | refine Wk.r_drop ?_ | refine Wk.r_if ?_
    | refine Wk.r_asgG ?_ | refine Wk.r_gName ?_ | refine Wk.r_gCons ?_ | refine Wk.r_gNil ?_ | refine Wk.r_par ?_ | refine Wk.r_par3 ?_ | refine Wk.r_lstRg1 ?_ | refine Wk.r_tupRg1 ?_ | refine ⟨_, _, _, rfl, ?_⟩ | refine Wk.r_un ?_ | refine Wk.r_I0 ?_ | refine Wk.r_U ?_
    | refine Wk.r_test ?_ | refine Wk.r_B ?_ | refine Wk.r_k ?_ | refine Wk.r_not ?_ | refine Wk.r_and ?_ | refine Wk.r_or ?_ | refine Wk.r_andV ?_ | refine Wk.r_orV ?_ | refine Wk.r_notV ?_
    | refine Wk.r_CB ?_ | refine Wk.r_chain ?_ | refine Wk.r_fld ?_ | refine Wk.r_sfld ?_ | refine Wk.r_lst ?_ | refine Wk.r_tup ?_ | refine Wk.r_call ?_ | refine Wk.r_BM ?_ | refine Wk.r_BM0 ?_ | refine Wk.r_T ?_ | refine Wk.r_nT ?_ | refine Wk.r_nF ?_ | refine Wk.r_F ?_
    | refine Or.inl ⟨_, rfl, ?_⟩ | refine Or.inr ⟨_, rfl, ?_⟩ | refine ⟨_, rfl, ?_⟩ | refine ⟨_, _, rfl, ?_⟩)
  | ((with_reducible refine Wk.r_eq ?c0 ?_); (case c0 => rfl)) | ((with_reducible refine Wk.r_ne ?c0 ?_); (case c0 => rfl))
  | ((with_reducible refine Wk.r_pow ?c0 ?_); (case c0 => exact ⟨by decide, by decide, by decide⟩))
  | ((with_reducible refine Wk.r_mul ?c0 ?_); (case c0 => walk_at "cmul")) | ((with_reducible refine Wk.r_mod ?c0 ?_); (case c0 => first | decide | omega)) | ((with_reducible refine Wk.r_div ?c0 ?_); (case c0 => walk_at "cdiv"))
  | ((with_reducible refine Wk.r_new ?c0 ?_); (case c0 => (simp only [List.length_cons, List.length_nil]; omega)))
  | ((with_reducible show gTup _ _ _ _ _ _ _); refine Wk.r_gTup (by walk_at "sq") (by rfl) ?_)
  | (refine Wk.r_tyL (by walk_at "hp") ?_)
  | ((with_reducible show rSetL _ _ _ _ _); refine Wk.r_setL (by walk_at "hp") (by rfl) ?_)
  | ((with_reducible show rIxL _ _ _ _ _); refine Wk.r_ixL (by walk_at "sq") (by rfl) ?_) | ((with_reducible show rIxT _ _ _ _ _); refine Wk.r_ixT (by walk_at "sq") (by rfl) ?_)
  | ((with_reducible show rLenOf _ _ _ _); first | refine Wk.n_lenL (by walk_at "sq") ?_ | refine Wk.n_lenT (by walk_at "sq") ?_)
  | ((with_reducible show rListOf _ _ _ _); first | refine Wk.n_listL (by walk_at "sq") ?_ | refine Wk.n_listT (by walk_at "sq") ?_)
  | ((with_reducible show rTupZ _ _ _ _); first | refine Wk.z_tupL (by walk_at "sq") ?_ | refine Wk.z_tupT (by walk_at "sq") ?_)
  | ((with_reducible show rTupOf _ _ _ _); first | refine Wk.n_tupL (by walk_at "sq") ?_ | refine Wk.n_tupT (by walk_at "sq") ?_))
local macro_rules | `(tactic| walk_at "rd") => `(tactic| repeat (walk_at "rd1"))

section
variable {P : Program} {w : World} {K : PySem.W.Frag} {mg : Str → Option Value} {base : Heap}
/-- no whole number: a truth, or of another type -/
def Odd1 (K : PySem.W.Frag) (H : Hp) (v : V) : Prop := (∃ b, v = .bl b) ∨ ∃ T, TyX K H v (.type T) ∧ kitB T "int" = some false
def spWholeA (K : PySem.W.Frag) : Sp := fun vs H Q _ => (∃ i : Int, vs = [.int i] ∧ Q (.bl true) H) ∨ ∃ v, vs = [v] ∧ Odd1 K H v ∧ Q (.bl false) H
theorem kA_is_whole (T : Txt mg) (a : At K mg "is_whole" s_is_whole ["value"]) : Keep P w K mg base 1 "is_whole" ["value"] (spWholeA K) := by
  refine Keep.of a sc_is_whole (fun vs H Q E h => ?_) (fun f cdv A outer s H vs Q E hr h => ?_)
  · rcases h with ⟨i, rfl, _⟩ | ⟨v, rfl, _⟩ <;> rfl
  · refine ⟨_, (pss_one (ps_ret (pe_and (pe_callB call_isi (by rfl) T.n_isinstance (by decide +kernel) (pa_cons (pv 0) (pa_cons (pe_bltn (v := .ty "int") (u := .type "int") (by rfl) T.n_int (by decide +kernel) rfl) pa_nil))) (pe_one (pe_not (pe_callB call_isi (by rfl) T.n_isinstance (by decide +kernel) (pa_cons (pv 0) (pa_cons (pe_bltn (v := .ty "bool") (u := .type "bool") (by rfl) T.n_bool (by decide +kernel) rfl) pa_nil)))))))), ?_⟩
    rcases h with ⟨i, rfl, kk⟩ | ⟨v, rfl, ⟨b, rfl⟩ | ⟨ty, hty, hk⟩, kk⟩
    · walk_at "rd"
      refine n_isiB (b := true) (.base (.int _)) (by decide +kernel) ?_
      walk_at "rd"
      refine n_isiB (b := false) (.base (.int _)) (by decide +kernel) ?_
      walk_at "rd"
      exact kk
    · walk_at "rd"
      refine n_isiB (b := true) (.base (.bl _)) (by decide +kernel) ?_
      walk_at "rd"
      refine n_isiB (b := true) (.base (.bl _)) (by decide +kernel) ?_
      walk_at "rd"
      exact kk
    · walk_at "rd"
      refine n_isiB (b := false) hty hk ?_
      walk_at "rd"
      exact kk
def spWithinA (K : PySem.W.Frag) : Sp := fun vs H Q _ => (∃ i a b : Int, vs = [.int i, .int a, .int b] ∧ Q (.bl (decide (a ≤ i) && decide (i ≤ b))) H) ∨ ∃ (v : V) (a b : Int), vs = [v, .int a, .int b] ∧ Odd1 K H v ∧ Q (.bl false) H
theorem kA_is_within (T : Txt mg) (k_is_whole : Keep P w K mg base 1 "is_whole" ["value"] (spWholeA K)) (a : At K mg "is_within" s_is_within ["value", "least", "most"]) : Keep P w K mg base 2 "is_within" ["value", "least", "most"] (spWithinA K) := by
  refine Keep.of a sc_is_within (fun vs H Q E h => ?_) (fun f cdv A outer s H vs Q E hr h => ?_)
  · rcases h with ⟨_, _, _, rfl, _⟩ | ⟨_, _, _, rfl, _⟩ <;> rfl
  · refine ⟨_, (pss_one (ps_ret (pe_and (pe_k k_is_whole (hr.mono (by decide)) (by rfl) (pa_cons (pv 0) pa_nil)) (pe_one (pe_chain op_le op_le (pv 1) (pv 0) (pv 2)))))), ?_⟩
    rcases h with ⟨i, a, b, rfl, kk⟩ | ⟨v, a, b, rfl, ho, kk⟩
    · walk_at "rd"
      refine .inl ⟨i, rfl, ?_⟩
      walk_at "rd"
      refine r_if1 (fun c => ?_) (fun c => ?_)
      · walk_at "rd"
        rw [decide_eq_true c, Bool.true_and] at kk
        exact kk
      · rw [decide_eq_false c, Bool.false_and] at kk
        exact kk
    · walk_at "rd"
      refine .inr ⟨v, rfl, ho, ?_⟩
      walk_at "rd"
      exact kk
/-- no member's number -/
def BadV (K : PySem.W.Frag) (H : Hp) (n : Nat) (v : V) : Prop := (∃ z : Int, v = .int z ∧ ¬ (0 ≤ z ∧ z < n)) ∨ Odd1 K H v
def spMemberA (K : PySem.W.Frag) (C : Addr) : Sp := fun vs H Q _ => ∃ (g dx t iv n e : Nat) (v : V), vs = [.ref g, v] ∧ H g = some (.ins C dx (gf t iv n e)) ∧ ((∃ x : Nat, v = .int x ∧ x < n ∧ Q (.bl true) H) ∨ (BadV K H n v ∧ Q (.bl false) H))
theorem kA_is_member {C : Addr} (T : TxG K mg C) (k_is_within : Keep P w K mg base 2 "is_within" ["value", "least", "most"] (spWithinA K)) (a : At K mg "is_member" s_is_member ["group", "value"]) : Keep P w K mg base 3 "is_member" ["group", "value"] (spMemberA K C) := by
  refine Keep.of a sc_is_member (fun vs H Q E h => ?_) (fun f cdv A outer s H vs Q E hr h => ?_)
  · obtain ⟨_, _, _, _, _, _, _, rfl, _⟩ := h
    rfl
  · obtain ⟨g, dx, t, iv, n, e, v, rfl, hg, kk⟩ := h
    refine ⟨_, (pss_one (ps_ret (pe_k k_is_within (hr.mono (by decide)) (by rfl) (pa_cons (pv 1) (pa_cons pe_int (pa_cons (pe_op op_sub (e_fld K (pv 0) rfl) pe_int) pa_nil)))))), ?_⟩
    walk_at "rd"
    refine ⟨_, _, _, _, _, rfl, hg, T.cl, T.nS, gf_size, ?_⟩
    walk_at "rd"
    rcases kk with ⟨x, rfl, hx, kk⟩ | ⟨⟨z, rfl, hz⟩ | ho, kk⟩
    · refine .inl ⟨_, _, _, rfl, ?_⟩
      rw [decide_eq_true (show (0 : Int) ≤ (x : Int) by omega), decide_eq_true (show ((x : Int) ≤ (n : Int) - 1) by omega)]
      exact kk
    · refine .inl ⟨_, _, _, rfl, ?_⟩
      have e1 : (decide ((0 : Int) ≤ z) && decide (z ≤ (n : Int) - 1)) = false := by
        rw [Bool.and_eq_false_iff, decide_eq_false_iff_not, decide_eq_false_iff_not]
        by_cases c : 0 ≤ z
        · exact .inr fun q => hz ⟨c, by omega⟩
        · exact .inl c
      rw [e1]
      exact kk
    · exact .inr ⟨v, _, _, rfl, ho, kk⟩
end
end Wk
end
section
set_option Elab.async false
set_option linter.all false
set_option maxRecDepth 100000
namespace Wk
open PySem PySem.Spec PyProof.Rows L2
local macro_rules | `(tactic| walk_at "hp") => `(tactic| first | assumption | exact upd_same | exact (upd_ne (ne_of_none (by assumption) (by assumption))).trans (by assumption) | (rw [upd_ne (by first | assumption | exact Ne.symm (by assumption))]; walk_at "hp"))
local macro_rules | `(tactic| walk_at "sq") => `(tactic| first | assumption | exact SqL.of (by assumption) | exact SqT.of (by assumption) | exact SqL.of (by walk_at "hp") | exact SqT.of (by walk_at "hp") | (refine Same.seq ?_ ?_ <;> assumption))
local macro_rules | `(tactic| walk_at "cmul") => `(tactic| first | exact .inr ⟨by decide, by decide⟩ | exact .inl ⟨by decide, by decide⟩ | exact .inr ⟨by omega, by omega⟩ | exact .inl ⟨by omega, by omega⟩)
local macro_rules | `(tactic| walk_at "cdiv") => `(tactic| first | exact ⟨by decide, by decide⟩ | exact wide_div (b := 64) (by omega) (by omega) (by decide) (by decide) | exact wide_div (b := 128) (by omega) (by omega) (by decide) (by decide))
local macro_rules | `(tactic| walk_at "rd1") => `(tactic| first
  | ((with_reducible show tVar _ _ _ _); refine Wk.r_var rfl ?_)
  | (with_reducible first
    | refine Wk.r_c ?_ | refine Wk.r_op ?_ | refine Wk.r_cons ?_ | refine Wk.r_nil ?_
    | refine Wk.r_seq ?_ | refine Wk.r_next ?_ | refine Wk.r_set ?_ | refine Wk.r_asgS ?_ | refine Wk.r_ret ?_ | refine Wk.r_drop ?_ | refine Wk.r_if ?_
    | refine Wk.r_asgG ?_ | refine Wk.r_gName ?_ | refine Wk.r_gCons ?_ | refine Wk.r_gNil ?_ | refine Wk.r_par ?_ | refine Wk.r_par3 ?_ | refine Wk.r_lstRg1 ?_ | refine Wk.r_tupRg1 ?_ | refine ⟨_, _, _, rfl, ?_⟩ | refine Wk.r_un ?_ | refine Wk.r_I0 ?_ | refine Wk.r_U ?_
    | refine Wk.r_test ?_ | refine Wk.r_B ?_ | refine Wk.r_k ?_ | refine Wk.r_not ?_ | refine Wk.r_and ?_ | refine Wk.r_or ?_ | refine Wk.r_andV ?_ | refine Wk.r_orV ?_ | refine Wk.r_notV ?_
    | refine Wk.r_CB ?_ | refine Wk.r_chain ?_ | refine Wk.r_fld ?_ | refine Wk.r_sfld ?_ | refine Wk.r_lst ?_ | refine Wk.r_tup ?_ | refine Wk.r_call ?_ | refine Wk.r_BM ?_ | refine Wk.r_BM0 ?_ | refine Wk.r_T ?_ | refine Wk.r_nT ?_ | refine Wk.r_nF ?_ | refine Wk.r_F ?_
    | refine Or.inl ⟨_, rfl, ?_⟩ | refine Or.inr ⟨_, rfl, ?_⟩ | refine ⟨_, rfl, ?_⟩ | refine ⟨_, _, rfl, ?_⟩)
  | ((with_reducible refine Wk.r_eq ?c0 ?_); (case c0 => rfl)) | ((with_reducible refine Wk.r_ne ?c0 ?_); (case c0 => rfl))
  | ((with_reducible refine Wk.r_pow ?c0 ?_); (case c0 => exact ⟨by decide, by decide, by decide⟩))
  | ((with_reducible refine Wk.r_mul ?c0 ?_); (case c0 => walk_at "cmul")) | ((with_reducible refine Wk.r_mod ?c0 ?_); (case c0 => first | decide | omega)) | ((with_reducible refine Wk.r_div ?c0 ?_); (case c0 => walk_at "cdiv"))
  | ((with_reducible refine Wk.r_new ?c0 ?_); (case c0 => (simp only [List.length_cons, List.length_nil]; omega)))
  | ((with_reducible show gTup _ _ _ _ _ _ _); refine Wk.r_gTup (by walk_at "sq") (by rfl) ?_)
  | (refine Wk.r_tyL (by walk_at "hp") ?_)
  | ((with_reducible show rSetL _ _ _ _ _); refine Wk.r_setL (by walk_at "hp") (by rfl) ?_)
  | ((with_reducible show rIxL _ _ _ _ _); refine Wk.r_ixL (by walk_at "sq") (by rfl) ?_) | ((with_reducible show rIxT _ _ _ _ _); refine Wk.r_ixT (by walk_at "sq") (by rfl) ?_)
  | ((with_reducible show rLenOf _ _ _ _); first | refine Wk.n_lenL (by walk_at "sq") ?_ | refine Wk.n_lenT (by walk_at "sq") ?_)
  | ((with_reducible show rListOf _ _ _ _); first | refine Wk.n_listL (by walk_at "sq") ?_ | refine Wk.n_listT (by walk_at "sq") ?_)
  | ((with_reducible show rTupZ _ _ _ _); first | refine Wk.z_tupL (by walk_at "sq") ?_ | refine Wk.z_tupT (by walk_at "sq") ?_)
  | ((with_reducible show rTupOf _ _ _ _); first | refine Wk.n_tupL (by walk_at "sq") ?_ | refine Wk.n_tupT (by walk_at "sq") ?_))
local macro_rules | `(tactic| walk_at "rd") => `(tactic| repeat (walk_at "rd1"))

section
variable {H : Hp} {a d : Addr} {o1 o2 o3 o4 : HO}
/-- what is left of the heap when an error has been made: its dict -/
theorem made_heap (ha : H a = none) (ne : d ≠ a) : upd (del (upd (upd (upd H a o1) d o2) a o3) a) d o4 = upd H d o4 := by
  funext b
  by_cases c : b = d
  · subst c
    rw [upd_same, upd_same]
  · rw [upd_ne c, upd_ne c]
    by_cases c2 : b = a
    · subst c2
      rw [del_same, ha]
    · rw [del_ne c2, upd_ne c2, upd_ne c, upd_ne c2]
end
section
variable {X : Cx} {C : Addr} {x : PySem.Str} {ps : List PySem.Str} {sp : Sp} {e : Expr} {es : List Expr} {ta : TA} {p pos : Pos}
/-- an own error class whose __init__ keeps sp -/
def ErrF (P : Program) (w : World) (K : PySem.W.Frag) (mg : PySem.Str → Option Value) (base : Heap) (C : Addr) (ps : List PySem.Str) (sp : Sp) : Prop :=
  ∃ fI fd, OexC K C ∧ PySem.W.findIn K (.ref C) "__init__" = some (some (.ref fI)) ∧ PySem.W.typeIn K (.ref fI) = some (.type "function") ∧ FnOk P w K mg base CX0 1 fI fd ps sp ∧ Binds K fd ps []
theorem r_mkO {dvs : List V} {σ : L2.St} {H : Hp} {Q : XK} (h : ta σ H fun vs H1 => vs.length ≤ 1000 ∧ ∀ a, H1 a = none → sp (.ref a :: (vs ++ dvs)) (upd H1 a (exo a C none))
  (fun v H2 => v = .non ∧ ∃ (d : Addr) (fs : List (Str × V)), H2 a = some (exo a C (some d)) ∧ H2 d = some (exd d fs) ∧ H1 d = none ∧ Q (.ref C) (some d) (upd (del H2 a) d (.xd fs))) (fun _ _ _ => False)) : tMkO C sp dvs ta σ H Q := h
theorem pmk_err (N : ErrF X.prog X.w X.K X.mg X.base C ps sp) (hr : Room 2 X.A) (hg : Gl X x) (hm : X.mg x = some (.ref C)) (ha : PA X (e :: es) ta) (hdb : (x == ("__debug__" : PySem.Str)) = false := by decide)
    (he : starEach (e :: es) X.env = (false, eval e X.env) :: starEach es X.env := by rfl) (hpl : (backTo pos (starEach es X.env)).any (·.1) = false := by rfl) : PMk X (.Call (.Name x p) (e :: es) [] pos) (tMkO C sp [] ta) := by
  obtain ⟨fI, fd, T, iC, tI, F, hb⟩ := N
  exact pmk_oex T iC tI F hr hb .nil pass0 hg hm ha hdb he hpl
end
section
variable {P : Program} {w : World} {K : PySem.W.Frag} {mg : Str → Option Value} {base : Heap}
/-- x keeps sp, and may raise -/
def KeepX (P : Program) (w : World) (K : PySem.W.Frag) (mg : Str → Option Value) (base : Heap) (k : Nat) (x : Str) (ps : List Str) (sp : Sp) : Prop :=
  ∃ f fd, FnOk P w K mg base (L2.CX P w) k f fd ps sp ∧ mg x = some (.ref f) ∧ PySem.W.keepIn K (.ref f) = true ∧ Binds K fd ps []
theorem KeepX.of {x : Str} {st : Stmt} {N ps : List Str} {k : Nat} {sp : Sp} (a : At K mg x st ps) (S : FnScope N ps (defScope st)) (len : ∀ vs H Q E, sp vs H Q E → vs.length = ps.length)
    (hbody : ∀ (f : Addr) (cdv : Value) (A : Around) (outer : List Env) (s : Shared) (H : Hp) (vs : List V) (Q : VK) (E : XK), Room k (A.deeper (envOfC x (defScope st) s.heap.objs.size f cdv)) → sp vs H Q E →
      ∃ t, PSs (cxOf (L2.CX P w) P w K mg base N x (defScope st) f cdv A outer s H E) (defBody st) t ∧ t { nx := fun _ H' => Q .non H', rt := Q } (start N vs) H) : KeepX P w K mg base (k + 1) x ps sp := by
  obtain ⟨f, fd, F, g, b⟩ := a
  exact ⟨f, fd, F.okX S len (fun cdv A outer s H vs Q E hr h => hbody f cdv A outer s H vs Q E hr h), g, F.kp, b⟩
/-- InvalidNumber(v) goes out -/
def OutV (CI : Addr) (H : Hp) (v : V) (E : XK) : Prop := ∀ d, H d = none → E (.ref CI) (some d) (upd H d (.xd [("value", v)]))
def spReqX (K : PySem.W.Frag) (C CI : Addr) : Sp := fun vs H Q E => ∃ (g dx t iv n e : Nat) (v : V), vs = [.ref g, v] ∧ H g = some (.ins C dx (gf t iv n e)) ∧ ((∃ x : Nat, v = .int x ∧ x < n ∧ Q .non H) ∨ (BadV K H n v ∧ OutV CI H v E))
theorem kX_require_member {C CI : Addr} (T : TxG K mg C) (nI : mg "InvalidNumber" = some (.ref CI)) (x_InvalidNumber : ErrF P w K mg base CI ["self", "value"] (spOexI CI "value")) (k_is_member : Keep P w K mg base 3 "is_member" ["group", "value"] (spMemberA K C)) (a : At K mg "require_member" s_require_member ["group", "value"]) : KeepX P w K mg base 4 "require_member" ["group", "value"] (spReqX K C CI) := by
  refine KeepX.of a sc_require_member (fun vs H Q E h => ?_) (fun f cdv A outer s H vs Q E hr h => ?_)
  · obtain ⟨_, _, _, _, _, _, _, rfl, _⟩ := h
    rfl
  · obtain ⟨g, dx, t, iv, n, e, v, rfl, hg, kk⟩ := h
    refine ⟨_, (pss_one (ps_if (pt_not (pt_val (pe_k k_is_member (hr.mono (by decide)) (by rfl) (pa_cons (pv 0) (pa_cons (pv 1) pa_nil))))) (pss_one (ps_raise rfl (takes_of rfl rfl rfl rfl) (pmk_err x_InvalidNumber (hr.mono (by decide)) (by rfl) nI (pa_cons (pv 1) pa_nil)))) pss_nil)), ?_⟩
    walk_at "rd"
    rcases kk with ⟨x, rfl, hx, kk⟩ | ⟨hb, kk⟩
    · refine ⟨g, dx, t, iv, n, e, _, rfl, hg, .inl ⟨x, rfl, hx, ?_⟩⟩
      walk_at "rd"
      exact kk
    · refine ⟨g, dx, t, iv, n, e, _, rfl, hg, .inr ⟨hb, ?_⟩⟩
      walk_at "rd"
      refine r_mkO ?_
      walk_at "rd"
      refine ⟨by show 1 ≤ 1000; decide, fun a ha => ⟨a, v, rfl, upd_same, fun dx' hd ne => ⟨rfl, dx', [("value", v)], upd_same, ?_, ?_, ?_⟩⟩⟩
      · rw [upd_ne ne, upd_same]
      · rw [upd_ne ne] at hd
        exact hd
      · rw [made_heap ha ne]
        refine kk dx' ?_
        rw [upd_ne ne] at hd
        exact hd
end
end Wk
end
section
set_option Elab.async false
set_option linter.all false
set_option maxRecDepth 100000
namespace Wk
open PySem PySem.Spec PyProof.Rows L2
local macro_rules | `(tactic| walk_at "hp") => `(tactic| first | assumption | exact upd_same | exact (upd_ne (ne_of_none (by assumption) (by assumption))).trans (by assumption) | (rw [upd_ne (by first | assumption | exact Ne.symm (by assumption))]; walk_at "hp"))
local macro_rules | `(tactic| walk_at "sq") => `(tactic| first | assumption | exact SqL.of (by assumption) | exact SqT.of (by assumption) | exact SqL.of (by walk_at "hp") | exact SqT.of (by walk_at "hp") | (refine Same.seq ?_ ?_ <;> assumption))
local macro_rules | `(tactic| walk_at "cmul") => `(tactic| first | exact .inr ⟨by decide, by decide⟩ | exact .inl ⟨by decide, by decide⟩ | exact .inr ⟨by omega, by omega⟩ | exact .inl ⟨by omega, by omega⟩)
local macro_rules | `(tactic| walk_at "cdiv") => `(tactic| first | exact ⟨by decide, by decide⟩ | exact wide_div (b := 64) (by omega) (by omega) (by decide) (by decide) | exact wide_div (b := 128) (by omega) (by omega) (by decide) (by decide))
local macro_rules | `(tactic| walk_at "rd1") => `(tactic| first
  | ((with_reducible show tVar _ _ _ _); refine Wk.r_var rfl ?_)
  | (with_reducible first
    | refine Wk.r_c ?_ | refine Wk.r_op ?_ | refine Wk.r_cons ?_ | refine Wk.r_nil ?_
    | refine Wk.r_seq ?_ | refine Wk.r_next ?_ | refine Wk.r_set ?_ | refine Wk.r_asgS ?_ | refine Wk.r_ret ?_ | refine Wk.r_drop ?_ | refine Wk.r_if ?_
    | refine Wk.r_asgG ?_ | refine Wk.r_gName ?_ | refine Wk.r_gCons ?_ | refine Wk.r_gNil ?_ | refine Wk.r_par ?_ | refine Wk.r_par3 ?_ | refine Wk.r_lstRg1 ?_ | refine Wk.r_tupRg1 ?_ | refine ⟨_, _, _, rfl, ?_⟩ | refine Wk.r_un ?_ | refine Wk.r_I0 ?_ | refine Wk.r_U ?_
    | refine Wk.r_test ?_ | refine Wk.r_B ?_ | refine Wk.r_k ?_ | refine Wk.r_not ?_ | refine Wk.r_and ?_ | refine Wk.r_or ?_ | refine Wk.r_andV ?_ | refine Wk.r_orV ?_ | refine Wk.r_notV ?_
    | refine Wk.r_CB ?_ | refine Wk.r_chain ?_ | refine Wk.r_fld ?_ | refine Wk.r_sfld ?_ | refine Wk.r_lst ?_ | refine Wk.r_tup ?_ | refine Wk.r_call ?_ | refine Wk.r_BM ?_ | refine Wk.r_BM0 ?_ | refine Wk.r_T ?_ | refine Wk.r_nT ?_ | refine Wk.r_nF ?_ | refine Wk.r_F ?_
    | refine Or.inl ⟨_, rfl, ?_⟩ | refine Or.inr ⟨_, rfl, ?_⟩ | refine ⟨_, rfl, ?_⟩ | refine ⟨_, _, rfl, ?_⟩)
  | ((with_reducible refine Wk.r_eq ?c0 ?_); (case c0 => rfl)) | ((with_reducible refine Wk.r_ne ?c0 ?_); (case c0 => rfl))
  | ((with_reducible refine Wk.r_pow ?c0 ?_); (case c0 => exact ⟨by decide, by decide, by decide⟩))
  | ((with_reducible refine Wk.r_mul ?c0 ?_); (case c0 => walk_at "cmul")) | ((with_reducible refine Wk.r_mod ?c0 ?_); (case c0 => first | decide | omega)) | ((with_reducible refine Wk.r_div ?c0 ?_); (case c0 => walk_at "cdiv"))
  | ((with_reducible refine Wk.r_new ?c0 ?_); (case c0 => (simp only [List.length_cons, List.length_nil]; omega)))
  | ((with_reducible show gTup _ _ _ _ _ _ _); refine Wk.r_gTup (by walk_at "sq") (by rfl) ?_)
  | (refine Wk.r_tyL (by walk_at "hp") ?_)
  | ((with_reducible show rSetL _ _ _ _ _); refine Wk.r_setL (by walk_at "hp") (by rfl) ?_)
  | ((with_reducible show rIxL _ _ _ _ _); refine Wk.r_ixL (by walk_at "sq") (by rfl) ?_) | ((with_reducible show rIxT _ _ _ _ _); refine Wk.r_ixT (by walk_at "sq") (by rfl) ?_)
  | ((with_reducible show rLenOf _ _ _ _); first | refine Wk.n_lenL (by walk_at "sq") ?_ | refine Wk.n_lenT (by walk_at "sq") ?_)
  | ((with_reducible show rListOf _ _ _ _); first | refine Wk.n_listL (by walk_at "sq") ?_ | refine Wk.n_listT (by walk_at "sq") ?_)
  | ((with_reducible show rTupZ _ _ _ _); first | refine Wk.z_tupL (by walk_at "sq") ?_ | refine Wk.z_tupT (by walk_at "sq") ?_)
  | ((with_reducible show rTupOf _ _ _ _); first | refine Wk.n_tupL (by walk_at "sq") ?_ | refine Wk.n_tupT (by walk_at "sq") ?_))
local macro_rules | `(tactic| walk_at "rd") => `(tactic| repeat (walk_at "rd1"))
local macro_rules | `(tactic| walk_at "rd1") => `(tactic| (with_reducible first | refine Wk.r_dget ?_ | refine Wk.r_din ?_ | refine Wk.r_dnotin ?_ | refine Wk.r_dput ?_ | refine Wk.r_pairs ?_ | refine Wk.r_pairs0 ?_ | refine Wk.r_sl ?_ | refine Wk.r_part ?_ | refine Wk.r_nopart ?_ | refine Wk.r_augS ?_ | refine Wk.r_ipI ?_))

section
variable {K : PySem.W.Frag} {H H' : Hp}
theorem _root_.L2.Same.sqL {K : PySem.W.Frag} {H H' : Hp} {a : Addr} {xs : List V} (e : Same H H') (h : SqL K H a xs) : SqL K H' a xs := e.seq h
theorem dp_mono (s : Same H H') {v : V} {d : PyData} (h : Dp K H v d) : Dp K H' v d :=
  Dp.rec (motive_1 := fun v d _ => Dp K H' v d) (motive_2 := fun vs ds _ => DpAll K H' vs ds) .non (fun b => .bl b) (fun i => .int i) (fun x => .str x)
    (fun h _ ih => .lst (s.seq h) ih) (fun h _ ih => .tup (s.sqT h) ih) .nil (fun _ _ a b => .cons a b) h
theorem lookup_one {f : PySem.Str} {v : V} : List.lookup f [(f, v)] = some v := by simp [List.lookup]
/-- data that equals itself -/
def DatV (K : PySem.W.Frag) (H : Hp) (v : V) : Prop := ∃ d, Dp K H v d ∧ SeqAt.shaped d = true ∧ PyData.eqv d d = true
theorem DatV.mono {v : V} (s : Same H H') (h : DatV K H v) : DatV K H' v := let ⟨d, a, b⟩ := h; ⟨d, dp_mono s a, b⟩
theorem datV_int (i : Int) : DatV K H (.int i) := ⟨_, .int i, by simp [SeqAt.shaped, PyData.canLay0, PyData.depth], by simp [PyData.eqv]⟩
theorem datV_bl (b : Bool) : DatV K H (.bl b) := ⟨_, .bl b, by cases b <;> decide, by simp [PyData.eqv]⟩
theorem datV_non : DatV K H .non := ⟨_, .non, by decide, by simp [PyData.eqv]⟩
theorem datV_str {H : Hp} (x : PySem.Str) (h : PyData.strOk x = true) : DatV K H (.str x) := ⟨_, .str x, by simp [SeqAt.shaped, PyData.canLay0, PyData.depth, h], by simp [PyData.eqv]⟩
/-- no whole number from a to b -/
def BadW (K : PySem.W.Frag) (H : Hp) (a b : Int) (v : V) : Prop := (∃ z : Int, v = .int z ∧ ¬ (a ≤ z ∧ z ≤ b)) ∨ Odd1 K H v
end
section
variable {X : Cx} {W : WX} {k n : Nat} {x : PySem.Str} {ps ks : List PySem.Str} {sp : Sp} {e : Expr} {es : List Expr} {t tk : TA} {p pos : Pos} {kws : List Keyword}
/-- a call of a def that may raise -/
theorem pe_kX (M : KeepX X.prog X.w X.K X.mg X.base k x ps sp) (hr : Room k X.A) (hg : Gl X x) (tk : Takes X W) (ha : PA X (e :: es) t) (hdb : (x == ("__debug__" : PySem.Str)) = false := by decide)
    (he : starEach (e :: es) X.env = (false, eval e X.env) :: starEach es X.env := by rfl) (hpl : (backTo pos (starEach es X.env)).any (·.1) = false := by rfl) : PE X (.Call (.Name x p) (e :: es) [] pos) (tCallS sp (WE W) t) := by
  obtain ⟨f, fd, F, g, kp, b⟩ := M
  exact pe_callS F hr hg g kp b (fun σ => passAt tk σ) ha hdb he hpl
theorem r_callS {E : L2.St → XK} {σ : L2.St} {H : Hp} {Q : VK} (h : t σ H fun vs H1 => sp vs H1 Q (E σ)) : tCallS sp E t σ H Q := h
/-- x keeps sp, may raise, and takes the keywords ks behind n values -/
def KeepKX (P : Program) (w : World) (K : PySem.W.Frag) (mg : PySem.Str → Option Value) (base : Heap) (k : Nat) (x : PySem.Str) (ps : List PySem.Str) (n : Nat) (ks : List PySem.Str) (sp : Sp) : Prop :=
  ∃ f fd, FnOk P w K mg base (L2.CX P w) k f fd ps sp ∧ mg x = some (.ref f) ∧ PySem.W.keepIn K (.ref f) = true ∧ KBn K fd ps n ks (fun us ws => us ++ ws) (fun vs zs => vs ++ zs)
def tCallK0 (m : Nat) (sp : Sp) (E : L2.St → XK) (tk : TA) : TE := fun σ H Q => tk σ H fun zs H3 => zs.length = m ∧ sp zs H3 Q (E σ)
theorem pe_kXK0 (G : KeepKX X.prog X.w X.K X.mg X.base k x ps 0 ks sp) (hr : Room k X.A) (hg : Gl X x) (tkk : Takes X W) (hkw : PK X kws tk) (hall : (backToKw pos (keywordEach kws X.env)).all (·.1.isSome) = true := by rfl) (hks : (backToKw pos (keywordEach kws X.env)).filterMap (·.1) = ks := by rfl)
    (hdb : (x == ("__debug__" : PySem.Str)) = false := by decide)
    (hpl : ((backTo pos (starEach [] X.env)).any (·.1) || (backToKw pos (keywordEach kws X.env)).any (·.1.isNone)) = false := by rfl) :
    PE X (.Call (.Name x p) [] kws pos) (tCallK0 ks.length sp (WE W) tk) := by
  obtain ⟨f, fd, F, g, kp, b⟩ := G
  refine ⟨fun pins s σ H Q I h => ?_⟩
  refine wpAny_Call_Name_kw (ld_glob I hg g ?_ hdb)
  refine PySem.W.callWith_KW0 (h₀ := X.base) I.ok.mod.kin kp hall ?_ hpl
  refine thn (hkw.run pos pins s σ H _ I h) fun ws s2 ⟨zs, H2, I2, rz, l2, q2⟩ => ⟨I2.kIn, ?_⟩
  rw [hks]
  exact run_fnNS (us := []) (vs := []) F hr b (passAt tkk σ) I2 .nil rz rfl l2 q2
theorem KeepKX.of {P : Program} {w : World} {K : PySem.W.Frag} {mg : PySem.Str → Option Value} {base : Heap} {f : Addr} {fd : FuncData} (F : FnOk P w K mg base (L2.CX P w) k f fd ps sp) (g : mg x = some (.ref f)) (kp : PySem.W.keepIn K (.ref f) = true) (b : KBn K fd ps n ks (fun us ws => us ++ ws) (fun vs zs => vs ++ zs)) : KeepKX P w K mg base k x ps n ks sp := ⟨f, fd, F, g, kp, b⟩
end
section
variable {P : Program} {w : World} {K : PySem.W.Frag} {mg : Str → Option Value} {base : Heap}
def spReqW : Sp := fun vs H Q _ => ∃ i a b : Int, vs = [.int i, .int a, .int b] ∧ a ≤ i ∧ i ≤ b ∧ Q .non H
def spReqWX (K : PySem.W.Frag) (CI : Addr) : Sp := fun vs H _ E => ∃ (v : V) (a b : Int), vs = [v, .int a, .int b] ∧ BadW K H a b v ∧ OutV CI H v E
theorem withinA_bad {a b : Int} {v : V} {H : Hp} {Q : VK} {E : XK} (hb : BadW K H a b v) (q : Q (.bl false) H) : spWithinA K [v, .int a, .int b] H Q E := by
  rcases hb with ⟨z, rfl, hz⟩ | ho
  · refine .inl ⟨z, a, b, rfl, ?_⟩
    have e1 : (decide (a ≤ z) && decide (z ≤ b)) = false := by
      rw [Bool.and_eq_false_iff, decide_eq_false_iff_not, decide_eq_false_iff_not]
      by_cases c : a ≤ z
      · exact .inr fun q => hz ⟨c, q⟩
      · exact .inl c
    rw [e1]
    exact q
  · exact .inr ⟨v, a, b, rfl, ho, q⟩
end
end Wk
end
section
set_option Elab.async false
set_option linter.all false
set_option maxRecDepth 100000
/-! len(set(a tuple of ints)); a dict comprehension over enumerate(a tuple) -/
namespace Wk
open PySem PySem.Spec PyProof.Rows L2
theorem intsAre_vals : ∀ {ns : List Int} {us : List Value}, Vals (ns.map V.int) us → PyProof.Rows.IntsAre us ns
  | [], _, .nil => .nil
  | n :: ns, _, .cons r t => by
    obtain ⟨k, rfl⟩ := r
    exact .cons n k (intsAre_vals t)
theorem dup_len : ∀ (L ns : List Int), L.Nodup → (∀ x, x ∈ L → x ∈ ns) → L.length ≤ ns.length ∧ (¬ ns.Nodup → L.length < ns.length)
  | L, [], nd, h => by
    have : L = [] := List.eq_nil_iff_forall_not_mem.mpr fun x hx => by have := h x hx; simp at this
    subst this
    exact ⟨Nat.le_refl _, fun q => absurd List.nodup_nil q⟩
  | L, a :: ns, nd, h => by
    by_cases ha : a ∈ ns
    · obtain ⟨h1, _⟩ := dup_len L ns nd fun x hx => by
        rcases List.mem_cons.mp (h x hx) with e | e
        · rw [e]; exact ha
        · exact e
      rw [List.length_cons]
      exact ⟨by omega, fun _ => by omega⟩
    · obtain ⟨h1, h2⟩ := dup_len (L.filter fun x => !decide (x = a)) ns (nd.filter _) fun x hx => by
        obtain ⟨m, e⟩ := List.mem_filter.mp hx
        rcases List.mem_cons.mp (h x m) with q | q
        · rw [q] at e; simp at e
        · exact q
      have hl : L.length ≤ (L.filter fun x => !decide (x = a)).length + 1 := by
        by_cases m : a ∈ L
        · have e1 : (L.filter fun x => !decide (x = a)) = L.erase a := by
            rw [nd.erase_eq_filter]
            refine List.filter_congr fun x _ => ?_
            by_cases c : x = a <;> simp [c]
          rw [e1, List.length_erase_of_mem m]
          omega
        · rw [List.filter_eq_self.mpr fun x hx => by
            have : x ≠ a := fun q => m (by rw [← q]; exact hx)
            simp [this]]
          omega
      rw [List.length_cons]
      refine ⟨by omega, fun q => ?_⟩
      have : ¬ ns.Nodup := fun z => q (List.nodup_cons.mpr ⟨ha, z⟩)
      have := h2 this
      omega
section
variable {X : Cx}
/-- len(set(t)), t a tuple of ints -/
def tLenSetT (K : PySem.W.Frag) (ta : TE) : TE := fun σ H Q => ta σ H fun x H1 => ∃ (l : Addr) (ns : List Int), x = V.ref l ∧ SqT K H1 l (ns.map V.int) ∧ ns.length ≤ 1000 ∧ ∀ c : Nat, (ns.Nodup → c = ns.length) → (¬ ns.Nodup → c < ns.length) → Q (.int c) H1
theorem r_lenSetT {K : PySem.W.Frag} {ta : TE} {σ : L2.St} {H : Hp} {Q : VK} (h : ta σ H fun x H1 => ∃ (l : Addr) (ns : List Int), x = V.ref l ∧ SqT K H1 l (ns.map V.int) ∧ ns.length ≤ 1000 ∧ ∀ c : Nat, (ns.Nodup → c = ns.length) → (¬ ns.Nodup → c < ns.length) → Q (.int c) H1) : tLenSetT K ta σ H Q := h
theorem pe_lenSetT (K : PySem.W.Frag) {a : Expr} {ta : TE} {p p2 q pos : Pos} (hg : Gl X "len") (hm : X.mg "len" = none) (hg2 : Gl X "set") (hm2 : X.mg "set" = none) (ha : PE X a ta) (hc : X.calm = true := by rfl) (hK : X.K = K := by rfl)
    (na : starEach [a] X.env = (false, eval a X.env) :: starEach [] X.env := by rfl) : PE X (.Call (.Name "len" p) [.Call (.Name "set" p2) [a] [] q] [] pos) (tLenSetT K ta) := by
  subst hK
  refine ⟨fun pins s σ H Q I h => ?_⟩
  refine Call_ (ld_blt I hg hm PySem.boot_len ?_)
  refine PyProof.Rows.callWith_builtin1 (PyProof.Rows.args_cons ?_ rfl) rfl rfl
  refine Call_ (ld_blt I hg2 hm2 PyProof.Rows.boot_set ?_)
  refine PyProof.Rows.callWith_type1 (PyProof.Rows.args_cons (thn (ha.run pins s σ H _ I h) fun v s1 ⟨x, H1, I1, r1, q1⟩ => PyProof.Rows.args_nil ?_) na) na rfl
  obtain ⟨l, ns, rfl, hq, h1, q1⟩ := q1
  cases r1
  obtain ⟨its, r, pl, hz⟩ := I1.tuple hq
  refine call_set_tupI ns (I1.ok.hd hc) pl (by simpa using intsAre_vals r) (by unfold scanBound; omega) fun h' tk c hS hcl hk => ?_
  refine PyProof.Rows.args_nil ?_
  obtain ⟨o, es, ep, t, ho, hex, hd, hgood, hnd, hmem, hsz, hf, hn, _⟩ := hS
  have I2 : Inv X pins σ H1 { s1 with heap := h', toks := tk } := I1.kept fun b o e => hk b o e
  have len : (es.toList.map keyOf).length = c := by rw [List.length_map, Array.length_toList, hn]
  have sub : ∀ x, x ∈ es.toList.map keyOf → x ∈ ns := fun x hx => by simpa using (hmem x).mpr hx
  have sup : ∀ x, x ∈ ns → x ∈ es.toList.map keyOf := fun x hx => (hmem x).mp (by simpa using hx)
  have d := dup_len _ ns hnd sub
  refine call_len_set ho hex hd hf (by rw [hn] <;> omega) ⟨.int c, H1, I2.tok _, ⟨_, by rw [hn]⟩, q1 c (fun nd => ?_) (fun nd => ?_)⟩
  · have d2 := dup_len ns _ nd sup
    have := d.1
    have := d2.1
    omega
  · have := d.2 nd
    omega
end
section
variable {K : PySem.W.Frag} {n j l : Nat} {ta : TA} {tk tv : TE} {vs : List Nat} {σ : L2.St} {H : Hp} {Q : VK} {a : Addr}
theorem dk_congr {A : List Nat} {F G : Nat → V} (h : ∀ z ∈ A, F z = G z) : dk A F = dk A G := List.map_congr_left fun z hz => by rw [h z hz]
/-- {x: i for i, x in enumerate(t)}, t a tuple of distinct numbers -/
theorem dc_enumN (o : Nat → Nat) (F : Nat → V) (hs : SqT K H a (natsV n o)) (hz : n ≤ 1000) (inj : ∀ i j, i < n → j < n → o i = o j → i = j) (hF : ∀ i, i < n → F (o i) = .int (i : Int)) (hta : ∀ R' : List V → Hp → Prop, R' [.ref a] H → ta σ H R')
    (key : ∀ (i : Nat) H1 (Q' : VK), i < n → Same H H1 → Q' (.int ((o i : Nat) : Int)) H1 → tk (((wipe σ vs).set j (some (.int (i : Int)))).set l (some (.int ((o i : Nat) : Int)))) H1 Q')
    (val : ∀ (i : Nat) H1 (Q' : VK), i < n → Same H H1 → Q' (.int (i : Int)) H1 → tv (((wipe σ vs).set j (some (.int (i : Int)))).set l (some (.int ((o i : Nat) : Int)))) H1 Q')
    (done : ∀ D H1, H D = none → Same H H1 → H1 D = some (.dK (dk ((List.range n).map o) F)) → Q (.ref D) H1) (hw : ∀ x y, wipe (((wipe σ vs).set j (some x)).set l (some y)) vs = wipe σ vs := by intro _ _; rfl) :
    tDc (iEnumT K ta) (gTup K 2 (gCons (gName j) (gCons (gName l) gNil))) tYes tk tv vs σ H Q := by
  have len : (natsV n o).length = n := natsV_len
  refine hta _ ⟨a, natsV n o, rfl, hs, fun D hD => ?_⟩
  refine ⟨fun i m H1 => m = n - i ∧ i ≤ n ∧ Same H H1 ∧ H1 D = some (.dK (dk ((List.range i).map o) F)), ⟨n, by simp, Nat.zero_le _, same_new hD, upd_same⟩, ?_⟩
  rintro i m H1 ⟨rfl, hi, s1, hL⟩
  have q := s1.sqT hs
  by_cases lt : i < n
  · refine .inr ⟨⟨natsV n o, _, q, natsV_get lt⟩, fun H' => Same H H' ∧ H' D = some (.dK (dk ((List.range (i + 1)).map o) F)), fun H2 p' => ⟨n - (i + 1), by omega, rfl, lt, p'⟩, fun z H2 y => ?_⟩
    obtain ⟨T, x, rfl, hT, rfl, hx⟩ := y
    have hx' := hx _ q
    rw [natsV_get lt] at hx'
    cases hx'
    refine r_gTup (SqT.of upd_same) rfl (r_gCons (r_gName (r_gCons (r_gName (r_gNil ⟨hw _ _, r_yes (r_T ?_)⟩)))))
    have s2 := same_new (o := .tup [.int (i : Int), .int ((o i : Nat) : Int)]) hT
    refine key i _ _ lt (s1.trans s2) ?_
    refine val i _ _ lt (s1.trans s2) ?_
    have hL2 := s2 _ _ hL
    have hno : o i ∉ (List.range i).map o := fun h => by
      obtain ⟨k, hk, e⟩ := List.mem_map.mp h
      have hk := List.mem_range.mp hk
      have := inj k i (by omega) lt e
      omega
    refine ⟨_, Sum.inl ((o i : Nat) : Int), rfl, hL2, by rw [dk_len, List.length_map, List.length_range]; exact Nat.lt_of_lt_of_le (by omega : i < 1001) (by decide), fun b ob e => ?_, ?_⟩
    · rw [upd_ne (ne_of_none e hD)]; exact s2 _ _ (s1 _ _ e)
    · rw [upd_same, putK_dk hno, List.range_succ, List.map_append]
      refine congrArg (fun t => some (HO.dK t)) (dk_congr fun z hz => ?_)
      by_cases c : z = o i
      · rw [if_pos c, c, hF i lt]
      · rw [if_neg c]
  · have e : i = n := by omega
    subst e
    exact .inl ⟨⟨_, q, by rw [len]; exact Nat.le_refl _⟩, done D H1 hD s1 hL⟩
end
end Wk
end
section
set_option Elab.async false
set_option linter.all false
set_option maxRecDepth 100000
namespace Wk
open PySem PySem.Spec PyProof.Rows L2
local macro_rules | `(tactic| walk_at "hp") => `(tactic| first | assumption | exact upd_same | exact (upd_ne (ne_of_none (by assumption) (by assumption))).trans (by assumption) | (rw [upd_ne (by first | assumption | exact Ne.symm (by assumption))]; walk_at "hp"))
local macro_rules | `(tactic| walk_at "sq") => `(tactic| first | assumption | exact SqL.of (by assumption) | exact SqT.of (by assumption) | exact SqL.of (by walk_at "hp") | exact SqT.of (by walk_at "hp") | (refine Same.seq ?_ ?_ <;> assumption))
local macro_rules | `(tactic| walk_at "cmul") => `(tactic| first | exact .inr ⟨by decide, by decide⟩ | exact .inl ⟨by decide, by decide⟩ | exact .inr ⟨by omega, by omega⟩ | exact .inl ⟨by omega, by omega⟩)
local macro_rules | `(tactic| walk_at "cdiv") => `(tactic| first | exact ⟨by decide, by decide⟩ | exact wide_div (b := 64) (by omega) (by omega) (by decide) (by decide) | exact wide_div (b := 128) (by omega) (by omega) (by decide) (by decide))
local macro_rules | `(tactic| walk_at "rd1") => `(tactic| first
  | ((with_reducible show tVar _ _ _ _); refine Wk.r_var rfl ?_)
  | (with_reducible first
    | refine Wk.r_c ?_ | refine Wk.r_op ?_ | refine Wk.r_cons ?_ | refine Wk.r_nil ?_
    | refine Wk.r_seq ?_ | refine Wk.r_next ?_ | refine Wk.r_set ?_ | refine Wk.r_asgS ?_ | refine Wk.r_ret ?_ | refine Wk.r_drop ?_ | refine Wk.r_if ?_
    | refine Wk.r_asgG ?_ | refine Wk.r_gName ?_ | refine Wk.r_gCons ?_ | refine Wk.r_gNil ?_ | refine Wk.r_par ?_ | refine Wk.r_par3 ?_ | refine Wk.r_lstRg1 ?_ | refine Wk.r_tupRg1 ?_ | refine ⟨_, _, _, rfl, ?_⟩ | refine Wk.r_un ?_ | refine Wk.r_I0 ?_ | refine Wk.r_U ?_
    | refine Wk.r_test ?_ | refine Wk.r_B ?_ | refine Wk.r_k ?_ | refine Wk.r_not ?_ | refine Wk.r_and ?_ | refine Wk.r_or ?_ | refine Wk.r_andV ?_ | refine Wk.r_orV ?_ | refine Wk.r_notV ?_
    | refine Wk.r_CB ?_ | refine Wk.r_chain ?_ | refine Wk.r_fld ?_ | refine Wk.r_sfld ?_ | refine Wk.r_lst ?_ | refine Wk.r_tup ?_ | refine Wk.r_call ?_ | refine Wk.r_BM ?_ | refine Wk.r_BM0 ?_ | refine Wk.r_T ?_ | refine Wk.r_nT ?_ | refine Wk.r_nF ?_ | refine Wk.r_F ?_
    | refine Or.inl ⟨_, rfl, ?_⟩ | refine Or.inr ⟨_, rfl, ?_⟩ | refine ⟨_, rfl, ?_⟩ | refine ⟨_, _, rfl, ?_⟩)
  | ((with_reducible refine Wk.r_eq ?c0 ?_); (case c0 => rfl)) | ((with_reducible refine Wk.r_ne ?c0 ?_); (case c0 => rfl))
  | ((with_reducible refine Wk.r_pow ?c0 ?_); (case c0 => exact ⟨by decide, by decide, by decide⟩))
  | ((with_reducible refine Wk.r_mul ?c0 ?_); (case c0 => walk_at "cmul")) | ((with_reducible refine Wk.r_mod ?c0 ?_); (case c0 => first | decide | omega)) | ((with_reducible refine Wk.r_div ?c0 ?_); (case c0 => walk_at "cdiv"))
  | ((with_reducible refine Wk.r_new ?c0 ?_); (case c0 => (simp only [List.length_cons, List.length_nil]; omega)))
  | ((with_reducible show gTup _ _ _ _ _ _ _); refine Wk.r_gTup (by walk_at "sq") (by rfl) ?_)
  | (refine Wk.r_tyL (by walk_at "hp") ?_)
  | ((with_reducible show rSetL _ _ _ _ _); refine Wk.r_setL (by walk_at "hp") (by rfl) ?_)
  | ((with_reducible show rIxL _ _ _ _ _); refine Wk.r_ixL (by walk_at "sq") (by rfl) ?_) | ((with_reducible show rIxT _ _ _ _ _); refine Wk.r_ixT (by walk_at "sq") (by rfl) ?_)
  | ((with_reducible show rLenOf _ _ _ _); first | refine Wk.n_lenL (by walk_at "sq") ?_ | refine Wk.n_lenT (by walk_at "sq") ?_)
  | ((with_reducible show rListOf _ _ _ _); first | refine Wk.n_listL (by walk_at "sq") ?_ | refine Wk.n_listT (by walk_at "sq") ?_)
  | ((with_reducible show rTupZ _ _ _ _); first | refine Wk.z_tupL (by walk_at "sq") ?_ | refine Wk.z_tupT (by walk_at "sq") ?_)
  | ((with_reducible show rTupOf _ _ _ _); first | refine Wk.n_tupL (by walk_at "sq") ?_ | refine Wk.n_tupT (by walk_at "sq") ?_))
local macro_rules | `(tactic| walk_at "rd") => `(tactic| repeat (walk_at "rd1"))
local macro_rules | `(tactic| walk_at "rd1") => `(tactic| (with_reducible first | refine Wk.r_dget ?_ | refine Wk.r_din ?_ | refine Wk.r_dnotin ?_ | refine Wk.r_dput ?_ | refine Wk.r_pairs ?_ | refine Wk.r_pairs0 ?_ | refine Wk.r_sl ?_ | refine Wk.r_part ?_ | refine Wk.r_nopart ?_ | refine Wk.r_augS ?_ | refine Wk.r_ipI ?_))

section
variable {K : PySem.W.Frag} {j : Nat} {tl te : TE} {ta : TA} {vs : List Nat} {σ : L2.St} {H : Hp} {Q : VK} {a n : Addr} {xs : List V}
/-- over a list: the items told by R, that may speak of where the new list lies -/
theorem lc_lstL (R : Addr → Nat → V → Hp → Prop) (hs : SqL K H a xs) (hz : xs.length ≤ 50000) (htl : ∀ R' : V → Hp → Prop, R' (.ref a) H → tl σ H R') (mono : ∀ D i v H1 H2 L, H1 D = some (.lst L) → ExP D H1 H2 → R D i v H1 → R D i v H2)
    (step : ∀ D (i : Nat) x H1 (Q' : VK) L, xs[i]? = some x → H D = none → Same H H1 → H1 D = some (.lst L) → (∀ v H2, Same H1 H2 → R D i v H2 → Q' v H2) → te ((wipe σ vs).set j (some x)) H1 Q')
    (done : ∀ D L H1, H D = none → Same H H1 → H1 D = some (.lst L) → L.length = xs.length → (∀ (i : Nat) v, L[i]? = some v → R D i v H1) → Q (.ref D) H1) (hw : ∀ x, wipe ((wipe σ vs).set j (some x)) vs = wipe σ vs := by intro _; rfl) : tLc (iList K tl) (gName j) tYes te vs σ H Q := by
  refine htl _ ⟨a, rfl, ⟨xs, hs⟩, fun D hD => ?_⟩
  refine lc_list (K := K) (a := a) (xs := xs) (fun i H1 => ∃ L, Same H H1 ∧ H1 D = some (.lst L) ∧ L.length = i ∧ ∀ (k : Nat) v, L[k]? = some v → R D k v H1) ⟨[], same_new hD, upd_same, rfl, fun k v e => by simp at e⟩ (fun i H1 _ ⟨_, s1, _⟩ => s1.seq hs) ?_ ?_
  · rintro i x H1 hx ⟨L, s1, hL, len, r⟩
    have hi : i < xs.length := (List.getElem?_eq_some_iff.mp hx).1
    refine ⟨hw _, ?_⟩
    refine r_yes (r_T ?_)
    refine step D i x H1 _ L hx hD s1 hL fun v H2 s2 rv => ?_
    have hL2 := s2 _ _ hL
    refine ⟨L, hL2, szlt (by omega), L ++ [v], fun b o e => ?_, upd_same, by rw [List.length_append, len]; rfl, fun k w e => ?_⟩
    · rw [upd_ne (ne_of_none e hD)]; exact s2 _ _ (s1 _ _ e)
    · rcases get_snoc e with ⟨_, q⟩ | ⟨q, rfl⟩
      · exact mono D k w H2 _ L hL2 ExP.upd (mono D k w H1 H2 L hL (L2.Same.exP s2) (r k w q))
      · rw [q, len]
        exact mono D i w H2 _ L hL2 ExP.upd rv
  · rintro H1 ⟨L, s1, hL, len, r⟩
    exact done D L H1 hD s1 hL len r
/-- the same over a tuple -/
theorem lc_tplL (R : Addr → Nat → V → Hp → Prop) (hs : SqT K H a xs) (hz : xs.length ≤ 50000) (htl : ∀ R' : V → Hp → Prop, R' (.ref a) H → tl σ H R') (mono : ∀ D i v H1 H2 L, H1 D = some (.lst L) → ExP D H1 H2 → R D i v H1 → R D i v H2)
    (step : ∀ D (i : Nat) x H1 (Q' : VK) L, xs[i]? = some x → H D = none → Same H H1 → H1 D = some (.lst L) → (∀ v H2, Same H1 H2 → R D i v H2 → Q' v H2) → te ((wipe σ vs).set j (some x)) H1 Q')
    (done : ∀ D L H1, H D = none → Same H H1 → H1 D = some (.lst L) → L.length = xs.length → (∀ (i : Nat) v, L[i]? = some v → R D i v H1) → Q (.ref D) H1) (hw : ∀ x, wipe ((wipe σ vs).set j (some x)) vs = wipe σ vs := by intro _; rfl) : tLc (iTup K tl) (gName j) tYes te vs σ H Q := by
  refine htl _ ⟨a, rfl, ⟨xs, hs⟩, fun D hD => ?_⟩
  refine lc_tup (K := K) (a := a) (xs := xs) (fun i H1 => ∃ L, Same H H1 ∧ H1 D = some (.lst L) ∧ L.length = i ∧ ∀ (k : Nat) v, L[k]? = some v → R D k v H1) ⟨[], same_new hD, upd_same, rfl, fun k v e => by simp at e⟩ (fun i H1 _ ⟨_, s1, _⟩ => s1.sqT hs) ?_ ?_
  · rintro i x H1 hx ⟨L, s1, hL, len, r⟩
    have hi : i < xs.length := (List.getElem?_eq_some_iff.mp hx).1
    refine ⟨hw _, ?_⟩
    show te _ H1 _
    refine step D i x H1 _ L hx hD s1 hL fun v H2 s2 rv => ?_
    have hL2 := s2 _ _ hL
    refine ⟨L, hL2, szlt (by omega), L ++ [v], fun b o e => ?_, upd_same, by rw [List.length_append, len]; rfl, fun k w e => ?_⟩
    · rw [upd_ne (ne_of_none e hD)]; exact s2 _ _ (s1 _ _ e)
    · rcases get_snoc e with ⟨_, q⟩ | ⟨q, rfl⟩
      · exact mono D k w H2 _ L hL2 ExP.upd (mono D k w H1 H2 L hL (L2.Same.exP s2) (r k w q))
      · rw [q, len]
        exact mono D i w H2 _ L hL2 ExP.upd rv
  · rintro H1 ⟨L, s1, hL, len, r⟩
    exact done D L H1 hD s1 hL len r
theorem natsV_congr {n : Nat} {g h : Nat → Nat} (e : ∀ i, i < n → g i = h i) : natsV n g = natsV n h := by
  unfold natsV
  exact List.map_congr_left fun i hi => by rw [e i (List.mem_range.mp hi)]
theorem made_same {C g1 dx : Addr} {H H5 : Hp} (ng : H g1 = none) (nd : H dx = none) (ne : dx ≠ g1) (x : ExP g1 (upd (upd H dx (.own g1)) g1 (.ins C dx [])) H5) : Same H (upd (upd H dx (.own g1)) g1 (.ins C dx [])) ∧ Same H H5 := by
  have s : Same H (upd (upd H dx (.own g1)) g1 (.ins C dx [])) := by
    intro b o e
    rw [upd_ne (ne_of_none e ng), upd_ne (ne_of_none e nd)]
    exact e
  exact ⟨s, fun b o e => x b o (ne_of_none e ng) (s b o e)⟩
/-- a member that is no number below k -/
def BadM (k : Nat) (x : V) : Prop := ∀ z : Int, x = .int z → ¬ (0 ≤ z ∧ z < k)
/-- no tuple of n numbers below k -/
def RowBad (K : PySem.W.Frag) (H : Hp) (n k : Nat) (v : V) : Prop := (∀ H', Same H H' → ∃ T, TyX K H' v (.type T) ∧ kitB T "tuple" = some false) ∨
  ∃ (a : Addr) (xs : List V), v = .ref a ∧ SqT K H a xs ∧ xs.length ≤ 1000 ∧ (xs.length ≠ n ∨ ((∀ x ∈ xs, (∃ z : Int, x = .int z) ∨ ∀ H', Same H H' → Odd1 K H' x) ∧ ∃ x ∈ xs, BadM k x))
theorem bools {L : List V} {n i0 : Nat} (len : L.length = n) (h0 : i0 < n) (r : ∀ (i : Nat) v, L[i]? = some v → ∃ b : Bool, v = .bl b ∧ (i = i0 → b = false)) : ∃ bs : List Bool, L = bs.map V.bl ∧ bs.all id = false := by
  refine ⟨L.map fun v => match v with | .bl b => b | _ => false, ?_, ?_⟩
  · apply List.ext_getElem?
    intro i
    rw [List.map_map, List.getElem?_map]
    cases e : L[i]? with
    | none => rfl
    | some v =>
      obtain ⟨b, rfl, _⟩ := r i v e
      rfl
  · rw [List.all_eq_false]
    have hl : i0 < L.length := by omega
    obtain ⟨b, e, hb⟩ := r i0 _ (List.getElem?_eq_getElem hl)
    refine ⟨false, List.mem_map.mpr ⟨L[i0], List.getElem_mem hl, by rw [e, hb rfl]⟩, by decide⟩
end
section
variable {P : Program} {w : World} {K : PySem.W.Frag} {mg : Str → Option Value} {base : Heap}
def spNRowA (K : PySem.W.Frag) : Sp := fun vs H Q _ => ∃ (n k : Nat) (v : V), vs = [v, .int (n : Int), .int (k : Int)] ∧ RowBad K H n k v ∧ ∀ H', Same H H' → Q (.bl false) H'
theorem kA_is_number_row (T : Txt mg) (k_is_within : Keep P w K mg base 2 "is_within" ["value", "least", "most"] (spWithinA K)) (a : At K mg "is_number_row" s_is_number_row ["value", "length", "bound"]) : Keep P w K mg base 3 "is_number_row" ["value", "length", "bound"] (spNRowA K) := by
  refine Keep.of a sc_is_number_row (fun vs H Q E h => ?_) (fun fa cdv A outer s H vs Q E hr h => ?_)
  · obtain ⟨_, _, _, rfl, _⟩ := h
    rfl
  · obtain ⟨n, k, v, rfl, hb, kk⟩ := h
    refine ⟨_, (pss_cons (ps_if (PW.pt (pw_or (pt_not (pt_val (pe_callB call_isi (by rfl) T.n_isinstance (by decide +kernel) (pa_cons (pv 0) (pa_cons (pe_bltn (v := .ty "tuple") (u := .type "tuple") (by rfl) T.n_tuple (by decide +kernel) rfl) pa_nil))))) (pw_or1 (pt_cmpR op_ne (pe_callB (c_len K) (by rfl) T.n_len (by decide +kernel) (pa_cons (pv 0) pa_nil)) (pv 1) (nomark _))))) (pss_one (ps_ret pe_bl)) pss_nil)
    (pss_one (ps_ret (pe_callB (c_all K rfl) (by rfl) T.n_all (by decide +kernel) (pa_cons (pe_lc (own := [("x", 3)]) rfl sc_is_number_row.nd (i_tup K (pv 0)) (blkOk_by (N := ["value", "length", "bound", "x"]) (sc := defScope s_is_number_row) (by decide +kernel)) (fun _ _ _ _ _ => (pg_name (i := 3) sc_is_number_row.nd rfl (by first | exact Or.inl rfl | exact Or.inr rfl))) (fun _ _ _ _ _ => pts_nil) (fun _ _ _ _ _ => (pe_k k_is_within (hr.mono (by decide)) (by rfl) (pa_cons (pv 3) (pa_cons pe_int (pa_cons (pe_op op_sub (pv 2) pe_int) pa_nil)))))) pa_nil))))), ?_⟩
    rcases hb with hb | ⟨t, xs, rfl, ht, hz, hb⟩
    · obtain ⟨ty, hty, hk⟩ := hb H (Same.refl _)
      walk_at "rd"
      refine n_isiB (b := false) hty hk ?_
      walk_at "rd"
      exact kk _ (Same.refl _)
    · walk_at "rd"
      refine n_isiB (b := true) (sq_ty ht) (by decide +kernel) ?_
      walk_at "rd"
      refine r_ifNI (fun _ => ?_) (fun c => ?_)
      · walk_at "rd"
        exact kk _ (Same.refl _)
      · have hlen : xs.length = n := by omega
        rcases hb with hb | ⟨hm, x0, hx0, hb⟩
        · exact absurd hlen hb
        obtain ⟨i0, hi0⟩ := List.mem_iff_getElem?.mp hx0
        walk_at "rd"
        refine lc_tpl (fun i v _ => ∃ b : Bool, v = V.bl b ∧ (i = i0 → b = false)) ht (by omega) (fun R' h => ?_) (fun i v H1 H2 D L _ _ h => h) ?_ ?_
        · walk_at "rd"
          exact h
        · intro i y H2 Q' hy s2 k2
          walk_at "rd"
          by_cases c1 : ∃ z : Int, y = .int z
          · obtain ⟨z, rfl⟩ := c1
            refine .inl ⟨z, _, _, rfl, ?_⟩
            refine k2 _ _ (Same.refl _) ⟨_, rfl, fun e => ?_⟩
            subst e
            rw [hi0] at hy
            cases hy
            have := hb z rfl
            rw [Bool.and_eq_false_iff, decide_eq_false_iff_not, decide_eq_false_iff_not]
            by_cases c : 0 ≤ z
            · exact .inr fun q => this ⟨c, by omega⟩
            · exact .inl c
          · have ho := (hm y (List.mem_of_getElem? hy)).resolve_left c1
            exact .inr ⟨y, _, _, rfl, ho H2 s2, k2 _ _ (Same.refl _) ⟨_, rfl, fun _ => rfl⟩⟩
        · intro D L H2 hD s2 hL len r
          have hi : i0 < xs.length := (List.getElem?_eq_some_iff.mp hi0).1
          obtain ⟨bs, e1, e2⟩ := bools len hi r
          walk_at "rd"
          rw [e1] at hL
          refine n_all (SqL.of hL) ?_
          rw [e2]
          exact kk _ s2
def spMRowA (K : PySem.W.Frag) (C : Addr) : Sp := fun vs H Q _ => ∃ (g n k : Nat) (m : Nat → Nat → Nat) (v : V), vs = [.ref g, v, .int (n : Int)] ∧ GrpO K C H g k m ∧ RowBad K H n k v ∧ ∀ H', Same H H' → Q (.bl false) H'
theorem kA_is_member_row {C : Addr} (T : TxG K mg C) (k_is_number_row : Keep P w K mg base 3 "is_number_row" ["value", "length", "bound"] (spNRowA K)) (a : At K mg "is_member_row" s_is_member_row ["group", "value", "length"]) : Keep P w K mg base 4 "is_member_row" ["group", "value", "length"] (spMRowA K C) := by
  refine Keep.of a sc_is_member_row (fun vs H Q E h => ?_) (fun fa cdv A outer s H vs Q E hr h => ?_)
  · obtain ⟨_, _, _, _, _, rfl, _⟩ := h
    rfl
  · obtain ⟨g, n, k, m, v, rfl, hg, hb, kk⟩ := h
    obtain ⟨dx, tt, iv, e', inv, gg⟩ := id hg
    refine ⟨_, (pss_one (ps_ret (pe_k k_is_number_row (hr.mono (by decide)) (by rfl) (pa_cons (pv 1) (pa_cons (pv 2) (pa_cons (e_fld K (pv 0) rfl) pa_nil)))))), ?_⟩
    walk_at "rd"
    refine ⟨_, _, _, _, _, rfl, gg.ins, T.cl, T.nS, gf_size, ?_⟩
    walk_at "rd"
    exact ⟨n, k, v, rfl, hb, kk⟩
theorem ok_invalidSubset {C f : Addr} {fd : FuncData} (T : OexC K C) (hno : PySem.W.findIn K (.ref C) "value" = some none) (F : Fun K "__init__" "InvalidSubset.__init__" s_InvalidSubset___init__ f fd) : FnOk P w K mg base CX0 1 f fd ["self", "value"] (spOexI C "value") := by
  refine F.ok sc_InvalidSubset___init__ (fun vs H Q E h => ?_) (fun cdv A outer s H vs Q E hr h => ?_)
  · obtain ⟨_, _, rfl, _⟩ := h
    rfl
  · obtain ⟨a, v, rfl, ha, kk⟩ := h
    refine ⟨_, (pss_one (ps_ost (pv 0) (pv 1))), ?_⟩
    refine ⟨_, rfl, _, rfl, a, C, rfl, T, hno, .inl ⟨ha, fun dx hd ne => ?_⟩⟩
    exact kk dx hd ne
end
end Wk
end
section
set_option Elab.async false
set_option linter.all false
set_option maxRecDepth 100000
namespace Wk
open PySem PySem.Spec PyProof.Rows L2
local macro_rules | `(tactic| walk_at "hp") => `(tactic| first | assumption | exact upd_same | exact (upd_ne (ne_of_none (by assumption) (by assumption))).trans (by assumption) | (rw [upd_ne (by first | assumption | exact Ne.symm (by assumption))]; walk_at "hp"))
local macro_rules | `(tactic| walk_at "sq") => `(tactic| first | assumption | exact SqL.of (by assumption) | exact SqT.of (by assumption) | exact SqL.of (by walk_at "hp") | exact SqT.of (by walk_at "hp") | (refine Same.seq ?_ ?_ <;> assumption))
local macro_rules | `(tactic| walk_at "cmul") => `(tactic| first | exact .inr ⟨by decide, by decide⟩ | exact .inl ⟨by decide, by decide⟩ | exact .inr ⟨by omega, by omega⟩ | exact .inl ⟨by omega, by omega⟩)
local macro_rules | `(tactic| walk_at "cdiv") => `(tactic| first | exact ⟨by decide, by decide⟩ | exact wide_div (b := 64) (by omega) (by omega) (by decide) (by decide) | exact wide_div (b := 128) (by omega) (by omega) (by decide) (by decide))
local macro_rules | `(tactic| walk_at "rd1") => `(tactic| first
  | ((with_reducible show tVar _ _ _ _); refine Wk.r_var rfl ?_)
  | (with_reducible first
    | refine Wk.r_c ?_ | refine Wk.r_op ?_ | refine Wk.r_cons ?_ | refine Wk.r_nil ?_
    | refine Wk.r_seq ?_ | refine Wk.r_next ?_ | refine Wk.r_set ?_ | refine Wk.r_asgS ?_ | refine Wk.r_ret ?_ | refine Wk.r_drop ?_ | refine Wk.r_if ?_
    | refine Wk.r_asgG ?_ | refine Wk.r_gName ?_ | refine Wk.r_gCons ?_ | refine Wk.r_gNil ?_ | refine Wk.r_par ?_ | refine Wk.r_par3 ?_ | refine Wk.r_lstRg1 ?_ | refine Wk.r_tupRg1 ?_ | refine ⟨_, _, _, rfl, ?_⟩ | refine Wk.r_un ?_ | refine Wk.r_I0 ?_ | refine Wk.r_U ?_
    | refine Wk.r_test ?_ | refine Wk.r_B ?_ | refine Wk.r_k ?_ | refine Wk.r_not ?_ | refine Wk.r_and ?_ | refine Wk.r_or ?_ | refine Wk.r_andV ?_ | refine Wk.r_orV ?_ | refine Wk.r_notV ?_
    | refine Wk.r_CB ?_ | refine Wk.r_chain ?_ | refine Wk.r_fld ?_ | refine Wk.r_sfld ?_ | refine Wk.r_lst ?_ | refine Wk.r_tup ?_ | refine Wk.r_call ?_ | refine Wk.r_BM ?_ | refine Wk.r_BM0 ?_ | refine Wk.r_T ?_ | refine Wk.r_nT ?_ | refine Wk.r_nF ?_ | refine Wk.r_F ?_
    | refine Or.inl ⟨_, rfl, ?_⟩ | refine Or.inr ⟨_, rfl, ?_⟩ | refine ⟨_, rfl, ?_⟩ | refine ⟨_, _, rfl, ?_⟩)
  | ((with_reducible refine Wk.r_eq ?c0 ?_); (case c0 => rfl)) | ((with_reducible refine Wk.r_ne ?c0 ?_); (case c0 => rfl))
  | ((with_reducible refine Wk.r_pow ?c0 ?_); (case c0 => exact ⟨by decide, by decide, by decide⟩))
  | ((with_reducible refine Wk.r_mul ?c0 ?_); (case c0 => walk_at "cmul")) | ((with_reducible refine Wk.r_mod ?c0 ?_); (case c0 => first | decide | omega)) | ((with_reducible refine Wk.r_div ?c0 ?_); (case c0 => walk_at "cdiv"))
  | ((with_reducible refine Wk.r_new ?c0 ?_); (case c0 => (simp only [List.length_cons, List.length_nil]; omega)))
  | ((with_reducible show gTup _ _ _ _ _ _ _); refine Wk.r_gTup (by walk_at "sq") (by rfl) ?_)
  | (refine Wk.r_tyL (by walk_at "hp") ?_)
  | ((with_reducible show rSetL _ _ _ _ _); refine Wk.r_setL (by walk_at "hp") (by rfl) ?_)
  | ((with_reducible show rIxL _ _ _ _ _); refine Wk.r_ixL (by walk_at "sq") (by rfl) ?_) | ((with_reducible show rIxT _ _ _ _ _); refine Wk.r_ixT (by walk_at "sq") (by rfl) ?_)
  | ((with_reducible show rLenOf _ _ _ _); first | refine Wk.n_lenL (by walk_at "sq") ?_ | refine Wk.n_lenT (by walk_at "sq") ?_)
  | ((with_reducible show rListOf _ _ _ _); first | refine Wk.n_listL (by walk_at "sq") ?_ | refine Wk.n_listT (by walk_at "sq") ?_)
  | ((with_reducible show rTupZ _ _ _ _); first | refine Wk.z_tupL (by walk_at "sq") ?_ | refine Wk.z_tupT (by walk_at "sq") ?_)
  | ((with_reducible show rTupOf _ _ _ _); first | refine Wk.n_tupL (by walk_at "sq") ?_ | refine Wk.n_tupT (by walk_at "sq") ?_))
local macro_rules | `(tactic| walk_at "rd") => `(tactic| repeat (walk_at "rd1"))
local macro_rules | `(tactic| walk_at "rd1") => `(tactic| (with_reducible first | refine Wk.r_dget ?_ | refine Wk.r_din ?_ | refine Wk.r_dnotin ?_ | refine Wk.r_dput ?_ | refine Wk.r_pairs ?_ | refine Wk.r_pairs0 ?_ | refine Wk.r_sl ?_ | refine Wk.r_part ?_ | refine Wk.r_nopart ?_ | refine Wk.r_augS ?_ | refine Wk.r_ipI ?_))

section
variable {P : Program} {w : World} {K : PySem.W.Frag} {mg : Str → Option Value} {base : Heap}
structure TxD (K : PySem.W.Frag) (mg : Str → Option Value) (C : Addr) : Prop extends TxE K mg C where
  n_set : mg "set" = none
theorem _root_.G.Perm.inj {n : Nat} {o p : Nat → Nat} (h : G.Perm n o p) {i j : Nat} (hi : i < n) (hj : j < n) (e : o i = o j) : i = j := by rw [← h.po i hi, ← h.po j hj, e]
/-- rows of numbers, as lists -/
def RowsL (K : PySem.W.Frag) (H : Hp) (a n : Nat) (q : Nat → Nat → Nat) : Prop := ∃ L, H a = some (.lst L) ∧ L.length = n ∧ ∀ (x : Nat) v, L[x]? = some v → ∃ b, v = V.ref b ∧ b ≠ a ∧ H b = some (.lst (rowV n q x))
def spGOf (K : PySem.W.Frag) (C : Addr) : Sp := fun vs H Q _ => ∃ (t a n : Nat) (q : Nat → Nat → Nat) (o p : Nat → Nat), vs = [.ref t, .ref a] ∧ 0 < n ∧ n ≤ 48 ∧ SqT K H t (natsV n o) ∧ G.Perm n o p ∧ RowsL K H a n q ∧ (∀ x y, x < n → y < n → q x y < n) ∧ G.Grp n (fun x y => p (q x y)) ∧
  ∀ H' g, Same H H' → GrpO K C H' g n (fun x y => p (q x y)) → Q (.ref g) H'
theorem k__group_of {C : Addr} (T : TxD K mg C) (k_Group : KeepC P w K mg base 5 C ["self", "table"] ["table"] (spInit K C)) (a : At K mg "_group_of" s__group_of ["members", "products"]) : Keep P w K mg base 7 "_group_of" ["members", "products"] (spGOf K C) := by
  refine Keep.of a sc__group_of (fun vs H Q E h => ?_) (fun f cdv A outer s H vs Q E hr h => ?_)
  · obtain ⟨_, _, _, _, _, _, rfl, _⟩ := h
    rfl
  · obtain ⟨t, a, n, q, o, p, rfl, h0, hn, ht, pm, ⟨L, hL, len, r⟩, ql, gr, kk⟩ := h
    refine ⟨_, (pss_cons (ps_set (i := 4) sc__group_of.nd rfl (by first | exact Or.inl rfl | exact Or.inr rfl) (pe_dc (own := [("number", 2), ("member", 3)]) rfl sc__group_of.nd (i_enumT K (by rfl) T.n_enumerate (pa_cons (pv 0) pa_nil)) (blkOk_by (N := ["members", "products", "number", "member", "numbers", "row"]) (sc := defScope s__group_of) (by decide +kernel)) (fun _ _ _ _ _ => (g_tupK K 2 rfl (pgs_cons (pg_name (i := 2) sc__group_of.nd rfl (by first | exact Or.inl rfl | exact Or.inr rfl)) (pgs_cons (pg_name (i := 3) sc__group_of.nd rfl (by first | exact Or.inl rfl | exact Or.inr rfl)) pgs_nil)))) (fun _ _ _ _ _ => pts_nil) (fun _ _ _ _ _ => (pv 3)) (fun _ _ _ _ _ => (pv 2))))
    (pss_one (ps_ret (e_make k_Group (hr.mono (by decide)) (by rfl) T.n_Group (pa_cons (pe_lc (own := [("row", 5)]) rfl sc__group_of.nd (i_list K (pv 1)) (blkOk_by (N := ["members", "products", "number", "member", "numbers", "row"]) (sc := defScope s__group_of) (by decide +kernel)) (fun _ _ _ _ _ => (pg_name (i := 5) sc__group_of.nd rfl (by first | exact Or.inl rfl | exact Or.inr rfl))) (fun _ _ _ _ _ => pts_nil) (fun _ _ _ _ _ => (pe_lc (own := [("member", 3)]) rfl sc__group_of.nd (i_list K (pv 5)) (blkOk_by (by kernel_rfl)) (fun _ _ _ _ _ => (pg_name (i := 3) sc__group_of.nd rfl (by first | exact Or.inl rfl | exact Or.inr rfl))) (fun _ _ _ _ _ => pts_nil) (fun _ _ _ _ _ => (pe_dget (hu_of hr) (pv 4) (pv 3) (fun _ _ => rfl)))))) pa_nil))))), ?_⟩
    walk_at "rd"
    refine dc_enumN o (fun z => .int ((p z : Nat) : Int)) ht (by omega) (fun i j hi hj e => pm.inj hi hj e) (fun i hi => by rw [pm.po i hi]) (fun R' h => ?_) (fun i H1 Q' hi s1 k1 => ?_) (fun i H1 Q' hi s1 k1 => ?_) (fun D0 H1 hD0 s1 hd => ?_)
    · walk_at "rd"
      exact h
    · walk_at "rd"
      exact k1
    · walk_at "rd"
      exact k1
    have hL1 := s1 _ _ hL
    walk_at "rd"
    refine r_make ?_
    walk_at "rd"
    refine lc_lstL (fun D i v H' => ∃ b, v = V.ref b ∧ b ≠ D ∧ H' b = some (.lst (rowV n (fun x y => p (q x y)) i))) (SqL.of hL1) (by rw [len]; omega) (fun R' h => ?_) ?_ ?_ ?_
    · walk_at "rd"
      exact h
    · rintro D i v H1 H2 L hD x ⟨b, rfl, ne, hb⟩
      exact ⟨b, rfl, ne, x _ _ ne hb⟩
    · intro D i y H2 Q' LD hy hD s2 hLD k2
      have hi : i < n := by have := (List.getElem?_eq_some_iff.mp hy).1; omega
      obtain ⟨b, rfl, _, hb⟩ := r i y hy
      have hb2 := s2 _ _ (s1 _ _ hb)
      walk_at "rd"
      refine lc_lst (fun y v _ => v = V.int ((p (q i y) : Nat) : Int)) (SqL.of hb2) (by rw [rowV_len]; omega) (fun R' h => ?_) (fun i => mut_val) (fun y z H3 Q3 hz s3 k3 => ?_) (fun D3 L3 H3 hD3 s3 hL3 len3 r3 => ?_)
      · walk_at "rd"
        exact h
      · have hyn : y < n := by have := (List.getElem?_eq_some_iff.mp hz).1; rw [rowV_len] at this; exact this
        rw [rowV_get hyn] at hz
        cases hz
        have hq := ql i y hi hyn
        walk_at "rd"
        refine ⟨D0, _, rfl, dget_dk (s3 _ _ (s2 _ _ hd)) (List.mem_map.mpr ⟨p (q i y), List.mem_range.mpr (pm.pl _ hq), pm.op _ hq⟩), ?_⟩
        exact k3 _ _ (Same.refl _) rfl
      · have e3 : L3 = rowV n (fun x y => p (q x y)) i := list_const (by rw [len3, rowV_len]) (fun j u h => r3 j u h)
        rw [e3] at hL3
        exact k2 _ _ s3 ⟨D3, rfl, (fun e => by rw [e, hLD] at hD3; cases hD3), hL3⟩
    · intro D L2 H2 hD s2 hL2 len2 r2
      walk_at "rd"
      intro g dx ng ndx ne
      obtain ⟨sm, _⟩ := made_same (C := C) ng ndx ne (ExP.refl _ _)
      refine ⟨g, D, dx, n, _, rfl, upd_same, h0, hn, ⟨L2, .inl (SqL.of (sm _ _ hL2)), by rw [len2, len], fun x v h => ?_⟩, gr, fun H6 x6 o1 => ⟨rfl, ?_⟩⟩
      · obtain ⟨b, rfl, _, hb⟩ := r2 x v h
        exact ⟨b, rfl, .inl (SqL.of (sm _ _ hb))⟩
      · exact kk _ _ ((s1.trans s2).trans (made_same ng ndx ne x6).2) o1
def spRenG (K : PySem.W.Frag) (C : Addr) : Sp := fun vs H Q _ => ∃ (g t n : Nat) (m : Nat → Nat → Nat) (o p : Nat → Nat), vs = [.ref g, .ref t] ∧ GrpO K C H g n m ∧ SqT K H t (natsV n o) ∧ G.Perm n o p ∧
  ∀ H' r, Same H H' → GrpO K C H' r n (G.ren m o p) → Q (.ref r) H'
theorem natsV_ints (n : Nat) (o : Nat → Nat) : natsV n o = ((List.range n).map fun i => ((o i : Nat) : Int)).map V.int := by unfold natsV; rw [List.map_map]; rfl
theorem nodup_inj {n : Nat} {o : Nat → Nat} (inj : ∀ i j, i < n → j < n → o i = o j → i = j) : ((List.range n).map fun i => ((o i : Nat) : Int)).Nodup := by
  unfold List.Nodup
  rw [List.pairwise_map]
  refine List.Pairwise.imp_of_mem (fun {a b} ha hb hne e => ?_) (List.nodup_range (n := n))
  exact hne (inj a b (List.mem_range.mp ha) (List.mem_range.mp hb) (Int.ofNat_inj.mp e))
theorem k_renamed_group {C : Addr} (T : TxD K mg C) (k_is_member_row : Keep P w K mg base 4 "is_member_row" ["group", "value", "length"] (spMRow K C)) (k__group_of : Keep P w K mg base 7 "_group_of" ["members", "products"] (spGOf K C)) (a : AtB K mg "renamed_group" s_renamed_group ["group", "order"] 1 ["order"]) : KeepB P w K mg base 8 "renamed_group" ["group", "order"] 1 ["order"] (spRenG K C) := by
  refine KeepB.of a sc_renamed_group (fun vs H Q E h => ?_) (fun f cdv A outer s H vs Q E hr h => ?_)
  · obtain ⟨_, _, _, _, _, _, rfl, _⟩ := h
    rfl
  · obtain ⟨g, t, n, m, o, p, rfl, hg, ht, pm, kk⟩ := h
    obtain ⟨dx, tt, iv, e', inv, gg⟩ := id hg
    have hn := gg.le
    have h0 := gg.grp.pos
    have mt : MapT K H t n n o := ⟨ht, fun x hx => pm.ol x hx⟩
    refine ⟨_, (pss_cons (ps_if (PW.pt (pw_or (pt_not (pt_val (pe_k k_is_member_row (hr.mono (by decide)) (by rfl) (pa_cons (pv 0) (pa_cons (pv 1) (pa_cons (e_fld K (pv 0) rfl) pa_nil)))))) (pw_or1 (pt_cmpR op_ne (pe_lenSetT K (by rfl) T.n_len (by rfl) T.n_set (pv 1)) (e_fld K (pv 0) rfl) (nomark _))))) (pss_one ps_never) pss_nil)
    (pss_one (ps_ret (pe_k k__group_of (hr.mono (by decide)) (by rfl) (pa_cons (pv 1) (pa_cons (pe_lc (own := [("x", 2)]) rfl sc_renamed_group.nd (i_tup K (pv 1)) (blkOk_by (N := ["group", "order", "x", "y"]) (sc := defScope s_renamed_group) (by decide +kernel)) (fun _ _ _ _ _ => (pg_name (i := 2) sc_renamed_group.nd rfl (by first | exact Or.inl rfl | exact Or.inr rfl))) (fun _ _ _ _ _ => pts_nil) (fun _ _ _ _ _ => (pe_lc (own := [("y", 3)]) rfl sc_renamed_group.nd (i_tup K (pv 1)) (blkOk_by (by kernel_rfl)) (fun _ _ _ _ _ => (pg_name (i := 3) sc_renamed_group.nd rfl (by first | exact Or.inl rfl | exact Or.inr rfl))) (fun _ _ _ _ _ => pts_nil) (fun _ _ _ _ _ => (pe_ix (x_tup K) (pe_ix (x_tup K) (e_fld K (pv 0) rfl) (pv 2) (fun _ _ => rfl)) (pv 3) (fun _ _ => rfl)))))) pa_nil)))))), ?_⟩
    walk_at "rd"
    refine ⟨_, _, _, _, _, rfl, gg.ins, T.cl, T.nS, gf_size, ?_⟩
    walk_at "rd"
    refine ⟨g, t, n, n, m, o, rfl, hg, mt, by omega, fun H1 s1 => ?_⟩
    have gg1 := gg.mono s1
    have ht1 := s1.sqT ht
    walk_at "rd"
    refine r_lenSetT ?_
    walk_at "rd"
    refine ⟨t, _, rfl, by rw [natsV_ints] at ht1; exact ht1, by rw [List.length_map, List.length_range]; omega, fun c hc _ => ?_⟩
    have hc := hc (nodup_inj fun i j hi hj e => pm.inj hi hj e)
    rw [List.length_map, List.length_range] at hc
    subst hc
    walk_at "rd"
    refine ⟨_, _, _, _, _, rfl, gg1.ins, T.cl, T.nS, gf_size, ?_⟩
    walk_at "rd"
    refine r_ifNI (fun c => absurd rfl c) (fun _ => ?_)
    walk_at "rd"
    refine lc_tplL (fun D i v H' => ∃ b, v = V.ref b ∧ b ≠ D ∧ H' b = some (.lst (rowV c (fun x y => m (o x) (o y)) i))) ht1 (by rw [natsV_len]; omega) (fun R' h => ?_) ?_ ?_ ?_
    · walk_at "rd"
      exact h
    · rintro D i v H1 H2 L hD x ⟨b, rfl, ne, hb⟩
      exact ⟨b, rfl, ne, x _ _ ne hb⟩
    · intro D i y H2 Q' LD hy hD s2 hLD k2
      have hi : i < c := by have := (List.getElem?_eq_some_iff.mp hy).1; rw [natsV_len] at this; exact this
      rw [natsV_get hi] at hy
      cases hy
      have ht2 := s2.sqT ht1
      have gg2 := gg1.mono s2
      walk_at "rd"
      refine lc_tpl (fun y v _ => v = V.int ((m (o i) (o y) : Nat) : Int)) ht2 (by rw [natsV_len]; omega) (fun R' h => ?_) (fun i => mut_val) (fun y z H3 Q3 hz s3 k3 => ?_) (fun D3 L3 H3 hD3 s3 hL3 len3 r3 => ?_)
      · walk_at "rd"
        exact h
      · have hyn : y < c := by have := (List.getElem?_eq_some_iff.mp hz).1; rw [natsV_len] at this; exact this
        rw [natsV_get hyn] at hz
        cases hz
        have gg3 := gg2.mono s3
        obtain ⟨LT, hLT, hRT⟩ := id gg3.tab
        obtain ⟨b, eb, hb⟩ := hRT.get (pm.ol i hi)
        walk_at "rd"
        refine ⟨_, _, _, _, _, rfl, gg3.ins, T.cl, T.nT, gf_table, ?_⟩
        walk_at "rd"
        refine Wk.r_ixT hLT (at_n eb) ?_
        walk_at "rd"
        refine Wk.r_ixT hb (at_n (rowV_get (pm.ol y hyn))) ?_
        exact k3 _ _ (Same.refl _) rfl
      · have e3 : L3 = rowV c (fun x y => m (o x) (o y)) i := list_const (by rw [len3, natsV_len]) (fun j u h => r3 j u h)
        rw [e3] at hL3
        exact k2 _ _ s3 ⟨D3, rfl, (fun e => by rw [e, hLD] at hD3; cases hD3), hL3⟩
    · intro D L2 H2 hD s2 hL2 len2 r2
      walk_at "rd"
      refine ⟨t, D, c, fun x y => m (o x) (o y), o, p, rfl, h0, hn, s2.sqT ht1, pm, ⟨L2, hL2, by rw [len2, natsV_len], fun x v h => r2 x v h⟩, fun x y hx hy => gg.grp.cl _ _ (pm.ol x hx) (pm.ol y hy), G.ren_grp gg.grp pm, fun H3 r s3 o3 => ?_⟩
      exact kk _ r ((s1.trans s2).trans s3) o3
end
end Wk
end
section
set_option Elab.async false
set_option linter.all false
set_option maxRecDepth 100000
namespace Wk
open PySem PySem.Spec PyProof.Rows L2
local macro_rules | `(tactic| walk_at "hp") => `(tactic| first | assumption | exact upd_same | exact (upd_ne (ne_of_none (by assumption) (by assumption))).trans (by assumption) | (rw [upd_ne (by first | assumption | exact Ne.symm (by assumption))]; walk_at "hp"))
local macro_rules | `(tactic| walk_at "sq") => `(tactic| first | assumption | exact SqL.of (by assumption) | exact SqT.of (by assumption) | exact SqL.of (by walk_at "hp") | exact SqT.of (by walk_at "hp") | (refine Same.seq ?_ ?_ <;> assumption))
local macro_rules | `(tactic| walk_at "cmul") => `(tactic| first | exact .inr ⟨by decide, by decide⟩ | exact .inl ⟨by decide, by decide⟩ | exact .inr ⟨by omega, by omega⟩ | exact .inl ⟨by omega, by omega⟩)
local macro_rules | `(tactic| walk_at "cdiv") => `(tactic| first | exact ⟨by decide, by decide⟩ | exact wide_div (b := 64) (by omega) (by omega) (by decide) (by decide) | exact wide_div (b := 128) (by omega) (by omega) (by decide) (by decide))
local macro_rules | `(tactic| walk_at "rd1") => `(tactic| first
  | ((with_reducible show tVar _ _ _ _); refine Wk.r_var rfl ?_)
  | (with_reducible first
    | refine Wk.r_c ?_ | refine Wk.r_op ?_ | refine Wk.r_cons ?_ | refine Wk.r_nil ?_
    | refine Wk.r_seq ?_ | refine Wk.r_next ?_ | refine Wk.r_set ?_ | refine Wk.r_asgS ?_ | refine Wk.r_ret ?_ | refine Wk.r_drop ?_ | refine Wk.r_if ?_
    | refine Wk.r_asgG ?_ | refine Wk.r_gName ?_ | refine Wk.r_gCons ?_ | refine Wk.r_gNil ?_ | refine Wk.r_par ?_ | refine Wk.r_par3 ?_ | refine Wk.r_lstRg1 ?_ | refine Wk.r_tupRg1 ?_ | refine ⟨_, _, _, rfl, ?_⟩ | refine Wk.r_un ?_ | refine Wk.r_I0 ?_ | refine Wk.r_U ?_
    | refine Wk.r_test ?_ | refine Wk.r_B ?_ | refine Wk.r_k ?_ | refine Wk.r_not ?_ | refine Wk.r_and ?_ | refine Wk.r_or ?_ | refine Wk.r_andV ?_ | refine Wk.r_orV ?_ | refine Wk.r_notV ?_
    | refine Wk.r_CB ?_ | refine Wk.r_chain ?_ | refine Wk.r_fld ?_ | refine Wk.r_sfld ?_ | refine Wk.r_lst ?_ | refine Wk.r_tup ?_ | refine Wk.r_call ?_ | refine Wk.r_BM ?_ | refine Wk.r_BM0 ?_ | refine Wk.r_T ?_ | refine Wk.r_nT ?_ | refine Wk.r_nF ?_ | refine Wk.r_F ?_
    | refine Or.inl ⟨_, rfl, ?_⟩ | refine Or.inr ⟨_, rfl, ?_⟩ | refine ⟨_, rfl, ?_⟩ | refine ⟨_, _, rfl, ?_⟩)
  | ((with_reducible refine Wk.r_eq ?c0 ?_); (case c0 => rfl)) | ((with_reducible refine Wk.r_ne ?c0 ?_); (case c0 => rfl))
  | ((with_reducible refine Wk.r_pow ?c0 ?_); (case c0 => exact ⟨by decide, by decide, by decide⟩))
  | ((with_reducible refine Wk.r_mul ?c0 ?_); (case c0 => walk_at "cmul")) | ((with_reducible refine Wk.r_mod ?c0 ?_); (case c0 => first | decide | omega)) | ((with_reducible refine Wk.r_div ?c0 ?_); (case c0 => walk_at "cdiv"))
  | ((with_reducible refine Wk.r_new ?c0 ?_); (case c0 => (simp only [List.length_cons, List.length_nil]; omega)))
  | ((with_reducible show gTup _ _ _ _ _ _ _); refine Wk.r_gTup (by walk_at "sq") (by rfl) ?_)
  | (refine Wk.r_tyL (by walk_at "hp") ?_)
  | ((with_reducible show rSetL _ _ _ _ _); refine Wk.r_setL (by walk_at "hp") (by rfl) ?_)
  | ((with_reducible show rIxL _ _ _ _ _); refine Wk.r_ixL (by walk_at "sq") (by rfl) ?_) | ((with_reducible show rIxT _ _ _ _ _); refine Wk.r_ixT (by walk_at "sq") (by rfl) ?_)
  | ((with_reducible show rLenOf _ _ _ _); first | refine Wk.n_lenL (by walk_at "sq") ?_ | refine Wk.n_lenT (by walk_at "sq") ?_)
  | ((with_reducible show rListOf _ _ _ _); first | refine Wk.n_listL (by walk_at "sq") ?_ | refine Wk.n_listT (by walk_at "sq") ?_)
  | ((with_reducible show rTupZ _ _ _ _); first | refine Wk.z_tupL (by walk_at "sq") ?_ | refine Wk.z_tupT (by walk_at "sq") ?_)
  | ((with_reducible show rTupOf _ _ _ _); first | refine Wk.n_tupL (by walk_at "sq") ?_ | refine Wk.n_tupT (by walk_at "sq") ?_))
local macro_rules | `(tactic| walk_at "rd") => `(tactic| repeat (walk_at "rd1"))
local macro_rules | `(tactic| walk_at "rd1") => `(tactic| (with_reducible first | refine Wk.r_dget ?_ | refine Wk.r_din ?_ | refine Wk.r_dnotin ?_ | refine Wk.r_dput ?_ | refine Wk.r_pairs ?_ | refine Wk.r_pairs0 ?_ | refine Wk.r_sl ?_ | refine Wk.r_part ?_ | refine Wk.r_nopart ?_ | refine Wk.r_augS ?_ | refine Wk.r_ipI ?_))

section
variable {P : Program} {w : World} {K : PySem.W.Frag} {mg : Str → Option Value} {base : Heap}
def spNums (K : PySem.W.Frag) : Sp := fun vs H Q _ => ∃ (a b n x : Nat) (m : Nat → Nat → Nat), vs = [.ref a, .ref b] ∧ n ≤ 60 ∧ SqT K H a (rowV n m x) ∧ SqT K H b (rowV n m x) ∧ ∀ H', Same H H' → Q (.bl true) H'
def spTabs (K : PySem.W.Frag) : Sp := fun vs H Q _ => ∃ (a b n : Nat) (m : Nat → Nat → Nat), vs = [.ref a, .ref b] ∧ n ≤ 60 ∧ TabT K H a n m ∧ TabL K H b n m ∧ ∀ H', Same H H' → Q (.bl true) H'
theorem k__law_numbers_are (T : Txt mg) (k__law_integer : Keep P w K mg base 1 "_law_integer" ["value"] spWhole) (a : At K mg "_law_numbers_are" s__law_numbers_are ["got", "due"]) : Keep P w K mg base 2 "_law_numbers_are" ["got", "due"] (spNums K) := by
  refine Keep.of a sc__law_numbers_are (fun vs H Q E h => ?_) (fun f cdv A outer s H vs Q E hr h => ?_)
  · obtain ⟨_, _, _, _, _, rfl, _⟩ := h
    rfl
  · obtain ⟨a, b, n, x, m, rfl, hn, ha, hb, kk⟩ := h
    refine ⟨_, (pss_cons (ps_if (PW.pt (pw_or (pt_not (pt_val (pe_callB call_isi (by rfl) T.n_isinstance (by decide +kernel) (pa_cons (pv 0) (pa_cons (pe_bltn (v := .ty "tuple") (u := .type "tuple") (by rfl) T.n_tuple (by decide +kernel) rfl) pa_nil))))) (pw_or1 (pt_cmpR op_ne (pe_callB (c_len K) (by rfl) T.n_len (by decide +kernel) (pa_cons (pv 0) pa_nil)) (pe_callB (c_len K) (by rfl) T.n_len (by decide +kernel) (pa_cons (pv 1) pa_nil)) (nomark _))))) (pss_one (ps_ret pe_bl)) pss_nil)
    (pss_one (ps_ret (pe_cmpR op_eq (pe_callB (c_len K) (by rfl) T.n_len (by decide +kernel) (pa_cons (pe_lc (own := [("k", 2)]) rfl sc__law_numbers_are.nd (pi_range1 (by rfl) T.n_range (pa_cons (pe_callB (c_len K) (by rfl) T.n_len (by decide +kernel) (pa_cons (pv 1) pa_nil)) pa_nil)) (blkOk_by (N := ["got", "due", "k"]) (sc := defScope s__law_numbers_are) (by decide +kernel)) (fun _ _ _ _ _ => (pg_name (i := 2) sc__law_numbers_are.nd rfl (by first | exact Or.inl rfl | exact Or.inr rfl))) (fun _ _ _ _ _ => (pts_one (PW.pt (pw_or (pt_not (pt_val (pe_k k__law_integer (hr.mono (by decide)) (by rfl) (pa_cons (pe_ix (x_tup K) (pv 0) (pv 2) (fun _ _ => rfl)) pa_nil)))) (pw_or1 (pt_cmpR op_ne (pe_ix (x_tup K) (pv 0) (pv 2) (fun _ _ => rfl)) (pe_ix (x_tup K) (pv 1) (pv 2) (fun _ _ => rfl)) (nomark _))))))) (fun _ _ _ _ _ => (pv 2))) pa_nil)) pe_int (nomark _))))), ?_⟩
    walk_at "rd"
    refine n_isiB (b := true) (sq_ty ha) (by decide +kernel) ?_
    walk_at "rd"
    refine r_ifNI (fun c => absurd rfl c) (fun _ => ?_)
    walk_at "rd"
    refine lc_rngF (n := n) (fun _ => false) (fun _ => .non) (by omega) (fun R' h => ?_) ?_ (fun i H1 Q' hi z => by cases z) ?_
    · walk_at "rd"
      rw [rowV_len]
      exact h
    · intro i H1 QT hi s1 k
      have ha1 := s1.sqT ha
      have hb1 := s1.sqT hb
      walk_at "rd"
      refine Wk.r_ixT ha1 (at_n (rowV_get hi)) ?_
      walk_at "rd"
      refine ⟨_, rfl, ?_⟩
      walk_at "rd"
      refine Wk.r_ixT ha1 (at_n (rowV_get hi)) ?_
      walk_at "rd"
      refine Wk.r_ixT hb1 (at_n (rowV_get hi)) ?_
      walk_at "rd"
      rw [decide_eq_true rfl]
      exact k _ (Same.refl _)
    · intro D H1 hD s1 hL
      rw [given_none (fun _ _ => rfl)] at hL
      walk_at "rd"
      exact kk _ s1
theorem k__law_rows_are (T : Txt mg) (k__law_numbers_are : Keep P w K mg base 2 "_law_numbers_are" ["got", "due"] (spNums K)) (a : At K mg "_law_rows_are" s__law_rows_are ["got", "due"]) : Keep P w K mg base 3 "_law_rows_are" ["got", "due"] (spTabs K) := by
  refine Keep.of a sc__law_rows_are (fun vs H Q E h => ?_) (fun f cdv A outer s H vs Q E hr h => ?_)
  · obtain ⟨_, _, _, _, rfl, _⟩ := h
    rfl
  · obtain ⟨a, b, n, m, rfl, hn, ⟨L, ha, rA⟩, ⟨L', hb, rB⟩, kk⟩ := h
    have rB := rB.rows
    refine ⟨_, (pss_cons (ps_if (PW.pt (pw_or (pt_not (pt_val (pe_callB call_isi (by rfl) T.n_isinstance (by decide +kernel) (pa_cons (pv 0) (pa_cons (pe_bltn (v := .ty "tuple") (u := .type "tuple") (by rfl) T.n_tuple (by decide +kernel) rfl) pa_nil))))) (pw_or1 (pt_cmpR op_ne (pe_callB (c_len K) (by rfl) T.n_len (by decide +kernel) (pa_cons (pv 0) pa_nil)) (pe_callB (c_len K) (by rfl) T.n_len (by decide +kernel) (pa_cons (pv 1) pa_nil)) (nomark _))))) (pss_one (ps_ret pe_bl)) pss_nil)
    (pss_one (ps_ret (pe_cmpR op_eq (pe_callB (c_len K) (by rfl) T.n_len (by decide +kernel) (pa_cons (pe_lc (own := [("k", 2)]) rfl sc__law_rows_are.nd (pi_range1 (by rfl) T.n_range (pa_cons (pe_callB (c_len K) (by rfl) T.n_len (by decide +kernel) (pa_cons (pv 1) pa_nil)) pa_nil)) (blkOk_by (N := ["got", "due", "k"]) (sc := defScope s__law_rows_are) (by decide +kernel)) (fun _ _ _ _ _ => (pg_name (i := 2) sc__law_rows_are.nd rfl (by first | exact Or.inl rfl | exact Or.inr rfl))) (fun _ _ _ _ _ => (pts_one (pt_not (pt_val (pe_k k__law_numbers_are (hr.mono (by decide)) (by rfl) (pa_cons (pe_ix (x_tup K) (pv 0) (pv 2) (fun _ _ => rfl)) (pa_cons (pe_ix (x_list K) (pv 1) (pv 2) (fun _ _ => rfl)) pa_nil))))))) (fun _ _ _ _ _ => (pv 2))) pa_nil)) pe_int (nomark _))))), ?_⟩
    walk_at "rd"
    refine n_isiB (b := true) (sq_ty ha) (by decide +kernel) ?_
    walk_at "rd"
    rw [rA.1, rB.1]
    refine r_ifNI (fun c => absurd rfl c) (fun _ => ?_)
    walk_at "rd"
    refine lc_rngF (n := n) (fun _ => false) (fun _ => .non) (by omega) (fun R' h => ?_) ?_ (fun i H1 Q' hi z => by cases z) ?_
    · walk_at "rd"
      rw [rB.1]
      exact h
    · intro i H1 QT hi s1 k
      obtain ⟨x, ex, hx⟩ := rA.get hi
      obtain ⟨y, ey, hy⟩ := rB.get hi
      have ha1 := s1.sqT ha
      have hb1 := s1 _ _ hb
      walk_at "rd"
      refine Wk.r_ixT ha1 (at_n ex) ?_
      walk_at "rd"
      refine Wk.r_ixL (SqL.of hb1) (at_n ey) ?_
      walk_at "rd"
      refine ⟨x, y, n, i, m, rfl, hn, s1.sqT hx, s1.sqT hy, fun H2 s2 => ?_⟩
      walk_at "rd"
      exact k _ s2
    · intro D H1 hD s1 hL
      rw [given_none (fun _ _ => rfl)] at hL
      walk_at "rd"
      exact kk _ s1

theorem TabT.congr {H : Hp} {a n : Nat} {m m' : Nat → Nat → Nat} (e : ∀ x y, x < n → y < n → m x y = m' x y) (h : TabT K H a n m) : TabT K H a n m' := by
  obtain ⟨L, hL, hl, r⟩ := h
  refine ⟨L, hL, hl, fun x v hx => ?_⟩
  obtain ⟨b, e1, q⟩ := r x v hx
  have hxn : x < n := by have := (List.getElem?_eq_some_iff.mp hx).1; omega
  have er : rowV n m x = rowV n m' x := List.map_congr_left fun y hy => by rw [e x y hxn (List.mem_range.mp hy)]
  exact ⟨b, e1, by rw [← er]; exact q⟩
theorem _root_.G.ren_back {n : Nat} {m : Nat → Nat → Nat} {o p : Nat → Nat} (g : G.Grp n m) (h : G.Perm n o p) : ∀ x y, x < n → y < n → G.ren (G.ren m o p) p o x y = m x y := fun x y hx hy => by
  unfold G.ren
  rw [h.op x hx, h.op y hy, h.op _ (g.cl _ _ hx hy)]
structure Told10 (P : Program) (w : World) (K : PySem.W.Frag) (mg : Str → Option Value) (base : Heap) (C : Addr) : Prop where
  ren : Keep P w K mg base 1 "_law_renamed" ["table", "order"] (spRen K)
  rg : KeepB P w K mg base 8 "renamed_group" ["group", "order"] 1 ["order"] (spRenG K C)
  rows : Keep P w K mg base 3 "_law_rows_are" ["got", "due"] (spTabs K)
  neu : Keep P w K mg base 1 "_law_neutral" ["table"] (spLNeu K)
def spTold10 (K : PySem.W.Frag) (C : Addr) : Sp := fun vs H Q _ => ∃ (g a b n : Nat) (m : Nat → Nat → Nat) (o p : Nat → Nat), vs = [.ref g, .ref a, .ref b] ∧ n ≤ 48 ∧ GrpO K C H g n m ∧ TabL K H a n m ∧ PermL H b n o ∧ G.Perm n o p ∧ ∀ H', Same H H' → Q (.bl true) H'
theorem k__law_told {C : Addr} (T : TxE K mg C) (Z : Told10 P w K mg base C) (a : At K mg "_law_told" s__law_told ["group", "table", "order"]) : Keep P w K mg base 9 "_law_told" ["group", "table", "order"] (spTold10 K C) := by
  obtain ⟨k__law_renamed, kB, k__law_rows_are, k__law_neutral⟩ := Z
  have k_renamed_group := kB.keep
  have k_renamed_group_kw := kB.kw
  refine Keep.of a sc__law_told (fun vs H Q E h => ?_) (fun f cdv A outer s H vs Q E hr h => ?_)
  · obtain ⟨_, _, _, _, _, _, _, rfl, _⟩ := h
    rfl
  · obtain ⟨g, a, b, n, m, o, p, rfl, hn, hg, ta, pl, pm, kk⟩ := h
    obtain ⟨dx, tt, iv, e', inv, gg⟩ := id hg
    have gr := gg.grp
    refine ⟨_, (pss_cons (ps_set (i := 3) sc__law_told.nd rfl (by first | exact Or.inl rfl | exact Or.inr rfl) (pe_k k__law_renamed (hr.mono (by decide)) (by rfl) (pa_cons (pv 1) (pa_cons (pv 2) pa_nil))))
    (pss_cons (ps_for PassesOwn.never rfl (pi_range1 (by rfl) T.n_range (pa_cons pe_int pa_nil)) (pg_name (i := 4) sc__law_told.nd rfl (by first | exact Or.inl rfl | exact Or.inr rfl)) (pss_cons (ps_set (i := 5) sc__law_told.nd rfl (by first | exact Or.inl rfl | exact Or.inr rfl) (pe_k k_renamed_group (hr.mono (by decide)) (by rfl) (pa_cons (pv 0) (pa_cons (pe_callTy (c_tup K) (by rfl) T.n_tuple (by decide +kernel) (pa_cons (pv 2) pa_nil)) pa_nil))))
    (pss_one (ps_if (PW.pt (pw_or (pt_not (pt_val (pe_callB call_isi (by rfl) T.n_isinstance (by decide +kernel) (pa_cons (pv 5) (pa_cons (pe_glob (v := .ref _) rfl T.n_Group rfl) pa_nil))))) (pw_or (pt_not (pt_val (pe_k k__law_rows_are (hr.mono (by decide)) (by rfl) (pa_cons (e_fld K (pv 5) rfl) (pa_cons (pv 3) pa_nil))))) (pw_or1 (pt_cmpR op_ne (e_fld K (pv 5) rfl) (pe_k k__law_neutral (hr.mono (by decide)) (by rfl) (pa_cons (pv 3) pa_nil)) (nomark _)))))) (pss_one (ps_ret pe_bl)) pss_nil))))
    (pss_cons (ps_set (i := 7) sc__law_told.nd rfl (by first | exact Or.inl rfl | exact Or.inr rfl) (pe_kK k_renamed_group_kw (hr.mono (by decide)) (by rfl) (pa_cons (pv 5) pa_nil) (pk_cons (pe_callTy (c_tup K) (by rfl) T.n_tuple (by decide +kernel) (pa_cons (pe_lc (own := [("x", 6)]) rfl sc__law_told.nd (pi_range1 (by rfl) T.n_range (pa_cons (pe_callB (c_len K) (by rfl) T.n_len (by decide +kernel) (pa_cons (pv 2) pa_nil)) pa_nil)) (blkOk_by (N := ["group", "table", "order", "due", "k", "got", "x", "back"]) (sc := defScope s__law_told) (by decide +kernel)) (fun _ _ _ _ _ => (pg_name (i := 6) sc__law_told.nd rfl (by first | exact Or.inl rfl | exact Or.inr rfl))) (fun _ _ _ _ _ => pts_nil) (fun _ _ _ _ _ => (e_bm K PySem.F.plainAttrs_list PySem.F.slot_list_index PySem.F.type_list_index (m_index K) (pv 2) (pa_cons (pv 6) pa_nil)))) pa_nil)) pk_nil)))
    (pss_one (ps_ret (pe_and (pe_callB call_isi (by rfl) T.n_isinstance (by decide +kernel) (pa_cons (pv 7) (pa_cons (pe_glob (v := .ref _) rfl T.n_Group rfl) pa_nil))) (pe_and (pe_k k__law_rows_are (hr.mono (by decide)) (by rfl) (pa_cons (e_fld K (pv 7) rfl) (pa_cons (pv 1) pa_nil))) (pe_one (pe_k k__law_rows_are (hr.mono (by decide)) (by rfl) (pa_cons (e_fld K (pv 0) rfl) (pa_cons (pv 1) pa_nil))))))))))), ?_⟩
    walk_at "rd"
    refine ⟨a, b, n, m, o, p, rfl, by omega, gr, ta, pl, pm, fun H1 c n1 s1 t1 => ?_⟩
    walk_at "rd"
    refine f_rng (n := 2) (fun i σ' H' => ∃ v4 v5 : Option V, σ' = [some (.ref g), some (.ref a), some (.ref b), some (.ref c), v4, v5, none, none] ∧ Same H1 H' ∧ (0 < i → ∃ r, v5 = some (.ref r) ∧ GrpO K C H' r n (G.ren m o p))) (by decide) (fun R' h => ?_) ⟨_, _, rfl, Same.refl _, fun h => absurd h (by decide)⟩ ?_ ?_
    · walk_at "rd"
      exact h
    · rintro i σ' H2 hi ⟨v4, v5, rfl, s2, _⟩ N B R hN hB hRt
      have pl2 : H2 b = some (.lst (natsV n o)) := s2 _ _ (s1 _ _ pl)
      walk_at "rd"
      intro t nt
      have s3 := same_new (o := .tup (natsV n o)) nt
      have ht : SqT K (upd H2 t (.tup (natsV n o))) t (natsV n o) := SqT.of upd_same
      generalize upd H2 t (.tup (natsV n o)) = H3 at s3 ht ⊢
      have s13 := s2.trans s3
      walk_at "rd"
      refine ⟨g, t, n, m, o, p, rfl, hg.mono (s1.trans s13), ht, pm, fun H4 r s4 og => ?_⟩
      obtain ⟨dx4, t4, iv4, e4, inv4, gg4⟩ := id og
      have s14 := s13.trans s4
      walk_at "rd"
      refine n_isi (.own C) (T.insTy gg4.ins) kit_own ?_
      walk_at "rd"
      refine ⟨_, _, _, _, _, rfl, gg4.ins, T.cl, T.nT, gf_table, ?_⟩
      walk_at "rd"
      refine ⟨t4, c, n, _, rfl, by omega, gg4.tab, t1.mono s14, fun H5 s5 => ?_⟩
      have gg5 := gg4.mono s5
      walk_at "rd"
      refine ⟨_, _, _, _, _, rfl, gg5.ins, T.cl, T.nN, gf_neutral, ?_⟩
      walk_at "rd"
      refine ⟨c, n, e4, _, rfl, by omega, t1.mono (s14.trans s5), gg5.ne, fun H6 s6 => ?_⟩
      walk_at "rd"
      refine r_ifNI (fun c => absurd rfl c) (fun _ => ?_)
      exact hN _ _ ⟨_, _, rfl, (s14.trans s5).trans s6, fun _ => ⟨r, rfl, og.mono (s5.trans s6)⟩⟩
    · rintro σ' H2 ⟨v4, v5, rfl, s2, hr5⟩
      obtain ⟨r, rfl, og⟩ := hr5 (by decide)
      have pl2 : H2 b = some (.lst (natsV n o)) := s2 _ _ (s1 _ _ pl)
      walk_at "rd"
      refine r_callN ?_
      walk_at "rd"
      refine lc_rngV (n := n) (fun x => .int ((p x : Nat) : Int)) (by omega) (fun R' h => ?_) (fun x H3 Q2 hx s3 k3 => ?_) (fun D H3 hD s3 hDL => ?_)
      · walk_at "rd"
        rw [natsV_len]
        exact h
      · have hb2 := s3 _ _ pl2
        walk_at "rd"
        refine ⟨b, natsV n o, .int x, p x, .int ((o (p x) : Nat) : Int), rfl, rfl, SqL.of hb2, rfl, natsV_flat, natsV_get (pm.pl x hx), ?_, fun k' z hk hz => ?_, k3 _ (Same.refl _)⟩
        · rw [pm.op x hx]; simp [eqV]
        · rw [natsV_get (by have := pm.pl x hx; omega)] at hz
          have ez := Option.some.inj hz
          subst ez
          have hkn : k' < n := by have := pm.pl x hx; omega
          have ne : o k' ≠ x := fun e => by have := pm.po k' hkn; rw [e] at this; omega
          simp only [eqV]
          exact decide_eq_false (by omega)
      · walk_at "rd"
        intro t nt
        have s4 := same_new (o := .tup (natsV n p)) nt
        have ht : SqT K (upd H3 t (.tup (natsV n p))) t (natsV n p) := SqT.of upd_same
        change tNil _ (upd H3 t (.tup (natsV n p))) _
        generalize upd H3 t (.tup (natsV n p)) = H4 at s4 ht ⊢
        have s24 := s3.trans s4
        walk_at "rd"
        refine ⟨rfl, rfl, r, t, n, _, p, o, rfl, og.mono s24, ht, ⟨pm.pl, pm.ol, pm.op, pm.po⟩, fun H5 r2 s5 og2 => ?_⟩
        obtain ⟨dx5, t5, iv5, e5, inv5, gg5⟩ := id og2
        have s15 := (s2.trans s24).trans s5
        walk_at "rd"
        refine n_isi (.own C) (T.insTy gg5.ins) kit_own ?_
        walk_at "rd"
        refine ⟨_, _, _, _, _, rfl, gg5.ins, T.cl, T.nT, gf_table, ?_⟩
        walk_at "rd"
        refine ⟨t5, a, n, m, rfl, by omega, gg5.tab.congr (G.ren_back gr pm), ta.mono (s1.trans s15), fun H6 s6 => ?_⟩
        have gg6 := gg.mono ((s1.trans s15).trans s6)
        walk_at "rd"
        refine ⟨_, _, _, _, _, rfl, gg6.ins, T.cl, T.nT, gf_table, ?_⟩
        walk_at "rd"
        refine ⟨tt, a, n, m, rfl, by omega, gg6.tab, ta.mono ((s1.trans s15).trans s6), fun H7 s7 => ?_⟩
        exact kk _ (((s1.trans s15).trans s6).trans s7)
end
end Wk
end
section
set_option Elab.async false
set_option linter.all false
set_option maxRecDepth 100000
namespace Wk
open PySem PySem.Spec PyProof.Rows L2
local macro_rules | `(tactic| walk_at "hp") => `(tactic| first | assumption | exact upd_same | exact (upd_ne (ne_of_none (by assumption) (by assumption))).trans (by assumption) | (rw [upd_ne (by first | assumption | exact Ne.symm (by assumption))]; walk_at "hp"))
local macro_rules | `(tactic| walk_at "sq") => `(tactic| first | assumption | exact SqL.of (by assumption) | exact SqT.of (by assumption) | exact SqL.of (by walk_at "hp") | exact SqT.of (by walk_at "hp") | (refine Same.seq ?_ ?_ <;> assumption))
local macro_rules | `(tactic| walk_at "cmul") => `(tactic| first | exact .inr ⟨by decide, by decide⟩ | exact .inl ⟨by decide, by decide⟩ | exact .inr ⟨by omega, by omega⟩ | exact .inl ⟨by omega, by omega⟩)
local macro_rules | `(tactic| walk_at "cdiv") => `(tactic| first | exact ⟨by decide, by decide⟩ | exact wide_div (b := 64) (by omega) (by omega) (by decide) (by decide) | exact wide_div (b := 128) (by omega) (by omega) (by decide) (by decide))
local macro_rules | `(tactic| walk_at "rd1") => `(tactic| first
  | ((with_reducible show tVar _ _ _ _); refine Wk.r_var rfl ?_)
  | (with_reducible first
    | refine Wk.r_c ?_ | refine Wk.r_op ?_ | refine Wk.r_cons ?_ | refine Wk.r_nil ?_
    | refine Wk.r_seq ?_ | refine Wk.r_next ?_ | refine Wk.r_set ?_ | refine Wk.r_asgS ?_ | refine Wk.r_ret ?_ | refine Wk.r_drop ?_ | refine Wk.r_if ?_
    | refine Wk.r_asgG ?_ | refine Wk.r_gName ?_ | refine Wk.r_gCons ?_ | refine Wk.r_gNil ?_ | refine Wk.r_par ?_ | refine Wk.r_par3 ?_ | refine Wk.r_lstRg1 ?_ | refine Wk.r_tupRg1 ?_ | refine ⟨_, _, _, rfl, ?_⟩ | refine Wk.r_un ?_ | refine Wk.r_I0 ?_ | refine Wk.r_U ?_
    | refine Wk.r_test ?_ | refine Wk.r_B ?_ | refine Wk.r_k ?_ | refine Wk.r_not ?_ | refine Wk.r_and ?_ | refine Wk.r_or ?_ | refine Wk.r_andV ?_ | refine Wk.r_orV ?_ | refine Wk.r_notV ?_
    | refine Wk.r_CB ?_ | refine Wk.r_chain ?_ | refine Wk.r_fld ?_ | refine Wk.r_sfld ?_ | refine Wk.r_lst ?_ | refine Wk.r_tup ?_ | refine Wk.r_call ?_ | refine Wk.r_BM ?_ | refine Wk.r_BM0 ?_ | refine Wk.r_T ?_ | refine Wk.r_nT ?_ | refine Wk.r_nF ?_ | refine Wk.r_F ?_
    | refine Or.inl ⟨_, rfl, ?_⟩ | refine Or.inr ⟨_, rfl, ?_⟩ | refine ⟨_, rfl, ?_⟩ | refine ⟨_, _, rfl, ?_⟩)
  | ((with_reducible refine Wk.r_eq ?c0 ?_); (case c0 => rfl)) | ((with_reducible refine Wk.r_ne ?c0 ?_); (case c0 => rfl))
  | ((with_reducible refine Wk.r_pow ?c0 ?_); (case c0 => exact ⟨by decide, by decide, by decide⟩))
  | ((with_reducible refine Wk.r_mul ?c0 ?_); (case c0 => walk_at "cmul")) | ((with_reducible refine Wk.r_mod ?c0 ?_); (case c0 => first | decide | omega)) | ((with_reducible refine Wk.r_div ?c0 ?_); (case c0 => walk_at "cdiv"))
  | ((with_reducible refine Wk.r_new ?c0 ?_); (case c0 => (simp only [List.length_cons, List.length_nil]; omega)))
  | ((with_reducible show gTup _ _ _ _ _ _ _); refine Wk.r_gTup (by walk_at "sq") (by rfl) ?_)
  | (refine Wk.r_tyL (by walk_at "hp") ?_)
  | ((with_reducible show rSetL _ _ _ _ _); refine Wk.r_setL (by walk_at "hp") (by rfl) ?_)
  | ((with_reducible show rIxL _ _ _ _ _); refine Wk.r_ixL (by walk_at "sq") (by rfl) ?_) | ((with_reducible show rIxT _ _ _ _ _); refine Wk.r_ixT (by walk_at "sq") (by rfl) ?_)
  | ((with_reducible show rLenOf _ _ _ _); first | refine Wk.n_lenL (by walk_at "sq") ?_ | refine Wk.n_lenT (by walk_at "sq") ?_)
  | ((with_reducible show rListOf _ _ _ _); first | refine Wk.n_listL (by walk_at "sq") ?_ | refine Wk.n_listT (by walk_at "sq") ?_)
  | ((with_reducible show rTupZ _ _ _ _); first | refine Wk.z_tupL (by walk_at "sq") ?_ | refine Wk.z_tupT (by walk_at "sq") ?_)
  | ((with_reducible show rTupOf _ _ _ _); first | refine Wk.n_tupL (by walk_at "sq") ?_ | refine Wk.n_tupT (by walk_at "sq") ?_))
local macro_rules | `(tactic| walk_at "rd") => `(tactic| repeat (walk_at "rd1"))
local macro_rules | `(tactic| walk_at "rd1") => `(tactic| (with_reducible first | refine Wk.r_dget ?_ | refine Wk.r_din ?_ | refine Wk.r_dnotin ?_ | refine Wk.r_dput ?_ | refine Wk.r_pairs ?_ | refine Wk.r_pairs0 ?_ | refine Wk.r_sl ?_ | refine Wk.r_part ?_ | refine Wk.r_nopart ?_ | refine Wk.r_augS ?_ | refine Wk.r_ipI ?_))

section
variable {K : PySem.W.Frag} {H : Hp} {Q : VK}
theorem cat_gen {a b : Addr} {xs ys : List V} (ha : SqT K H a xs) (hb : SqT K H b ys) (hz : xs.length + ys.length ≤ 1000) (q : ∀ p H', Same H H' → SqT K H' p (xs ++ ys) → Q (.ref p) H') : rCatA K (.ref a) (.ref b) H Q := by
  refine ⟨a, b, xs, ys, rfl, rfl, ha, hb, Nat.le_trans hz (by decide), fun e => ?_, fun _ e => ?_, fun _ _ p hp => ?_⟩
  · subst e
    exact q b H (Same.refl _) hb
  · subst e
    exact q a H (Same.refl _) (by rw [List.append_nil]; exact ha)
  · exact q p _ (same_new hp) (SqT.of upd_same)
theorem cut_whole {xs : List V} {lo hi : Option Int} (h1 : HT.sIx xs.length 0 lo = 0) (h2 : HT.sIx xs.length xs.length hi = xs.length) : cutV xs lo hi = xs := by
  unfold cutV
  rw [h1, h2, List.drop_zero, Nat.sub_zero, List.take_of_length_le (Nat.le_refl _)]
theorem sl_gen {a : Addr} {xs : List V} {lo hi : Option Int} (h : SqT K H a xs) (q : ∀ p H', Same H H' → SqT K H' p (cutV xs lo hi) → Q (.ref p) H') : rSlA K (.ref a) lo hi H Q :=
  ⟨a, xs, rfl, h, fun e => q a H (Same.refl _) (by rw [cut_whole e.1 e.2]; exact h), fun _ p hp => q p _ (same_new hp) (SqT.of upd_same)⟩
theorem sl_tupK {X : Cx} (K : PySem.W.Frag) (hK : X.K = K := by rfl) : SlR X (rSlA K) := by subst hK; exact sl_tupA
theorem cut_drop {xs : List V} {w : Nat} : cutV xs (some (w : Int)) none = xs.drop w := by
  unfold cutV
  rw [HT.sIx_none, HT.sIx_nat]
  by_cases c : w ≤ xs.length
  · rw [Nat.min_eq_left c, List.take_of_length_le (by rw [List.length_drop]; omega)]
  · rw [Nat.min_eq_right (by omega), List.drop_of_length_le (Nat.le_refl _), List.drop_of_length_le (by omega)]
    exact List.take_nil
theorem rep_set {xs : List V} {i : Nat} {v : V} (h : i < xs.length) : (xs.take i ++ [v]) ++ xs.drop (i + 1) = xs.set i v := by
  rw [List.set_eq_take_append_cons_drop, if_pos h, List.append_assoc]
  rfl
/-- small data that equals itself -/
def Dat8 (K : PySem.W.Frag) (H : Hp) (v : V) : Prop := ∃ d, Dp K H v d ∧ d.canLay0 = true ∧ d.depth ≤ 8 ∧ PyData.eqv d d = true
theorem dat8_int (i : Int) : Dat8 K H (.int i) := ⟨_, .int i, by simp [PyData.canLay0], by simp [PyData.depth], by simp [PyData.eqv]⟩
theorem dat8_bl (b : Bool) : Dat8 K H (.bl b) := ⟨_, .bl b, by simp [PyData.canLay0], by simp [PyData.depth], by simp [PyData.eqv]⟩
theorem dat8_non : Dat8 K H .non := ⟨_, .non, by simp [PyData.canLay0], by simp [PyData.depth], by simp [PyData.eqv]⟩
theorem dat8_str (x : PySem.Str) (h : PyData.strOk x = true) : Dat8 K H (.str x) := ⟨_, .str x, by simp [PyData.canLay0, h], by simp [PyData.depth], by simp [PyData.eqv]⟩
theorem dat_all : ∀ (xs : List V), (∀ x ∈ xs, Dat8 K H x) → ∃ ds, DpAll K H xs ds ∧ PyData.canLayAll0 ds = true ∧ PyData.depthAll ds ≤ 8 ∧ PyData.eqvAll ds ds = true
  | [], _ => ⟨[], .nil, by simp [PyData.canLayAll0], by simp [PyData.depthAll], by simp [PyData.eqvAll]⟩
  | x :: xs, h => by
    obtain ⟨d, h1, h2, h3, h4⟩ := h x List.mem_cons_self
    obtain ⟨ds, g1, g2, g3, g4⟩ := dat_all xs fun y hy => h y (List.mem_cons_of_mem _ hy)
    exact ⟨d :: ds, .cons h1 g1, by simp [PyData.canLayAll0, h2, g2], by simp only [PyData.depthAll]; omega, by simp [PyData.eqvAll, h4, g4]⟩
theorem datV_tup {a : Addr} {xs : List V} (h : SqT K H a xs) (m : ∀ x ∈ xs, Dat8 K H x) : DatV K H (.ref a) := by
  obtain ⟨ds, g1, g2, g3, g4⟩ := dat_all xs m
  exact ⟨.tuple ds, .tup h g1, by simp only [SeqAt.shaped, PyData.canLay0, PyData.depth, g2, Bool.true_and]; exact decide_eq_true (by omega), by simp only [PyData.eqv]; exact g4⟩
theorem datV_lst {a : Addr} {xs : List V} (h : SqL K H a xs) (m : ∀ x ∈ xs, Dat8 K H x) : DatV K H (.ref a) := by
  obtain ⟨ds, g1, g2, g3, g4⟩ := dat_all xs m
  exact ⟨.list ds, .lst h g1, by simp only [SeqAt.shaped, PyData.canLay0, PyData.depth, g2, Bool.true_and]; exact decide_eq_true (by omega), by simp only [PyData.eqv]; exact g4⟩
theorem natsV_mem {n : Nat} {o : Nat → Nat} {x : V} (h : x ∈ natsV n o) : ∃ i, i < n ∧ x = .int ((o i : Nat) : Int) := by
  obtain ⟨i, hi, e⟩ := List.mem_map.mp h
  exact ⟨i, List.mem_range.mp hi, e.symm⟩
/-- numbers below n, two of them alike -/
def DupV (K : PySem.W.Frag) (H : Hp) (n : Nat) (v : V) : Prop := ∃ (a : Addr) (f : Nat → Nat), v = .ref a ∧ SqT K H a (natsV n f) ∧ (∀ i, i < n → f i < n) ∧ ∃ i j, i < j ∧ j < n ∧ f i = f j
/-- no order of n elements, and data that equals itself, while the list at l changes -/
def BadS (K : PySem.W.Frag) (l : Addr) (n : Nat) (H : Hp) (v : V) : Prop := ∀ H', ExP l H H' → DatV K H' v ∧ (RowBad K H' n n v ∨ DupV K H' n v)
theorem BadS.exP {l : Addr} {n : Nat} {H' : Hp} {v : V} (x : ExP l H H') (h : BadS K l n H v) : BadS K l n H' v := fun H2 x2 => h H2 (x.trans x2)
theorem badS_non {l : Addr} {n : Nat} : BadS K l n H .non := fun H' _ => ⟨datV_non, .inl (.inl fun H2 _ => ⟨"NoneType", .base .non, by decide +kernel⟩)⟩
theorem badS_str {l : Addr} {n : Nat} {x : PySem.Str} (h : PyData.strOk x = true) : BadS K l n H (.str x) := fun H' _ => ⟨datV_str _ h, .inl (.inl fun H2 _ => ⟨"str", .base (.str _), by decide +kernel⟩)⟩
theorem badS_lst {l b n : Addr} {xs : List V} (ne : b ≠ l) (h : H b = some (.lst xs)) (m : ∀ x ∈ xs, ∃ z : Int, x = .int z) : BadS K l n H (.ref b) := fun H' x => by
  have hb := x _ _ ne h
  refine ⟨datV_lst (SqL.of hb) fun y hy => ?_, .inl (.inl fun H2 s2 => ⟨"list", sl_ty (SqL.of (s2 _ _ hb)), by decide +kernel⟩)⟩
  obtain ⟨z, rfl⟩ := m y hy
  exact dat8_int z
theorem badS_tup {l a n : Addr} {xs L : List V} (hl : H l = some (.lst L)) (h : SqT K H a xs) (hz : xs.length ≤ 1000) (m : ∀ x ∈ xs, ∀ H', ExP l H H' → Dat8 K H' x)
    (b : xs.length ≠ n ∨ ((∀ x ∈ xs, (∃ z : Int, x = .int z) ∨ ∀ H', ExP l H H' → Odd1 K H' x) ∧ ∃ x ∈ xs, BadM n x)) : BadS K l n H (.ref a) := fun H' x => by
  have ha := sqT_mut hl x h
  refine ⟨datV_tup ha fun y hy => m y hy H' x, .inl (.inr ⟨a, xs, rfl, ha, hz, b.imp id fun ⟨b1, b2⟩ => ⟨fun y hy => (b1 y hy).imp id fun g H2 s2 => g H2 (x.trans s2.exP), b2⟩⟩)⟩
theorem badS_dup {l a n : Addr} {f : Nat → Nat} {L : List V} (hl : H l = some (.lst L)) (h : SqT K H a (natsV n f)) (lt : ∀ i, i < n → f i < n) (d : ∃ i j, i < j ∧ j < n ∧ f i = f j) : BadS K l n H (.ref a) := fun H' x => by
  have ha := sqT_mut hl x h
  refine ⟨datV_tup ha fun y hy => ?_, .inr ⟨a, f, rfl, ha, lt, d⟩⟩
  obtain ⟨i, _, rfl⟩ := natsV_mem hy
  exact dat8_int _
theorem dup_not {n : Nat} {f : Nat → Nat} (d : ∃ i j, i < j ∧ j < n ∧ f i = f j) : ¬ ((List.range n).map fun i => ((f i : Nat) : Int)).Nodup := by
  obtain ⟨i, j, hij, hj, e⟩ := d
  intro nd
  have q := List.pairwise_iff_getElem.mp nd i j (by rw [List.length_map, List.length_range]; omega) (by rw [List.length_map, List.length_range]; omega) hij
  rw [List.getElem_map, List.getElem_map, List.getElem_range, List.getElem_range] at q
  exact q (by rw [e])
end
section
variable {P : Program} {w : World} {K : PySem.W.Frag} {mg : Str → Option Value} {base : Heap}
theorem fnOk_or {CX : CXT} {k : Nat} {f : Addr} {fd : FuncData} {ps : List Str} {sp sp' : Sp} (F : FnOk P w K mg base CX k f fd ps sp) (F' : FnOk P w K mg base CX k f fd ps sp') : FnOk P w K mg base CX k f fd ps (fun vs H Q E => sp vs H Q E ∨ sp' vs H Q E) :=
  ⟨fun vs H Q E h => h.elim (F.len vs H Q E) (F'.len vs H Q E), fun A outer s H args us vs Q E hr e0 hb r h => h.elim (F.run A outer s H args us vs Q E hr e0 hb r) (F'.run A outer s H args us vs Q E hr e0 hb r)⟩
def spRenR (K : PySem.W.Frag) (C CS : Addr) : Sp := fun vs H _ E => ∃ (g n : Nat) (m : Nat → Nat → Nat) (v : V), vs = [.ref g, v] ∧ GrpO K C H g n m ∧ RowBad K H n n v ∧ ∀ H', Same H H' → OutV CS H' v E
theorem okX_renR {C CS fa : Addr} {fd : FuncData} (T : TxD K mg C) (nI : mg "InvalidSubset" = some (.ref CS)) (x_InvalidSubset : ErrF P w K mg base CS ["self", "value"] (spOexI CS "value")) (k_is_member_row : Keep P w K mg base 4 "is_member_row" ["group", "value", "length"] (spMRowA K C)) (k__group_of : Keep P w K mg base 7 "_group_of" ["members", "products"] (spGOf K C)) (F : Fun K "renamed_group" "renamed_group" s_renamed_group fa fd) : FnOk P w K mg base (L2.CX P w) 8 fa fd ["group", "order"] (spRenR K C CS) := by
  refine F.okX sc_renamed_group (fun vs H Q E h => ?_) (fun cdv A outer s H vs Q E hr h => ?_)
  · obtain ⟨_, _, _, _, rfl, _⟩ := h
    rfl
  · obtain ⟨g, n, m, v, rfl, hg, hb, kk⟩ := h
    obtain ⟨dx, tt, iv, e', inv, gg⟩ := id hg
    refine ⟨_, (pss_cons (ps_if (PW.pt (pw_or (pt_not (pt_val (pe_k k_is_member_row (hr.mono (by decide)) (by rfl) (pa_cons (pv 0) (pa_cons (pv 1) (pa_cons (e_fld K (pv 0) rfl) pa_nil)))))) (pw_or1 (pt_cmpR op_ne (pe_lenSetT K (by rfl) T.n_len (by rfl) T.n_set (pv 1)) (e_fld K (pv 0) rfl) (nomark _))))) (pss_one (ps_raise rfl (takes_of rfl rfl rfl rfl) (pmk_err x_InvalidSubset (hr.mono (by decide)) (by rfl) nI (pa_cons (pv 1) pa_nil)))) pss_nil)
    (pss_one (ps_ret (pe_k k__group_of (hr.mono (by decide)) (by rfl) (pa_cons (pv 1) (pa_cons (pe_lc (own := [("x", 2)]) rfl sc_renamed_group.nd (i_tup K (pv 1)) (blkOk_by (N := ["group", "order", "x", "y"]) (sc := defScope s_renamed_group) (by decide +kernel)) (fun _ _ _ _ _ => (pg_name (i := 2) sc_renamed_group.nd rfl (by first | exact Or.inl rfl | exact Or.inr rfl))) (fun _ _ _ _ _ => pts_nil) (fun _ _ _ _ _ => (pe_lc (own := [("y", 3)]) rfl sc_renamed_group.nd (i_tup K (pv 1)) (blkOk_by (by kernel_rfl)) (fun _ _ _ _ _ => (pg_name (i := 3) sc_renamed_group.nd rfl (by first | exact Or.inl rfl | exact Or.inr rfl))) (fun _ _ _ _ _ => pts_nil) (fun _ _ _ _ _ => (pe_ix (x_tup K) (pe_ix (x_tup K) (e_fld K (pv 0) rfl) (pv 2) (fun _ _ => rfl)) (pv 3) (fun _ _ => rfl)))))) pa_nil)))))), ?_⟩
    walk_at "rd"
    refine ⟨_, _, _, _, _, rfl, gg.ins, T.cl, T.nS, gf_size, ?_⟩
    walk_at "rd"
    refine ⟨g, n, n, m, v, rfl, hg, hb, fun H1 s1 => ?_⟩
    walk_at "rd"
    refine r_mkO ?_
    walk_at "rd"
    refine ⟨by show 1 ≤ 1000; decide, fun a ha => ⟨a, v, rfl, upd_same, fun dx' hd ne => ⟨rfl, dx', [("value", v)], upd_same, ?_, ?_, ?_⟩⟩⟩
    · rw [upd_ne ne, upd_same]
    · rw [upd_ne ne] at hd
      exact hd
    · rw [made_heap ha ne]
      refine kk H1 s1 dx' ?_
      rw [upd_ne ne] at hd
      exact hd
def spRenD (K : PySem.W.Frag) (C CS : Addr) : Sp := fun vs H _ E => ∃ (g n : Nat) (m : Nat → Nat → Nat) (v : V), vs = [.ref g, v] ∧ GrpO K C H g n m ∧ DupV K H n v ∧ ∀ H', Same H H' → OutV CS H' v E
theorem okX_renD {C CS fa : Addr} {fd : FuncData} (T : TxD K mg C) (nI : mg "InvalidSubset" = some (.ref CS)) (x_InvalidSubset : ErrF P w K mg base CS ["self", "value"] (spOexI CS "value")) (k_is_member_row : Keep P w K mg base 4 "is_member_row" ["group", "value", "length"] (spMRow K C)) (k__group_of : Keep P w K mg base 7 "_group_of" ["members", "products"] (spGOf K C)) (F : Fun K "renamed_group" "renamed_group" s_renamed_group fa fd) : FnOk P w K mg base (L2.CX P w) 8 fa fd ["group", "order"] (spRenD K C CS) := by
  refine F.okX sc_renamed_group (fun vs H Q E h => ?_) (fun cdv A outer s H vs Q E hr h => ?_)
  · obtain ⟨_, _, _, _, rfl, _⟩ := h
    rfl
  · obtain ⟨g, n, m, v, rfl, hg, ⟨t, f, rfl, ht, lt, dup⟩, kk⟩ := h
    obtain ⟨dx, tt, iv, e', inv, gg⟩ := id hg
    have hn := gg.le
    refine ⟨_, (pss_cons (ps_if (PW.pt (pw_or (pt_not (pt_val (pe_k k_is_member_row (hr.mono (by decide)) (by rfl) (pa_cons (pv 0) (pa_cons (pv 1) (pa_cons (e_fld K (pv 0) rfl) pa_nil)))))) (pw_or1 (pt_cmpR op_ne (pe_lenSetT K (by rfl) T.n_len (by rfl) T.n_set (pv 1)) (e_fld K (pv 0) rfl) (nomark _))))) (pss_one (ps_raise rfl (takes_of rfl rfl rfl rfl) (pmk_err x_InvalidSubset (hr.mono (by decide)) (by rfl) nI (pa_cons (pv 1) pa_nil)))) pss_nil)
    (pss_one (ps_ret (pe_k k__group_of (hr.mono (by decide)) (by rfl) (pa_cons (pv 1) (pa_cons (pe_lc (own := [("x", 2)]) rfl sc_renamed_group.nd (i_tup K (pv 1)) (blkOk_by (N := ["group", "order", "x", "y"]) (sc := defScope s_renamed_group) (by decide +kernel)) (fun _ _ _ _ _ => (pg_name (i := 2) sc_renamed_group.nd rfl (by first | exact Or.inl rfl | exact Or.inr rfl))) (fun _ _ _ _ _ => pts_nil) (fun _ _ _ _ _ => (pe_lc (own := [("y", 3)]) rfl sc_renamed_group.nd (i_tup K (pv 1)) (blkOk_by (by kernel_rfl)) (fun _ _ _ _ _ => (pg_name (i := 3) sc_renamed_group.nd rfl (by first | exact Or.inl rfl | exact Or.inr rfl))) (fun _ _ _ _ _ => pts_nil) (fun _ _ _ _ _ => (pe_ix (x_tup K) (pe_ix (x_tup K) (e_fld K (pv 0) rfl) (pv 2) (fun _ _ => rfl)) (pv 3) (fun _ _ => rfl)))))) pa_nil)))))), ?_⟩
    walk_at "rd"
    refine ⟨_, _, _, _, _, rfl, gg.ins, T.cl, T.nS, gf_size, ?_⟩
    walk_at "rd"
    refine ⟨g, t, n, n, m, f, rfl, hg, ⟨ht, lt⟩, by omega, fun H1 s1 => ?_⟩
    have gg1 := gg.mono s1
    have ht1 := s1.sqT ht
    walk_at "rd"
    refine r_lenSetT ?_
    walk_at "rd"
    refine ⟨t, _, rfl, by rw [natsV_ints] at ht1; exact ht1, by rw [List.length_map, List.length_range]; omega, fun c _ hc => ?_⟩
    have hc := hc (dup_not dup)
    rw [List.length_map, List.length_range] at hc
    walk_at "rd"
    refine ⟨_, _, _, _, _, rfl, gg1.ins, T.cl, T.nS, gf_size, ?_⟩
    walk_at "rd"
    refine r_ifNI (fun _ => ?_) (fun e => by omega)
    walk_at "rd"
    refine r_mkO ?_
    walk_at "rd"
    refine ⟨by show 1 ≤ 1000; decide, fun a ha => ⟨a, .ref t, rfl, upd_same, fun dx' hd ne => ⟨rfl, dx', [("value", .ref t)], upd_same, ?_, ?_, ?_⟩⟩⟩
    · rw [upd_ne ne, upd_same]
    · rw [upd_ne ne] at hd
      exact hd
    · rw [made_heap ha ne]
      refine kk H1 s1 dx' ?_
      rw [upd_ne ne] at hd
      exact hd
/-- an error of the class at S is what «except S» names -/
theorem exm_self {S : Addr} (h1 : PySem.W.subIn K (.ref S) (.type "BaseException") = some true) (h2 : PySem.W.isClsIn K S = true) (h3 : PySem.W.typeIn K (.ref S) = some (.type "type")) (h4 : PySem.W.subIn K (.ref S) (.ref S) = some true) :
    PySem.W.exmOne K (.ref S) (.ref S) = some true := by
  have e1 : (PySem.W.subIn K (.ref S) (.type "BaseException") == some true) = true := by rw [h1] <;> rfl
  have e2 : ((PySem.W.clsIn K S).isSome && PySem.W.typeIn K (.ref S) == some (.type "type")) = true := by
    have h2' : (PySem.W.clsIn K S).isSome = true := h2
    rw [h2', h3] <;> rfl
  show (if (PySem.W.subIn K (.ref S) (.type "BaseException") == some true) = true then (if ((PySem.W.clsIn K S).isSome && PySem.W.typeIn K (.ref S) == some (.type "type")) = true then PySem.W.subIn K (.ref S) (.ref S) else none) else none) = some true
  rw [if_pos e1, if_pos e2]
  exact h4
theorem kit_no {A B : Addr} (h0 : PySem.W.subIn K (.ref A) (.ref A) = some true) (h : PySem.W.subIn K (.ref A) (.ref B) = some false) (kc : PySem.W.isClsIn K B = true) (kt : PySem.W.typeIn K (.ref B) = some (.type "type")) : PySem.W.kitOne K (.ref A) (.ref B) = some false := by
  have ne : (Value.ref A == Value.ref B) = false := by
    refine beq_eq_false_iff_ne.mpr fun q => ?_
    cases q
    rw [h0] at h
    cases h
  have e : ((PySem.W.clsIn K B).isSome && PySem.W.typeIn K (.ref B) == some (.type "type")) = true := by
    rw [show (PySem.W.clsIn K B).isSome = true from kc, kt] <;> rfl
  unfold PySem.W.kitOne
  rw [ne, if_neg Bool.false_ne_true]
  show (if ((PySem.W.clsIn K B).isSome && PySem.W.typeIn K (.ref B) == some (.type "type")) = true then PySem.W.subIn K (.ref A) (.ref B) else none) = some false
  rw [if_pos e, h]
theorem kit_yes {A B : Addr} (h : PySem.W.subIn K (.ref A) (.ref B) = some true) (kc : PySem.W.isClsIn K B = true) (kt : PySem.W.typeIn K (.ref B) = some (.type "type")) : PySem.W.kitOne K (.ref A) (.ref B) = some true := by
  have e : ((PySem.W.clsIn K B).isSome && PySem.W.typeIn K (.ref B) == some (.type "type")) = true := by
    rw [show (PySem.W.clsIn K B).isSome = true from kc, kt] <;> rfl
  unfold PySem.W.kitOne
  by_cases c : (Value.ref A == Value.ref B) = true
  · rw [if_pos c]
  · rw [if_neg c]
    show (if ((PySem.W.clsIn K B).isSome && PySem.W.typeIn K (.ref B) == some (.type "type")) = true then PySem.W.subIn K (.ref A) (.ref B) else none) = some true
    rw [if_pos e, h]
theorem kit_tyR {A : Addr} {T : String} {b : Bool} (m : PySem.W.kitMeta T = true) (h : PySem.W.subIn K (.ref A) (.type T) = some b) : PySem.W.kitOne K (.ref A) (.type T) = some b := by
  unfold PySem.W.kitOne
  rw [show (Value.ref A == Value.type T) = false from rfl, if_neg Bool.false_ne_true]
  show (if PySem.W.kitMeta T = true then PySem.W.subIn K (.ref A) (.type T) else none) = some b
  rw [if_pos m, h]
/-- what is asked of the errors in the text -/
structure TxR (K : PySem.W.Frag) (mg : Str → Option Value) (C CS CM CI : Addr) : Prop extends TxG K mg C where
  n_InvalidSubset : mg "InvalidSubset" = some (.ref CS)
  n_InvalidMap : mg "InvalidMap" = some (.ref CM)
  n_InvalidNumber : mg "InvalidNumber" = some (.ref CI)
  n_ValueError : mg "ValueError" = none
  xc : XcC K CS
  te : PySem.W.exmOne K (.ref CS) (.ref CS) = some true
  iV : PySem.W.kitOne K (.ref CS) (.type "ValueError") = some true
  iN : PySem.W.kitAny K (.ref CS) [.ref CM, .ref CI] = some false
  nV : PySem.W.findIn K (.ref CS) "value" = some none
def spRef10 (K : PySem.W.Frag) (C : Addr) : Sp := fun vs H Q _ => ∃ (g n : Nat) (m : Nat → Nat → Nat) (v : V), vs = [.ref g, v] ∧ GrpO K C H g n m ∧ DatV K H v ∧ (RowBad K H n n v ∨ DupV K H n v) ∧ ∀ H', Same H H' → Q (.bl true) H'
theorem k__law_refused {C CS CM CI : Addr} (T : TxR K mg C CS CM CI) (kX_renamed_group : KeepX P w K mg base 8 "renamed_group" ["group", "order"] (fun vs H Q E => spRenR K C CS vs H Q E ∨ spRenD K C CS vs H Q E)) (a : At K mg "_law_refused" s__law_refused ["group", "value"]) : Keep P w K mg base 9 "_law_refused" ["group", "value"] (spRef10 K C) := by
  refine Keep.of a sc__law_refused (fun vs H Q E h => ?_) (fun f cdv A outer s H vs Q E hr h => ?_)
  · obtain ⟨_, _, _, _, rfl, _⟩ := h
    rfl
  · obtain ⟨g, n, m, v, rfl, hg, hv, hb, kk⟩ := h
    refine ⟨_, (pss_cons (ps_try_as (i := 2) rfl rfl sc__law_refused.nd rfl rfl ⟨by rfl, by decide, .inl T.n_InvalidSubset⟩ takes0 (fun W pn xe tk _ => (pss_one (ps_expr (pe_kX kX_renamed_group (hr.mono (by decide)) (by rfl) tk (pa_cons (pv 0) (pa_cons (pv 1) pa_nil)))))) (fun a oe cls d pn hz hf => (pss_one (ps_ret (pe_and (pe_callB (call_isX hz hf) (by rfl) T.n_isinstance (by decide +kernel) (pa_cons (pv 2) (pa_cons (pe_bltn (v := .ty "ValueError") (u := .type "ValueError") (by rfl) T.n_ValueError (by decide +kernel) rfl) pa_nil))) (pe_and (pe_not (pe_callB (call_isX hz hf) (by rfl) T.n_isinstance (by decide +kernel) (pa_cons (pv 2) (pa_cons (pe_tup (pa_cons (pe_glob (v := .ref _) rfl T.n_InvalidMap rfl) (pa_cons (pe_glob (v := .ref _) rfl T.n_InvalidNumber rfl) pa_nil))) pa_nil)))) (pe_one (pe_cmpR (c_eqD K hr.units) (pe_xfA hz hf (pv 2)) (pv 1) (nomark _)))))))))
    (pss_one (ps_ret pe_bl))), ?_⟩
    walk_at "rd"
    refine r_callS ?_
    walk_at "rd"
    rcases hb with hb | hb
    · refine .inl ⟨g, n, m, v, rfl, hg, hb, ?_⟩
      intro H1 s1 d hd0
      refine ⟨true, T.te, fun _ ea hea => ?_, fun q => nomatch q⟩
      walk_at "rd"
      refine ⟨CS, d, _, true, _, rfl, rfl, T.xc, upd_same, rfl, .inl ⟨_, .ty _, T.iV⟩, ?_⟩
      walk_at "rd"
      intro tt htt
      have st := same_new (o := .tup [.ref CM, .ref CI]) htt
      refine ⟨CS, d, _, false, _, rfl, rfl, T.xc, st _ _ upd_same, rfl, .inr ⟨tt, _, _, rfl, upd_same, .cons (.own _) (.cons (.own _) .nil), T.iN⟩, ?_⟩
      walk_at "rd"
      refine r_xfA ?_
      walk_at "rd"
      refine ⟨rfl, CS, d, _, _, rfl, rfl, T.xc, T.nV, st _ _ upd_same, lookup_one, ?_⟩
      walk_at "rd"
      obtain ⟨dd, dp, sh, ev⟩ := hv
      have sx := (s1.trans (same_new hd0)).trans st
      refine ⟨dd, dd, dp_mono sx dp, dp_mono sx dp, sh, sh, ?_⟩
      rw [ev]
      exact kk _ sx
    · refine .inr ⟨g, n, m, v, rfl, hg, hb, ?_⟩
      intro H1 s1 d hd0
      refine ⟨true, T.te, fun _ ea hea => ?_, fun q => nomatch q⟩
      walk_at "rd"
      refine ⟨CS, d, _, true, _, rfl, rfl, T.xc, upd_same, rfl, .inl ⟨_, .ty _, T.iV⟩, ?_⟩
      walk_at "rd"
      intro tt htt
      have st := same_new (o := .tup [.ref CM, .ref CI]) htt
      refine ⟨CS, d, _, false, _, rfl, rfl, T.xc, st _ _ upd_same, rfl, .inr ⟨tt, _, _, rfl, upd_same, .cons (.own _) (.cons (.own _) .nil), T.iN⟩, ?_⟩
      walk_at "rd"
      refine r_xfA ?_
      walk_at "rd"
      refine ⟨rfl, CS, d, _, _, rfl, rfl, T.xc, T.nV, st _ _ upd_same, lookup_one, ?_⟩
      walk_at "rd"
      obtain ⟨dd, dp, sh, ev⟩ := hv
      have sx := (s1.trans (same_new hd0)).trans st
      refine ⟨dd, dd, dp_mono sx dp, dp_mono sx dp, sh, sh, ?_⟩
      rw [ev]
      exact kk _ sx
end
end Wk
end
section
set_option Elab.async false
set_option linter.all false
set_option maxRecDepth 100000
namespace Wk
open PySem PySem.Spec PyProof.Rows L2
local macro_rules | `(tactic| walk_at "hp") => `(tactic| first | assumption | exact upd_same | exact (upd_ne (ne_of_none (by assumption) (by assumption))).trans (by assumption) | (rw [upd_ne (by first | assumption | exact Ne.symm (by assumption))]; walk_at "hp"))
local macro_rules | `(tactic| walk_at "sq") => `(tactic| first | assumption | exact SqL.of (by assumption) | exact SqT.of (by assumption) | exact SqL.of (by walk_at "hp") | exact SqT.of (by walk_at "hp") | (refine Same.seq ?_ ?_ <;> assumption))
local macro_rules | `(tactic| walk_at "cmul") => `(tactic| first | exact .inr ⟨by decide, by decide⟩ | exact .inl ⟨by decide, by decide⟩ | exact .inr ⟨by omega, by omega⟩ | exact .inl ⟨by omega, by omega⟩)
local macro_rules | `(tactic| walk_at "cdiv") => `(tactic| first | exact ⟨by decide, by decide⟩ | exact wide_div (b := 64) (by omega) (by omega) (by decide) (by decide) | exact wide_div (b := 128) (by omega) (by omega) (by decide) (by decide))
local macro_rules | `(tactic| walk_at "rd1") => `(tactic| first
  | ((with_reducible show tVar _ _ _ _); refine Wk.r_var rfl ?_)
  | (with_reducible first
    | refine Wk.r_c ?_ | refine Wk.r_op ?_ | refine Wk.r_cons ?_ | refine Wk.r_nil ?_
    | refine Wk.r_seq ?_ | refine Wk.r_next ?_ | refine Wk.r_set ?_ | refine Wk.r_asgS ?_ | refine Wk.r_ret ?_ | refine Wk.r_drop ?_ | refine Wk.r_if ?_
    | refine Wk.r_asgG ?_ | refine Wk.r_gName ?_ | refine Wk.r_gCons ?_ | refine Wk.r_gNil ?_ | refine Wk.r_par ?_ | refine Wk.r_par3 ?_ | refine Wk.r_lstRg1 ?_ | refine Wk.r_tupRg1 ?_ | refine ⟨_, _, _, rfl, ?_⟩ | refine Wk.r_un ?_ | refine Wk.r_I0 ?_ | refine Wk.r_U ?_
    | refine Wk.r_test ?_ | refine Wk.r_B ?_ | refine Wk.r_k ?_ | refine Wk.r_not ?_ | refine Wk.r_and ?_ | refine Wk.r_or ?_ | refine Wk.r_andV ?_ | refine Wk.r_orV ?_ | refine Wk.r_notV ?_
    | refine Wk.r_CB ?_ | refine Wk.r_chain ?_ | refine Wk.r_fld ?_ | refine Wk.r_sfld ?_ | refine Wk.r_lst ?_ | refine Wk.r_tup ?_ | refine Wk.r_call ?_ | refine Wk.r_BM ?_ | refine Wk.r_BM0 ?_ | refine Wk.r_T ?_ | refine Wk.r_nT ?_ | refine Wk.r_nF ?_ | refine Wk.r_F ?_
    | refine Or.inl ⟨_, rfl, ?_⟩ | refine Or.inr ⟨_, rfl, ?_⟩ | refine ⟨_, rfl, ?_⟩ | refine ⟨_, _, rfl, ?_⟩)
  | ((with_reducible refine Wk.r_eq ?c0 ?_); (case c0 => rfl)) | ((with_reducible refine Wk.r_ne ?c0 ?_); (case c0 => rfl))
  | ((with_reducible refine Wk.r_pow ?c0 ?_); (case c0 => exact ⟨by decide, by decide, by decide⟩))
  | ((with_reducible refine Wk.r_mul ?c0 ?_); (case c0 => walk_at "cmul")) | ((with_reducible refine Wk.r_mod ?c0 ?_); (case c0 => first | decide | omega)) | ((with_reducible refine Wk.r_div ?c0 ?_); (case c0 => walk_at "cdiv"))
  | ((with_reducible refine Wk.r_new ?c0 ?_); (case c0 => (simp only [List.length_cons, List.length_nil]; omega)))
  | ((with_reducible show gTup _ _ _ _ _ _ _); refine Wk.r_gTup (by walk_at "sq") (by rfl) ?_)
  | (refine Wk.r_tyL (by walk_at "hp") ?_)
  | ((with_reducible show rSetL _ _ _ _ _); refine Wk.r_setL (by walk_at "hp") (by rfl) ?_)
  | ((with_reducible show rIxL _ _ _ _ _); refine Wk.r_ixL (by walk_at "sq") (by rfl) ?_) | ((with_reducible show rIxT _ _ _ _ _); refine Wk.r_ixT (by walk_at "sq") (by rfl) ?_)
  | ((with_reducible show rLenOf _ _ _ _); first | refine Wk.n_lenL (by walk_at "sq") ?_ | refine Wk.n_lenT (by walk_at "sq") ?_)
  | ((with_reducible show rListOf _ _ _ _); first | refine Wk.n_listL (by walk_at "sq") ?_ | refine Wk.n_listT (by walk_at "sq") ?_)
  | ((with_reducible show rTupZ _ _ _ _); first | refine Wk.z_tupL (by walk_at "sq") ?_ | refine Wk.z_tupT (by walk_at "sq") ?_)
  | ((with_reducible show rTupOf _ _ _ _); first | refine Wk.n_tupL (by walk_at "sq") ?_ | refine Wk.n_tupT (by walk_at "sq") ?_))
local macro_rules | `(tactic| walk_at "rd") => `(tactic| repeat (walk_at "rd1"))
local macro_rules | `(tactic| walk_at "rd1") => `(tactic| (with_reducible first | refine Wk.r_dget ?_ | refine Wk.r_din ?_ | refine Wk.r_dnotin ?_ | refine Wk.r_dput ?_ | refine Wk.r_pairs ?_ | refine Wk.r_pairs0 ?_ | refine Wk.r_sl ?_ | refine Wk.r_part ?_ | refine Wk.r_nopart ?_ | refine Wk.r_augS ?_ | refine Wk.r_ipI ?_))

section
variable {K : PySem.W.Frag} {j : Nat} {tl te : TE} {vs : List Nat} {σ : L2.St} {H : Hp} {Q : VK} {xs : List V}
theorem lc_lstS (R : Nat → V → Hp → Prop) (hz : xs.length ≤ 50000) (htl : ∀ R' : V → Hp → Prop, (∀ a H1, Same H H1 → SqL K H1 a xs → R' (.ref a) H1) → tl σ H R') (mono : ∀ i, Mut (R i))
    (step : ∀ (i : Nat) x H1 (Q' : VK), xs[i]? = some x → Same H H1 → (∀ v H2, Same H1 H2 → R i v H2 → Q' v H2) → te ((wipe σ vs).set j (some x)) H1 Q')
    (done : ∀ D L H1, H D = none → Same H H1 → H1 D = some (.lst L) → L.length = xs.length → (∀ i v, L[i]? = some v → R i v H1) → Q (.ref D) H1) (hw : ∀ x, wipe ((wipe σ vs).set j (some x)) vs = wipe σ vs := by intro _; rfl) : tLc (iList K tl) (gName j) tYes te vs σ H Q :=
  htl _ fun a H1 s1 hs => lc_lst (tl := fun _ H Q => Q (.ref a) H) R hs hz (fun _ h => h) mono (fun i x H2 Q' hx s2 k => step i x H2 Q' hx (s1.trans s2) k) (fun D L H2 hD s2 hL len r => done D L H2 (Same.free s1 hD) (s1.trans s2) hL len r) hw
theorem TabL.tabS {H : Hp} {a n : Nat} {m : Nat → Nat → Nat} (t : TabL K H a n m) : TabS K H a n m := by
  obtain ⟨L, hL, rL⟩ := t
  exact ⟨L, .inl (SqL.of hL), rL.1, fun x v h => by
    obtain ⟨b, e, q⟩ := rL.rows.2 x v h
    exact ⟨b, e, .inr q⟩⟩
/-- an odd value that is no whole number -/
def OddC (K : PySem.W.Frag) (B : Hp) (c : V) : Prop := (∀ H', Same B H' → Dat8 K H' c ∧ Odd1 K H' c) ∧ ∀ z : Int, c ≠ .int z
theorem oddC_non {B : Hp} : OddC K B .non := ⟨fun H' _ => ⟨dat8_non, .inr ⟨"NoneType", .base .non, by decide +kernel⟩⟩, fun z e => by cases e⟩
end
section
variable {P : Program} {w : World} {K : PySem.W.Frag} {mg : Str → Option Value} {base : Heap}
theorem prev_at {n at_ : Nat} {o : Nat → Nat} (h : at_ < n) (h1 : 1 < n) : ∃ j, j < n ∧ j ≠ at_ ∧ atI (natsV n o) ((at_ : Int) - 1) = some (.int ((o j : Nat) : Int)) := by
  by_cases c : at_ = 0
  · refine ⟨n - 1, by omega, by omega, ?_⟩
    unfold atI ixN
    rw [natsV_len, if_neg (by omega), if_pos (by omega)]
    have e : ((at_ : Int) - 1 + n).toNat = n - 1 := by omega
    rw [e]
    exact natsV_get (by omega)
  · exact ⟨at_ - 1, by omega, by omega, at_of (j := at_ - 1) (by omega) (natsV_get (by omega))⟩
structure Body10 (P : Program) (w : World) (K : PySem.W.Frag) (mg : Str → Option Value) (base : Heap) (C : Addr) : Prop where
  st : Keep P w K mg base 1 "_law_start" ["script"] (spStart K)
  dr : Keep P w K mg base 1 "_law_draw" ["state", "limit"] spDraw
  gr : Keep P w K mg base 5 "_law_group" ["state", "most"] (spGrp K)
  mi : Keep P w K mg base 2 "_law_mixed" ["state", "n"] spMix
  od : Keep P w K mg base 3 "_law_odd" ["state"] (spOdd K)
  te : Keep P w K mg base 9 "_law_told" ["group", "table", "order"] (spTold10 K C)
  re : Keep P w K mg base 9 "_law_refused" ["group", "value"] (spRef10 K C)
  cl : KeepC P w K mg base 5 C ["self", "table"] ["table"] (spInit K C)
def spBody (K : PySem.W.Frag) : Sp := fun vs H Q _ => ∃ (a : Addr) (ns : List Int), vs = [.ref a] ∧ SqL K H a (ns.map V.int) ∧ ns.length ≤ 63 ∧ ∀ H', Q (.bl true) H'
set_option maxHeartbeats 4000000 in
theorem k__law_body {C : Addr} (T : TxE K mg C) (S : Body10 P w K mg base C) (a : At K mg "_law_body" s__law_body ["script"]) : Keep P w K mg base 10 "_law_body" ["script"] (spBody K) := by
  obtain ⟨k__law_start, k__law_draw, k__law_group, k__law_mixed, k__law_odd, k__law_told, k__law_refused, k_Group⟩ := S
  refine Keep.of a sc__law_body (fun vs H Q E h => ?_) (fun f cdv A outer s H vs Q E hr h => ?_)
  · obtain ⟨_, _, rfl, _⟩ := h
    rfl
  · obtain ⟨a, ns, rfl, hs, hlen, kk⟩ := h
    refine ⟨_, (pss_cons (ps_set (i := 1) sc__law_body.nd rfl (by first | exact Or.inl rfl | exact Or.inr rfl) (pe_k k__law_start (hr.mono (by decide)) (by rfl) (pa_cons (pv 0) pa_nil)))
    (pss_cons (ps_set (i := 2) sc__law_body.nd rfl (by first | exact Or.inl rfl | exact Or.inr rfl) (pe_k k__law_group (hr.mono (by decide)) (by rfl) (pa_cons (pv 1) (pa_cons pe_int pa_nil))))
    (pss_cons (ps_set (i := 3) sc__law_body.nd rfl (by first | exact Or.inl rfl | exact Or.inr rfl) (pe_callB (c_len K) (by rfl) T.n_len (by decide +kernel) (pa_cons (pv 2) pa_nil)))
    (pss_cons (ps_set (i := 4) sc__law_body.nd rfl (by first | exact Or.inl rfl | exact Or.inr rfl) (pe_k k__law_mixed (hr.mono (by decide)) (by rfl) (pa_cons (pv 1) (pa_cons (pv 3) pa_nil))))
    (pss_cons (ps_set (i := 5) sc__law_body.nd rfl (by first | exact Or.inl rfl | exact Or.inr rfl) (e_make k_Group (hr.mono (by decide)) (by rfl) T.n_Group (pa_cons (pv 2) pa_nil)))
    (pss_cons (ps_if (PW.pt (pw_or (pt_not (pt_val (pe_k k__law_told (hr.mono (by decide)) (by rfl) (pa_cons (pv 5) (pa_cons (pv 2) (pa_cons (pv 4) pa_nil)))))) (pw_or1 (pt_not (pt_val (pe_k k__law_told (hr.mono (by decide)) (by rfl) (pa_cons (pv 5) (pa_cons (pv 2) (pa_cons (pe_k k__law_mixed (hr.mono (by decide)) (by rfl) (pa_cons (pv 1) (pa_cons (pv 3) pa_nil))) pa_nil))))))))) (pss_one (ps_ret pe_bl)) pss_nil)
    (pss_cons (ps_set (i := 6) sc__law_body.nd rfl (by first | exact Or.inl rfl | exact Or.inr rfl) (pe_k k__law_draw (hr.mono (by decide)) (by rfl) (pa_cons (pv 1) (pa_cons (pv 3) pa_nil))))
    (pss_cons (ps_set (i := 7) sc__law_body.nd rfl (by first | exact Or.inl rfl | exact Or.inr rfl) (pe_callTy (c_tup K) (by rfl) T.n_tuple (by decide +kernel) (pa_cons (pv 4) pa_nil)))
    (pss_cons (ps_set (i := 8) sc__law_body.nd rfl (by first | exact Or.inl rfl | exact Or.inr rfl) (pe_k k__law_odd (hr.mono (by decide)) (by rfl) (pa_cons (pv 1) pa_nil)))
    (Evl.pss_cut (ps_if (pt_val (pe_callB call_isi (by rfl) T.n_isinstance (by decide +kernel) (pa_cons (pv 8) (pa_cons (pe_bltn (v := .ty "int") (u := .type "int") (by rfl) T.n_int (by decide +kernel) rfl) pa_nil)))) (pss_one (ps_set (i := 8) sc__law_body.nd rfl (by first | exact Or.inl rfl | exact Or.inr rfl) pe_non)) pss_nil)
    (pss_cons (ps_set (i := 9) sc__law_body.nd rfl (by first | exact Or.inl rfl | exact Or.inr rfl) (pe_lst (pa_cons (pe_callTy (c_list K) (by rfl) T.n_list (by decide +kernel) (pa_cons (pv 4) pa_nil)) (pa_cons (pe_op (c_catA K) (pv 7) (pe_tup (pa_cons pe_int pa_nil))) (pa_cons (pe_slice (sl_tupK K) (pv 7) (po_some pe_int) po_none) (pa_cons (pe_op (c_catA K) (pe_op (c_catA K) (pe_slice (sl_tupK K) (pv 7) po_none (po_some (pv 6))) (pe_tup (pa_cons (pv 3) pa_nil))) (pe_slice (sl_tupK K) (pv 7) (po_some (pe_op op_add (pv 6) pe_int)) po_none)) (pa_cons pe_non (pa_cons pe_str pa_nil))))))))
    (pss_cons (ps_expr (e_bm K PySem.F.plainAttrs_list PySem.F.slot_list_append PySem.F.type_list_append mt_append (pv 9) (pa_cons (pe_op (c_catA K) (pe_op (c_catA K) (pe_slice (sl_tupK K) (pv 7) po_none (po_some (pv 6))) (pe_tup (pa_cons (pv 8) pa_nil))) (pe_slice (sl_tupK K) (pv 7) (po_some (pe_op op_add (pv 6) pe_int)) po_none)) pa_nil)))
    (Evl.pss_cut (ps_if (pt_cmpR op_gt (pv 3) pe_int (nomark _)) (pss_cons (ps_expr (e_bm K PySem.F.plainAttrs_list PySem.F.slot_list_append PySem.F.type_list_append mt_append (pv 9) (pa_cons (pe_op (c_catA K) (pe_op (c_catA K) (pe_slice (sl_tupK K) (pv 7) po_none (po_some (pv 6))) (pe_tup (pa_cons (pe_ix (x_tup K) (pv 7) (pe_op op_sub (pv 6) pe_int) (fun _ _ => rfl)) pa_nil))) (pe_slice (sl_tupK K) (pv 7) (po_some (pe_op op_add (pv 6) pe_int)) po_none)) pa_nil)))
    (pss_one (ps_expr (e_bm K PySem.F.plainAttrs_list PySem.F.slot_list_append PySem.F.type_list_append mt_append (pv 9) (pa_cons (pe_op (c_catA K) (pe_callTy (c_tup K) (by rfl) T.n_tuple (by decide +kernel) (pa_cons (pe_lc (own := [("x", 10)]) rfl sc__law_body.nd (i_list K (pe_slice (sl_listK K) (pv 4) po_none (po_some pe_int))) (blkOk_by (N := ["script", "state", "table", "n", "order", "group", "at", "row", "odd", "bad", "x", "value"]) (sc := defScope s__law_body) (by decide +kernel)) (fun _ _ _ _ _ => (pg_name (i := 10) sc__law_body.nd rfl (by first | exact Or.inl rfl | exact Or.inr rfl))) (fun _ _ _ _ _ => pts_nil) (fun _ _ _ _ _ => (pe_cmpR op_gt (pe_callTy call_int1 (by rfl) T.n_int (by decide +kernel) (pa_cons (pv 10) pa_nil)) pe_int (nomark _)))) pa_nil)) (pe_slice (sl_tupK K) (pv 7) (po_some pe_int) po_none)) pa_nil))))) pss_nil)
    (pss_cons (ps_expr (e_bm K PySem.F.plainAttrs_list PySem.F.slot_list_append PySem.F.type_list_append mt_append (pv 9) (pa_cons (pe_callTy (c_tup K) (by rfl) T.n_tuple (by decide +kernel) (pa_cons (pe_lc (own := [("x", 10)]) rfl sc__law_body.nd (i_list K (pv 4)) (blkOk_by (N := ["script", "state", "table", "n", "order", "group", "at", "row", "odd", "bad", "x", "value"]) (sc := defScope s__law_body) (by decide +kernel)) (fun _ _ _ _ _ => (pg_name (i := 10) sc__law_body.nd rfl (by first | exact Or.inl rfl | exact Or.inr rfl))) (fun _ _ _ _ _ => pts_nil) (fun _ _ _ _ _ => (pe_op op_sub pe_int pe_int))) pa_nil)) pa_nil)))
    (pss_cons (ps_for PassesOwn.never rfl (i_list K (pv 9)) (pg_name (i := 11) sc__law_body.nd rfl (by first | exact Or.inl rfl | exact Or.inr rfl)) (pss_one (ps_if (pt_not (pt_val (pe_k k__law_refused (hr.mono (by decide)) (by rfl) (pa_cons (pv 5) (pa_cons (pv 11) pa_nil))))) (pss_one (ps_ret pe_bl)) pss_nil)))
    (pss_one (ps_ret (pe_k k__law_told (hr.mono (by decide)) (by rfl) (pa_cons (pv 5) (pa_cons (pv 2) (pa_cons (pv 4) pa_nil))))))))))))))))))))), ?_⟩
    walk_at "rd"
    refine ⟨a, ns, rfl, hs, hlen, fun H1 p q np s1 d1 => ?_⟩
    walk_at "rd"
    refine ⟨p, q, 12, rfl, by decide, by decide, d1, fun H2 ta n m nt x2 d2 g hn tb => ?_⟩
    have ntp : ta ≠ p := (d1.ne nt).1
    have h0 := g.pos
    obtain ⟨L, hL, rL⟩ := id tb
    walk_at "rd"
    rw [rL.1]
    refine ⟨p, q, n, rfl, by omega, d2, fun H3 b o o' nb x3 d3 pl pm => ?_⟩
    have nbp := (d2.ne nb).1
    have tb3 := tb.exP ntp d2 x3
    walk_at "rd"
    refine r_make ?_
    walk_at "rd"
    intro g1 dx1 ng1 ndx1 ne1
    refine ⟨g1, ta, dx1, n, m, rfl, upd_same, h0, by omega, (tb3.mono (made_same (C := C) ng1 ndx1 ne1 (ExP.refl _ _)).1).tabS, g, fun H4 x4 o1 => ⟨rfl, ?_⟩⟩
    have s4 := (made_same ng1 ndx1 ne1 x4).2
    have tb4 := tb3.mono s4
    have pl4 : H4 b = some (.lst (natsV n o)) := s4 _ _ pl
    have d4 := d3.mono s4
    clear x4 hL rL L
    walk_at "rd"
    refine ⟨g1, ta, b, n, m, o, o', rfl, by omega, o1, tb4, pl4, pm, fun H5 s5 => ?_⟩
    walk_at "rd"
    refine ⟨p, q, n, rfl, by omega, d4.mono s5, fun H6 b2 o2 o2' nb2 x6 d6 pl2 pm2 => ?_⟩
    have o16 := (o1.mono s5).exP (d4.mono s5) x6
    have tb6 := (tb4.mono s5).exP ntp (d4.mono s5) x6
    have pl6 := x6 _ _ nbp (s5 _ _ pl4)
    walk_at "rd"
    refine ⟨g1, ta, b2, n, m, o2, o2', rfl, by omega, o16, tb6, pl2, pm2, fun H7 s7 => ?_⟩
    walk_at "rd"
    refine ⟨p, q, n, rfl, d6.mono s7, by omega, fun H8 r x8 d8 r0 rl => ?_⟩
    obtain ⟨at_, rfl⟩ := Int.eq_ofNat_of_zero_le r0
    have hat : at_ < n := by have := rl (by omega); omega
    have o18 := (o16.mono s7).exP (d6.mono s7) x8
    have tb8 := (tb6.mono s7).exP ntp (d6.mono s7) x8
    have pl8 := x8 _ _ nbp (s7 _ _ pl6)
    walk_at "rd"
    intro rw nrw
    have s9 := same_new (o := .tup (natsV n o)) nrw
    have hrow9 : SqT K (upd H8 rw (.tup (natsV n o))) rw (natsV n o) := SqT.of upd_same
    have d9 := d8.mono s9
    have o19 := o18.mono s9
    have tb9 := tb8.mono s9
    have pl9 := s9 _ _ pl8
    generalize upd H8 rw (.tup (natsV n o)) = H9 at s9 hrow9 d9 o19 tb9 pl9 ⊢
    walk_at "rd"
    refine ⟨p, q, rfl, d9, fun B v xB dB ov => ?_⟩
    have oB := o19.exP d9 xB
    have tbB := tb9.exP ntp d9 xB
    have plB := xB _ _ nbp pl9
    have rowB : SqT K B rw (natsV n o) := by
      obtain ⟨_, _, _, _, _, h1, _⟩ := id d9
      exact sqT_mut h1 xB hrow9
    walk_at "rd"
    refine ⟨fun σ' H' => ∃ c : V, σ' = [some (.ref a), some (.ref p), some (.ref ta), some (.int n), some (.ref b), some (.ref g1), some (.int at_), some (.ref rw), some c, none, none, none] ∧ H' = B ∧ OddC K B c, ?_, ?_⟩
    · walk_at "rd"
      cases ov with
      | non =>
        refine n_isiB (b := false) (.base .non) (by decide +kernel) ?_
        walk_at "rd"
        exact ⟨rfl, oddC_non⟩
      | bl b =>
        refine n_isiB (b := true) (.base (.bl _)) (by decide +kernel) ?_
        walk_at "rd"
        exact ⟨rfl, oddC_non⟩
      | neg z h g =>
        refine n_isiB (b := true) (.base (.int _)) (by decide +kernel) ?_
        walk_at "rd"
        exact ⟨rfl, oddC_non⟩
      | big z h g =>
        refine n_isiB (b := true) (.base (.int _)) (by decide +kernel) ?_
        walk_at "rd"
        exact ⟨rfl, oddC_non⟩
      | str x h =>
        refine n_isiB (b := false) (.base (.str _)) (by decide +kernel) ?_
        walk_at "rd"
        exact ⟨rfl, fun H' _ => ⟨dat8_str _ h, .inr ⟨"str", .base (.str _), by decide +kernel⟩⟩, fun z e => by cases e⟩
      | dat l d dp sh re ty =>
        have fin : OddC K B (.ref l) := ⟨fun H' s => ⟨⟨d, dp H' s.exP, (Bool.and_eq_true_iff.mp sh).1, of_decide_eq_true (Bool.and_eq_true_iff.mp sh).2, re⟩, .inr (by
          rcases ty H' s.exP with t | t
          · exact ⟨"list", t, by decide +kernel⟩
          · exact ⟨"tuple", t, by decide +kernel⟩)⟩, fun z e => by cases e⟩
        rcases ty B (ExP.refl _ _) with t | t
        · refine n_isiB (b := false) t (by decide +kernel) ?_
          walk_at "rd"
          exact ⟨rfl, fin⟩
        · refine n_isiB (b := false) t (by decide +kernel) ?_
          walk_at "rd"
          exact ⟨rfl, fin⟩
    rintro σ' B ⟨c, rfl, rfl, oc, ocn⟩
    have lenN : (natsV n o).length = n := natsV_len
    walk_at "rd"
    intro l1 nl1
    have sa := same_new (o := .lst (natsV n o)) nl1
    have hl1 : upd B l1 (.lst (natsV n o)) l1 = some (.lst (natsV n o)) := upd_same
    generalize upd B l1 (.lst (natsV n o)) = H1 at sa hl1 ⊢
    walk_at "rd"
    intro t0 nt0
    have sb := same_new (o := .tup [V.int 0]) nt0
    have ht0 : SqT K (upd H1 t0 (.tup [V.int 0])) t0 [V.int 0] := SqT.of upd_same
    generalize upd H1 t0 (.tup [V.int 0]) = H2 at sb ht0 ⊢
    refine cat_gen ((sa.trans sb).sqT rowB) ht0 (by rw [lenN]; show n + 1 ≤ 1000; omega) (fun u1 H3 sc hu1 => ?_)
    have s03 := (sa.trans sb).trans sc
    have at1 : ((at_ : Int) + 1) = ((at_ + 1 : Nat) : Int) := by omega
    walk_at "rd"
    refine sl_gen (s03.sqT rowB) (fun u2 H4 sd hu2 => ?_)
    have e1 : cutV (natsV n o) (some 1) none = (natsV n o).drop 1 := cut_drop (w := 1)
    rw [e1] at hu2
    have s04 := s03.trans sd
    walk_at "rd"
    refine sl_gen ((s04).sqT rowB) (fun a3 H3a s3a ha3 => ?_)
    rw [cut_take] at ha3
    walk_at "rd"
    intro t3 nt3
    have s3b := same_new (o := .tup [V.int (n : Int)]) nt3
    have ht3 : SqT K (upd H3a t3 (.tup [V.int (n : Int)])) t3 [V.int (n : Int)] := SqT.of upd_same
    generalize upd H3a t3 (.tup [V.int (n : Int)]) = H3b at s3b ht3 ⊢
    refine cat_gen (s3b.sqT ha3) ht3 (by rw [List.length_take, lenN]; show min at_ n + 1 ≤ 1000; omega) (fun c3 H3c s3c hc3 => ?_)
    walk_at "rd"
    rw [at1]
    refine sl_gen ((((s04).trans s3a).trans (s3b.trans s3c)).sqT rowB) (fun b3 H3d s3d hb3 => ?_)
    rw [cut_drop] at hb3
    walk_at "rd"
    refine cat_gen (s3d.sqT hc3) hb3 (by rw [List.length_append, List.length_take, List.length_drop, lenN]; show min at_ n + 1 + (n - (at_ + 1)) ≤ 1000; omega) (fun u3 H3f s3f hu3 => ?_)
    rw [rep_set (by rw [lenN]; exact hat)] at hu3
    have s3 := ((s3a.trans s3b).trans (s3c.trans s3d)).trans s3f
    walk_at "rd"
    intro l nl
    generalize hxs : [V.ref l1, V.ref u1, V.ref u2, V.ref u3, V.non, V.str "0"] = xs
    have sl := same_new (o := .lst xs) nl
    have hl : upd H3f l (.lst xs) l = some (.lst xs) := upd_same
    have nl1l : l1 ≠ l := fun e => by have := (sb.trans (sc.trans (sd.trans s3))) _ _ hl1; rw [e, nl] at this; cases this
    have s05 := (s04.trans s3).trans sl
    have mo : ∀ x ∈ natsV n o, ∃ z : Int, x = .int z := fun x hx => let ⟨i, _, e⟩ := natsV_mem hx; ⟨_, e⟩
    have md : ∀ (l : Addr) (H : Hp), ∀ x ∈ natsV n o, ∀ H', ExP l H H' → Dat8 K H' x := fun l H x hx H' _ => by
      obtain ⟨z, rfl⟩ := mo x hx
      exact dat8_int z
    have inv : ∀ v ∈ xs, BadS K l n (upd H3f l (.lst xs)) v := by
      intro v hv
      rw [← hxs] at hv
      simp only [List.mem_cons, List.not_mem_nil, or_false] at hv
      rcases hv with rfl | rfl | rfl | rfl | rfl | rfl
      · exact badS_lst nl1l ((sb.trans (sc.trans (sd.trans (s3.trans sl)))) _ _ hl1) mo
      · refine badS_tup hl ((sd.trans (s3.trans sl)).sqT hu1) (by rw [List.length_append, lenN]; show n + 1 ≤ 1000; omega) (fun x hx => ?_) (.inl (by rw [List.length_append, lenN]; show n + 1 ≠ n; omega))
        rcases List.mem_append.mp hx with h | h
        · exact md _ _ x h
        · rw [List.mem_singleton.mp h]; exact fun H' _ => dat8_int 0
      · exact badS_tup hl ((s3.trans sl).sqT hu2) (by rw [List.length_drop, lenN]; omega) (fun x hx => md _ _ x (List.mem_of_mem_drop hx)) (.inl (by rw [List.length_drop, lenN]; omega))
      · refine badS_tup hl (sl.sqT hu3) (by rw [List.length_set, lenN]; omega) (fun x hx => ?_) (.inr ⟨fun x hx => ?_, V.int (n : Int), List.mem_set (by rw [lenN]; exact hat) _, fun z e => by cases e; omega⟩)
        · rcases List.mem_or_eq_of_mem_set hx with h | h
          · exact md _ _ x h
          · rw [h]; exact fun H' _ => dat8_int _
        · rcases List.mem_or_eq_of_mem_set hx with h | h
          · exact .inl (mo x h)
          · exact .inl ⟨_, h⟩
      · exact badS_non
      · exact badS_str (by decide +kernel)
    have lx : xs.length = 6 := by rw [← hxs]; rfl
    clear hxs
    generalize upd H3f l (.lst xs) = H5 at sl hl s05 inv ⊢
    have bl : B l = none := (s04.trans s3).free nl
    have keep : ∀ {H : Hp}, ExP l H5 H → Same B H := fun x b ob e => x b ob (fun q => by rw [q, bl] at e; cases e) (s05 b ob e)
    walk_at "rd"
    refine sl_gen ((s05).sqT rowB) (fun a6 H6a s6a ha6 => ?_)
    rw [cut_take] at ha6
    walk_at "rd"
    intro t6 nt6
    have s6b := same_new (o := .tup [c]) nt6
    have ht6 : SqT K (upd H6a t6 (.tup [c])) t6 [c] := SqT.of upd_same
    generalize upd H6a t6 (.tup [c]) = H6b at s6b ht6 ⊢
    refine cat_gen (s6b.sqT ha6) ht6 (by rw [List.length_take, lenN]; show min at_ n + 1 ≤ 1000; omega) (fun c6 H6c s6c hc6 => ?_)
    walk_at "rd"
    rw [at1]
    refine sl_gen ((((s05).trans s6a).trans (s6b.trans s6c)).sqT rowB) (fun b6 H6d s6d hb6 => ?_)
    rw [cut_drop] at hb6
    walk_at "rd"
    refine cat_gen (s6d.sqT hc6) hb6 (by rw [List.length_append, List.length_take, List.length_drop, lenN]; show min at_ n + 1 + (n - (at_ + 1)) ≤ 1000; omega) (fun u6 H6f s6f hu6 => ?_)
    rw [rep_set (by rw [lenN]; exact hat)] at hu6
    have s6 := ((s6a.trans s6b).trans (s6c.trans s6d)).trans s6f
    walk_at "rd"
    refine Wk.r_append (xs := xs) (s6 _ _ hl) (szlt (by omega)) ?_
    generalize hys : xs ++ [V.ref u6] = ys
    have hl6 : upd H6f l (.lst ys) l = some (.lst ys) := upd_same
    have x6 : ExP l H5 (upd H6f l (.lst ys)) := s6.exP.trans ExP.upd
    have hl6f : H6f l = some (.lst xs) := s6 _ _ hl
    have inv6 : ∀ v ∈ ys, BadS K l n (upd H6f l (.lst ys)) v := by
      intro v hv
      rw [← hys] at hv
      rcases List.mem_append.mp hv with h | h
      · exact (inv v h).exP x6
      · rw [List.mem_singleton.mp h]
        refine BadS.exP ExP.upd (badS_tup hl6f hu6 (by rw [List.length_set, lenN]; omega) (fun x hx => ?_) (.inr ⟨fun x hx => ?_, c, List.mem_set (by rw [lenN]; exact hat) _, fun z e => absurd e (ocn z)⟩))
        · rcases List.mem_or_eq_of_mem_set hx with h | h
          · exact md _ _ x h
          · rw [h]; exact fun H' x => (oc H' (keep (s6.exP.trans x))).1
        · rcases List.mem_or_eq_of_mem_set hx with h | h
          · exact .inl (mo x h)
          · rw [h]; exact .inr fun H' x => (oc H' (keep (s6.exP.trans x))).2
    have ly : ys.length = 7 := by rw [← hys, List.length_append, lx]; rfl
    have s07 := keep x6
    clear hys inv
    generalize upd H6f l (.lst ys) = H7 at hl6 x6 inv6 s07 ⊢
    walk_at "rd"
    refine ⟨fun σ' H' => ∃ v10 : Option V, σ' = [some (.ref a), some (.ref p), some (.ref ta), some (.int n), some (.ref b), some (.ref g1), some (.int at_), some (.ref rw), some c, some (.ref l), v10, none] ∧ ExP l H5 H' ∧ ∃ zs, H' l = some (.lst zs) ∧ zs.length ≤ 9 ∧ ∀ v ∈ zs, BadS K l n H' v, ?_, ?_⟩
    · walk_at "rd"
      refine r_if1 (fun c1 => ?_) (fun c1 => ?_)
      · have n1 : 1 < n := by omega
        obtain ⟨jp, hjn, hjne, hjat⟩ := prev_at (o := o) hat n1
        walk_at "rd"
        refine sl_gen ((s07).sqT rowB) (fun a8 H8a s8a ha8 => ?_)
        rw [cut_take] at ha8
        walk_at "rd"
        refine Wk.r_ixT (((s07).trans s8a).sqT rowB) hjat ?_
        walk_at "rd"
        intro t8 nt8
        have s8b := same_new (o := .tup [V.int ((o jp : Nat) : Int)]) nt8
        have ht8 : SqT K (upd H8a t8 (.tup [V.int ((o jp : Nat) : Int)])) t8 [V.int ((o jp : Nat) : Int)] := SqT.of upd_same
        generalize upd H8a t8 (.tup [V.int ((o jp : Nat) : Int)]) = H8b at s8b ht8 ⊢
        refine cat_gen (s8b.sqT ha8) ht8 (by rw [List.length_take, lenN]; show min at_ n + 1 ≤ 1000; omega) (fun c8 H8c s8c hc8 => ?_)
        walk_at "rd"
        rw [at1]
        refine sl_gen ((((s07).trans s8a).trans (s8b.trans s8c)).sqT rowB) (fun b8 H8d s8d hb8 => ?_)
        rw [cut_drop] at hb8
        walk_at "rd"
        refine cat_gen (s8d.sqT hc8) hb8 (by rw [List.length_append, List.length_take, List.length_drop, lenN]; show min at_ n + 1 + (n - (at_ + 1)) ≤ 1000; omega) (fun u8 H8f s8f hu8 => ?_)
        rw [rep_set (by rw [lenN]; exact hat)] at hu8
        have s8 := ((s8a.trans s8b).trans (s8c.trans s8d)).trans s8f
        walk_at "rd"
        refine Wk.r_append (xs := ys) (s8 _ _ hl6) (szlt (by omega)) ?_
        rw [natsV_set hat] at hu8
        generalize hzs : ys ++ [V.ref u8] = zs
        have hl8 : upd H8f l (.lst zs) l = some (.lst zs) := upd_same
        have x8 : ExP l H7 (upd H8f l (.lst zs)) := s8.exP.trans ExP.upd
        have hl8f : H8f l = some (.lst ys) := s8 _ _ hl6
        have inv8 : ∀ v ∈ zs, BadS K l n (upd H8f l (.lst zs)) v := by
          intro v hv
          rw [← hzs] at hv
          rcases List.mem_append.mp hv with h | h
          · exact (inv6 v h).exP x8
          · rw [List.mem_singleton.mp h]
            refine BadS.exP ExP.upd (badS_dup hl8f hu8 (fun i hi => ?_) ?_)
            · by_cases e : i = at_
              · rw [if_pos e]; exact pm.ol _ hjn
              · rw [if_neg e]; exact pm.ol _ hi
            · rcases Nat.lt_or_ge jp at_ with e | e
              · exact ⟨jp, at_, e, hat, by simp⟩
              · exact ⟨at_, jp, Nat.lt_of_le_of_ne e (Ne.symm hjne), hjn, by simp⟩
        have lz : zs.length = 8 := by rw [← hzs, List.length_append, ly]; rfl
        have s09 := keep (x6.trans x8)
        clear hzs
        have x68 := x6.trans x8
        generalize upd H8f l (.lst zs) = H9 at hl8 x68 inv8 s09 ⊢
        have pl9 := s09 _ _ plB
        walk_at "rd"
        refine lc_lstS (xs := (natsV n o).take 1) (fun i v _ => ∃ b : Bool, v = V.bl b) (by rw [List.length_take, lenN]; omega) (fun R' h => ?_) (fun i v H1 H2 D L _ _ h => h) (fun i y Ha Q' hy sa1 k1 => ?_) (fun D LD Ha hD sa1 hLD lenD rD => ?_)
        · walk_at "rd"
          refine r_slL (SqL.of pl9) fun cl ncl => ?_
          have e1 : cutV (natsV n o) none (some 1) = (natsV n o).take 1 := cut_take (w := 1)
          rw [e1]
          exact h _ _ (same_new ncl) (SqL.of upd_same)
        · obtain ⟨zz, rfl⟩ := mo y (List.mem_of_mem_take (List.mem_of_getElem? hy))
          walk_at "rd"
          exact k1 _ _ (Same.refl _) ⟨_, rfl⟩
        · rw [List.length_take, lenN, Nat.min_eq_left (by omega)] at lenD
          walk_at "rd"
          intro tb1 ntb1
          have sb1 := same_new (o := .tup LD) ntb1
          have htb1 : SqT K (upd Ha tb1 (.tup LD)) tb1 LD := SqT.of upd_same
          generalize upd Ha tb1 (.tup LD) = Hb at sb1 htb1 ⊢
          walk_at "rd"
          refine sl_gen ((s09.trans (sa1.trans sb1)).sqT rowB) (fun ub Hc sc1 hub => ?_)
          have e1 : cutV (natsV n o) (some 1) none = (natsV n o).drop 1 := cut_drop (w := 1)
          rw [e1] at hub
          walk_at "rd"
          refine cat_gen (sc1.sqT htb1) hub (by rw [List.length_drop, lenN, lenD]; omega) (fun uc Hd sd1 huc => ?_)
          have s9d := (sa1.trans sb1).trans (sc1.trans sd1)
          have hl9d : Hd l = some (.lst zs) := s9d _ _ hl8
          walk_at "rd"
          refine Wk.r_append (xs := zs) hl9d (szlt (by omega)) ?_
          refine ⟨_, rfl, x68.trans (s9d.exP.trans ExP.upd), zs ++ [V.ref uc], upd_same, by rw [List.length_append, lz]; show 8 + 1 ≤ 9; decide, fun v hv => ?_⟩
          rcases List.mem_append.mp hv with h | h
          · exact (inv8 v h).exP (s9d.exP.trans ExP.upd)
          · rw [List.mem_singleton.mp h]
            have hb0 : ∀ x ∈ LD, ∃ b : Bool, x = .bl b := fun x hx => let ⟨i, hi⟩ := List.mem_iff_getElem?.mp hx; rD i x hi
            obtain ⟨x0, hx0⟩ : ∃ x, x ∈ LD := ⟨LD[0]'(by omega), List.getElem_mem _⟩
            obtain ⟨b0, rfl⟩ := hb0 x0 hx0
            refine BadS.exP ExP.upd (badS_tup hl9d huc (by rw [List.length_append, List.length_drop, lenN, lenD]; omega) (fun x hx => ?_) (.inr ⟨fun x hx => ?_, V.bl b0, List.mem_append_left _ hx0, fun z e => by cases e⟩))
            · rcases List.mem_append.mp hx with h | h
              · obtain ⟨b1, rfl⟩ := hb0 x h
                exact fun H' _ => dat8_bl _
              · exact md _ _ x (List.mem_of_mem_drop h)
            · rcases List.mem_append.mp hx with h | h
              · obtain ⟨b1, rfl⟩ := hb0 x h
                exact .inr fun H' _ => .inl ⟨b1, rfl⟩
              · exact .inl (mo x (List.mem_of_mem_drop h))
      · exact ⟨_, rfl, x6, ys, hl6, by omega, inv6⟩
    rintro σ' H8 ⟨v10, rfl, x8, zs, hl8, lz, inv8⟩
    have s08 := keep x8
    have pl8 := s08 _ _ plB
    walk_at "rd"
    refine lc_lst (fun i v _ => v = V.int (0 - 1)) (SqL.of pl8) (by rw [lenN]; omega) (fun R' h => ?_) (fun i => mut_val) (fun i y Ha Q' hy sa1 k1 => ?_) (fun D LD Ha hD sa1 hLD lenD rD => ?_)
    · walk_at "rd"
      exact h
    · walk_at "rd"
      exact k1 _ _ (Same.refl _) rfl
    rw [lenN] at lenD
    walk_at "rd"
    intro tb1 ntb1
    have sb1 := same_new (o := .tup LD) ntb1
    have htb1 : SqT K (upd Ha tb1 (.tup LD)) tb1 LD := SqT.of upd_same
    generalize upd Ha tb1 (.tup LD) = Hb at sb1 htb1 ⊢
    have s8b := sa1.trans sb1
    have hl8b : Hb l = some (.lst zs) := s8b _ _ hl8
    walk_at "rd"
    refine Wk.r_append (xs := zs) hl8b (szlt (by omega)) ?_
    generalize hws : zs ++ [V.ref tb1] = ws
    have x9 : ExP l H8 (upd Hb l (.lst ws)) := s8b.exP.trans ExP.upd
    have hl9 : upd Hb l (.lst ws) l = some (.lst ws) := upd_same
    have inv9 : ∀ v ∈ ws, BadS K l n (upd Hb l (.lst ws)) v := by
      intro v hv
      rw [← hws] at hv
      rcases List.mem_append.mp hv with h | h
      · exact (inv8 v h).exP x9
      · rw [List.mem_singleton.mp h]
        have hm : ∀ x ∈ LD, x = .int (0 - 1) := fun x hx => let ⟨i, hi⟩ := List.mem_iff_getElem?.mp hx; rD i x hi
        have hx0 : LD[0]'(by omega) ∈ LD := List.getElem_mem _
        refine BadS.exP ExP.upd (badS_tup hl8b htb1 (by rw [lenD]; omega) (fun x hx => by rw [hm x hx]; exact fun H' _ => dat8_int _) (.inr ⟨fun x hx => .inl ⟨_, hm x hx⟩, _, hx0, fun z e => ?_⟩))
        rw [hm _ hx0] at e
        cases e
        omega
    have x59 := x8.trans x9
    clear hws
    generalize upd Hb l (.lst ws) = H9 at hl9 x59 inv9 ⊢
    walk_at "rd"
    refine f_lst (a := l) (xs := ws) (fun j σ' H' => ∃ v10 v11 : Option V, σ' = [some (.ref a), some (.ref p), some (.ref ta), some (.int n), some (.ref b), some (.ref g1), some (.int at_), some (.ref rw), some c, some (.ref l), v10, v11] ∧ Same H9 H') (SqL.of hl9) (fun R' h => ?_) ⟨_, _, rfl, Same.refl _⟩ (fun j σ' H' ⟨_, _, _, s⟩ => SqL.of (s _ _ hl9)) ?_ ?_
    · walk_at "rd"
      exact h
    · rintro j y σ' Hc hy ⟨v10, v11, rfl, sc⟩ N Bk R hN hB hRt
      obtain ⟨dv, bd⟩ := inv9 y (List.mem_of_getElem? hy) Hc sc.exP
      walk_at "rd"
      refine ⟨g1, n, m, y, rfl, oB.mono (keep (x59.trans sc.exP)), dv, bd, fun Hd sd => ?_⟩
      walk_at "rd"
      exact hN _ _ ⟨_, _, rfl, sc.trans sd⟩
    · rintro σ' Hc ⟨v10, v11, rfl, sc⟩
      have s0c := keep (x59.trans sc.exP)
      walk_at "rd"
      refine ⟨g1, ta, b, n, m, o, o', rfl, by omega, oB.mono s0c, tbB.mono s0c, s0c _ _ plB, pm, fun Hd sd => ?_⟩
      exact kk _
theorem ok_law {f : Addr} {fd : FuncData} (T : Txt mg) (k__law_body : Keep P w K mg base 10 "_law_body" ["script"] (spBody K)) (F : Fun K "law" "law" s_law f fd) : FnOk P w K mg base CX0 11 f fd ["script"] (spBody K) := by
  refine F.ok sc_law (fun vs H Q E h => ?_) (fun cdv A outer s H vs Q E hr h => ?_)
  · obtain ⟨_, _, rfl, _⟩ := h
    rfl
  · obtain ⟨a, ns, rfl, hs, hlen, kk⟩ := h
    refine ⟨_, (pss_one (ps_try_thru0 (pss_one (ps_ret (pe_k k__law_body (hr.mono (by decide)) (by rfl) (pa_cons (pv 0) pa_nil)))))), ?_⟩
    walk_at "rd"
    exact ⟨a, ns, rfl, hs, hlen, kk⟩
end
end Wk
end
section
set_option Elab.async false
set_option linter.all false
set_option maxRecDepth 100000
namespace Wk
open PySem PySem.Spec PyProof.Rows L2
section
variable {K : PySem.W.Frag} {h : Heap} {mg : Str → Option Value} {C : Addr}
theorem en_Group___init__ {f : Addr} {oc kV dc pm cd ct : Value} {od an : Option Addr} {sl : Array (Option Value)} (m : PySem.W.makesIn K C = true) (kc : PySem.W.keepIn K (.ref C) = true) (a : PySem.W.findIn K (.ref C) "__init__" = some (some (.ref f))) (i : PySem.W.isFn K (.ref f) = true) (l : K.lookup f = some ⟨oc, od, .func (PySem.W.fnOf "__init__" "Group.__init__" (defArgs s_Group___init__) (defBody s_Group___init__) (defScope s_Group___init__) .none kV dc pm an cd ct), sl⟩) (c : PySem.W.codeIn K cd "Group.__init__" = true) (k : PySem.W.keepIn K (.ref f) = true) : ∃ f fd, Fun K "__init__" "Group.__init__" s_Group___init__ f fd ∧ Mk K C f ∧ Binds K fd ["self", "table"] [] ∧ KBn K fd ["self", "table"] 1 ["table"] (fun us ws => us ++ ws) (fun vs zs => vs ++ zs) :=
  ⟨f, _, fun_mk l c k, ⟨m, a, i, kc⟩, (fun_mk l c k).binds fun _ _ _ _ _ _ us hl => match us, hl with | [_, _], _ => rfl, ⟨fun s us ws _ l1 l2 => match us, ws, l1, l2 with | [_], [_], _, _ => .of_eq rfl, fun r1 r2 => r1.append r2⟩⟩
theorem en_InvalidSubset___init__ {f : Addr} {oc kV dc pm cd ct : Value} {od an : Option Addr} {sl : Array (Option Value)} (a : PySem.W.findIn K (.ref C) "__init__" = some (some (.ref f))) (t : PySem.W.typeIn K (.ref f) = some (.type "function")) (l : K.lookup f = some ⟨oc, od, .func (PySem.W.fnOf "__init__" "InvalidSubset.__init__" (defArgs s_InvalidSubset___init__) (defBody s_InvalidSubset___init__) (defScope s_InvalidSubset___init__) .none kV dc pm an cd ct), sl⟩) (c : PySem.W.codeIn K cd "InvalidSubset.__init__" = true) (k : PySem.W.keepIn K (.ref f) = true) : ∃ f fd, Fun K "__init__" "InvalidSubset.__init__" s_InvalidSubset___init__ f fd ∧ PySem.W.findIn K (.ref C) "__init__" = some (some (.ref f)) ∧ PySem.W.typeIn K (.ref f) = some (.type "function") ∧ Binds K fd ["self", "value"] [] :=
  ⟨f, _, fun_mk l c k, a, t, (fun_mk l c k).binds fun _ _ _ _ _ _ us hl => match us, hl with | [_, _], _ => rfl⟩
theorem at_is_whole {f : Addr} {oc kV dc pm cd ct : Value} {od an : Option Addr} {sl : Array (Option Value)} (X : K.In h) (G : h.Ns mainGlobals mg) (a : PySem.W.nsIn K mainGlobals "is_whole" = some (some (.ref f))) (l : K.lookup f = some ⟨oc, od, .func (PySem.W.fnOf "is_whole" "is_whole" (defArgs s_is_whole) (defBody s_is_whole) (defScope s_is_whole) .none kV dc pm an cd ct), sl⟩) (c : PySem.W.codeIn K cd "is_whole" = true) (k : PySem.W.keepIn K (.ref f) = true) : At K mg "is_whole" s_is_whole ["value"] := ⟨f, _, fun_mk l c k, PySem.W.mg_of X G a, (fun_mk l c k).binds fun _ _ _ _ _ _ us hl => match us, hl with | [_], _ => rfl⟩
theorem at_is_within {f : Addr} {oc kV dc pm cd ct : Value} {od an : Option Addr} {sl : Array (Option Value)} (X : K.In h) (G : h.Ns mainGlobals mg) (a : PySem.W.nsIn K mainGlobals "is_within" = some (some (.ref f))) (l : K.lookup f = some ⟨oc, od, .func (PySem.W.fnOf "is_within" "is_within" (defArgs s_is_within) (defBody s_is_within) (defScope s_is_within) .none kV dc pm an cd ct), sl⟩) (c : PySem.W.codeIn K cd "is_within" = true) (k : PySem.W.keepIn K (.ref f) = true) : At K mg "is_within" s_is_within ["value", "least", "most"] := ⟨f, _, fun_mk l c k, PySem.W.mg_of X G a, (fun_mk l c k).binds fun _ _ _ _ _ _ us hl => match us, hl with | [_, _, _], _ => rfl⟩
theorem at_is_sequence {f : Addr} {oc kV dc pm cd ct : Value} {od an : Option Addr} {sl : Array (Option Value)} (X : K.In h) (G : h.Ns mainGlobals mg) (a : PySem.W.nsIn K mainGlobals "is_sequence" = some (some (.ref f))) (l : K.lookup f = some ⟨oc, od, .func (PySem.W.fnOf "is_sequence" "is_sequence" (defArgs s_is_sequence) (defBody s_is_sequence) (defScope s_is_sequence) .none kV dc pm an cd ct), sl⟩) (c : PySem.W.codeIn K cd "is_sequence" = true) (k : PySem.W.keepIn K (.ref f) = true) : At K mg "is_sequence" s_is_sequence ["value"] := ⟨f, _, fun_mk l c k, PySem.W.mg_of X G a, (fun_mk l c k).binds fun _ _ _ _ _ _ us hl => match us, hl with | [_], _ => rfl⟩
theorem at_is_number_row {f : Addr} {oc kV dc pm cd ct : Value} {od an : Option Addr} {sl : Array (Option Value)} (X : K.In h) (G : h.Ns mainGlobals mg) (a : PySem.W.nsIn K mainGlobals "is_number_row" = some (some (.ref f))) (l : K.lookup f = some ⟨oc, od, .func (PySem.W.fnOf "is_number_row" "is_number_row" (defArgs s_is_number_row) (defBody s_is_number_row) (defScope s_is_number_row) .none kV dc pm an cd ct), sl⟩) (c : PySem.W.codeIn K cd "is_number_row" = true) (k : PySem.W.keepIn K (.ref f) = true) : At K mg "is_number_row" s_is_number_row ["value", "length", "bound"] := ⟨f, _, fun_mk l c k, PySem.W.mg_of X G a, (fun_mk l c k).binds fun _ _ _ _ _ _ us hl => match us, hl with | [_, _, _], _ => rfl⟩
theorem at_is_member {f : Addr} {oc kV dc pm cd ct : Value} {od an : Option Addr} {sl : Array (Option Value)} (X : K.In h) (G : h.Ns mainGlobals mg) (a : PySem.W.nsIn K mainGlobals "is_member" = some (some (.ref f))) (l : K.lookup f = some ⟨oc, od, .func (PySem.W.fnOf "is_member" "is_member" (defArgs s_is_member) (defBody s_is_member) (defScope s_is_member) .none kV dc pm an cd ct), sl⟩) (c : PySem.W.codeIn K cd "is_member" = true) (k : PySem.W.keepIn K (.ref f) = true) : At K mg "is_member" s_is_member ["group", "value"] := ⟨f, _, fun_mk l c k, PySem.W.mg_of X G a, (fun_mk l c k).binds fun _ _ _ _ _ _ us hl => match us, hl with | [_, _], _ => rfl⟩
theorem at_is_member_row {f : Addr} {oc kV dc pm cd ct : Value} {od an : Option Addr} {sl : Array (Option Value)} (X : K.In h) (G : h.Ns mainGlobals mg) (a : PySem.W.nsIn K mainGlobals "is_member_row" = some (some (.ref f))) (l : K.lookup f = some ⟨oc, od, .func (PySem.W.fnOf "is_member_row" "is_member_row" (defArgs s_is_member_row) (defBody s_is_member_row) (defScope s_is_member_row) .none kV dc pm an cd ct), sl⟩) (c : PySem.W.codeIn K cd "is_member_row" = true) (k : PySem.W.keepIn K (.ref f) = true) : At K mg "is_member_row" s_is_member_row ["group", "value", "length"] := ⟨f, _, fun_mk l c k, PySem.W.mg_of X G a, (fun_mk l c k).binds fun _ _ _ _ _ _ us hl => match us, hl with | [_, _, _], _ => rfl⟩
theorem at_require_member {f : Addr} {oc kV dc pm cd ct : Value} {od an : Option Addr} {sl : Array (Option Value)} (X : K.In h) (G : h.Ns mainGlobals mg) (a : PySem.W.nsIn K mainGlobals "require_member" = some (some (.ref f))) (l : K.lookup f = some ⟨oc, od, .func (PySem.W.fnOf "require_member" "require_member" (defArgs s_require_member) (defBody s_require_member) (defScope s_require_member) .none kV dc pm an cd ct), sl⟩) (c : PySem.W.codeIn K cd "require_member" = true) (k : PySem.W.keepIn K (.ref f) = true) : At K mg "require_member" s_require_member ["group", "value"] := ⟨f, _, fun_mk l c k, PySem.W.mg_of X G a, (fun_mk l c k).binds fun _ _ _ _ _ _ us hl => match us, hl with | [_, _], _ => rfl⟩
theorem at__judged_rows {f : Addr} {oc kV dc pm cd ct : Value} {od an : Option Addr} {sl : Array (Option Value)} (X : K.In h) (G : h.Ns mainGlobals mg) (a : PySem.W.nsIn K mainGlobals "_judged_rows" = some (some (.ref f))) (l : K.lookup f = some ⟨oc, od, .func (PySem.W.fnOf "_judged_rows" "_judged_rows" (defArgs s__judged_rows) (defBody s__judged_rows) (defScope s__judged_rows) .none kV dc pm an cd ct), sl⟩) (c : PySem.W.codeIn K cd "_judged_rows" = true) (k : PySem.W.keepIn K (.ref f) = true) : At K mg "_judged_rows" s__judged_rows ["table"] := ⟨f, _, fun_mk l c k, PySem.W.mg_of X G a, (fun_mk l c k).binds fun _ _ _ _ _ _ us hl => match us, hl with | [_], _ => rfl⟩
theorem at__is_row {f : Addr} {oc kV dc pm cd ct : Value} {od an : Option Addr} {sl : Array (Option Value)} (X : K.In h) (G : h.Ns mainGlobals mg) (a : PySem.W.nsIn K mainGlobals "_is_row" = some (some (.ref f))) (l : K.lookup f = some ⟨oc, od, .func (PySem.W.fnOf "_is_row" "_is_row" (defArgs s__is_row) (defBody s__is_row) (defScope s__is_row) .none kV dc pm an cd ct), sl⟩) (c : PySem.W.codeIn K cd "_is_row" = true) (k : PySem.W.keepIn K (.ref f) = true) : At K mg "_is_row" s__is_row ["row", "size"] := ⟨f, _, fun_mk l c k, PySem.W.mg_of X G a, (fun_mk l c k).binds fun _ _ _ _ _ _ us hl => match us, hl with | [_, _], _ => rfl⟩
theorem at__judged_neutral {f : Addr} {oc kV dc pm cd ct : Value} {od an : Option Addr} {sl : Array (Option Value)} (X : K.In h) (G : h.Ns mainGlobals mg) (a : PySem.W.nsIn K mainGlobals "_judged_neutral" = some (some (.ref f))) (l : K.lookup f = some ⟨oc, od, .func (PySem.W.fnOf "_judged_neutral" "_judged_neutral" (defArgs s__judged_neutral) (defBody s__judged_neutral) (defScope s__judged_neutral) .none kV dc pm an cd ct), sl⟩) (c : PySem.W.codeIn K cd "_judged_neutral" = true) (k : PySem.W.keepIn K (.ref f) = true) : At K mg "_judged_neutral" s__judged_neutral ["table"] := ⟨f, _, fun_mk l c k, PySem.W.mg_of X G a, (fun_mk l c k).binds fun _ _ _ _ _ _ us hl => match us, hl with | [_], _ => rfl⟩
theorem at__judged_inverses {f : Addr} {oc kV dc pm cd ct : Value} {od an : Option Addr} {sl : Array (Option Value)} (X : K.In h) (G : h.Ns mainGlobals mg) (a : PySem.W.nsIn K mainGlobals "_judged_inverses" = some (some (.ref f))) (l : K.lookup f = some ⟨oc, od, .func (PySem.W.fnOf "_judged_inverses" "_judged_inverses" (defArgs s__judged_inverses) (defBody s__judged_inverses) (defScope s__judged_inverses) .none kV dc pm an cd ct), sl⟩) (c : PySem.W.codeIn K cd "_judged_inverses" = true) (k : PySem.W.keepIn K (.ref f) = true) : At K mg "_judged_inverses" s__judged_inverses ["table", "neutral"] := ⟨f, _, fun_mk l c k, PySem.W.mg_of X G a, (fun_mk l c k).binds fun _ _ _ _ _ _ us hl => match us, hl with | [_, _], _ => rfl⟩
theorem at__judge_products {f : Addr} {oc kV dc pm cd ct : Value} {od an : Option Addr} {sl : Array (Option Value)} (X : K.In h) (G : h.Ns mainGlobals mg) (a : PySem.W.nsIn K mainGlobals "_judge_products" = some (some (.ref f))) (l : K.lookup f = some ⟨oc, od, .func (PySem.W.fnOf "_judge_products" "_judge_products" (defArgs s__judge_products) (defBody s__judge_products) (defScope s__judge_products) .none kV dc pm an cd ct), sl⟩) (c : PySem.W.codeIn K cd "_judge_products" = true) (k : PySem.W.keepIn K (.ref f) = true) : At K mg "_judge_products" s__judge_products ["table"] := ⟨f, _, fun_mk l c k, PySem.W.mg_of X G a, (fun_mk l c k).binds fun _ _ _ _ _ _ us hl => match us, hl with | [_], _ => rfl⟩
theorem at__group_of {f : Addr} {oc kV dc pm cd ct : Value} {od an : Option Addr} {sl : Array (Option Value)} (X : K.In h) (G : h.Ns mainGlobals mg) (a : PySem.W.nsIn K mainGlobals "_group_of" = some (some (.ref f))) (l : K.lookup f = some ⟨oc, od, .func (PySem.W.fnOf "_group_of" "_group_of" (defArgs s__group_of) (defBody s__group_of) (defScope s__group_of) .none kV dc pm an cd ct), sl⟩) (c : PySem.W.codeIn K cd "_group_of" = true) (k : PySem.W.keepIn K (.ref f) = true) : At K mg "_group_of" s__group_of ["members", "products"] := ⟨f, _, fun_mk l c k, PySem.W.mg_of X G a, (fun_mk l c k).binds fun _ _ _ _ _ _ us hl => match us, hl with | [_, _], _ => rfl⟩
theorem at__law_integer {f : Addr} {oc kV dc pm cd ct : Value} {od an : Option Addr} {sl : Array (Option Value)} (X : K.In h) (G : h.Ns mainGlobals mg) (a : PySem.W.nsIn K mainGlobals "_law_integer" = some (some (.ref f))) (l : K.lookup f = some ⟨oc, od, .func (PySem.W.fnOf "_law_integer" "_law_integer" (defArgs s__law_integer) (defBody s__law_integer) (defScope s__law_integer) .none kV dc pm an cd ct), sl⟩) (c : PySem.W.codeIn K cd "_law_integer" = true) (k : PySem.W.keepIn K (.ref f) = true) : At K mg "_law_integer" s__law_integer ["value"] := ⟨f, _, fun_mk l c k, PySem.W.mg_of X G a, (fun_mk l c k).binds fun _ _ _ _ _ _ us hl => match us, hl with | [_], _ => rfl⟩
theorem at__law_start {f : Addr} {oc kV dc pm cd ct : Value} {od an : Option Addr} {sl : Array (Option Value)} (X : K.In h) (G : h.Ns mainGlobals mg) (a : PySem.W.nsIn K mainGlobals "_law_start" = some (some (.ref f))) (l : K.lookup f = some ⟨oc, od, .func (PySem.W.fnOf "_law_start" "_law_start" (defArgs s__law_start) (defBody s__law_start) (defScope s__law_start) .none kV dc pm an cd ct), sl⟩) (c : PySem.W.codeIn K cd "_law_start" = true) (k : PySem.W.keepIn K (.ref f) = true) : At K mg "_law_start" s__law_start ["script"] := ⟨f, _, fun_mk l c k, PySem.W.mg_of X G a, (fun_mk l c k).binds fun _ _ _ _ _ _ us hl => match us, hl with | [_], _ => rfl⟩
theorem at__law_draw {f : Addr} {oc kV dc pm cd ct : Value} {od an : Option Addr} {sl : Array (Option Value)} (X : K.In h) (G : h.Ns mainGlobals mg) (a : PySem.W.nsIn K mainGlobals "_law_draw" = some (some (.ref f))) (l : K.lookup f = some ⟨oc, od, .func (PySem.W.fnOf "_law_draw" "_law_draw" (defArgs s__law_draw) (defBody s__law_draw) (defScope s__law_draw) .none kV dc pm an cd ct), sl⟩) (c : PySem.W.codeIn K cd "_law_draw" = true) (k : PySem.W.keepIn K (.ref f) = true) : At K mg "_law_draw" s__law_draw ["state", "limit"] := ⟨f, _, fun_mk l c k, PySem.W.mg_of X G a, (fun_mk l c k).binds fun _ _ _ _ _ _ us hl => match us, hl with | [_, _], _ => rfl⟩
theorem at__law_wide {f : Addr} {oc kV dc pm cd ct : Value} {od an : Option Addr} {sl : Array (Option Value)} (X : K.In h) (G : h.Ns mainGlobals mg) (a : PySem.W.nsIn K mainGlobals "_law_wide" = some (some (.ref f))) (l : K.lookup f = some ⟨oc, od, .func (PySem.W.fnOf "_law_wide" "_law_wide" (defArgs s__law_wide) (defBody s__law_wide) (defScope s__law_wide) .none kV dc pm an cd ct), sl⟩) (c : PySem.W.codeIn K cd "_law_wide" = true) (k : PySem.W.keepIn K (.ref f) = true) : At K mg "_law_wide" s__law_wide ["state"] := ⟨f, _, fun_mk l c k, PySem.W.mg_of X G a, (fun_mk l c k).binds fun _ _ _ _ _ _ us hl => match us, hl with | [_], _ => rfl⟩
theorem at__law_odd {f : Addr} {oc kV dc pm cd ct : Value} {od an : Option Addr} {sl : Array (Option Value)} (X : K.In h) (G : h.Ns mainGlobals mg) (a : PySem.W.nsIn K mainGlobals "_law_odd" = some (some (.ref f))) (l : K.lookup f = some ⟨oc, od, .func (PySem.W.fnOf "_law_odd" "_law_odd" (defArgs s__law_odd) (defBody s__law_odd) (defScope s__law_odd) .none kV dc pm an cd ct), sl⟩) (c : PySem.W.codeIn K cd "_law_odd" = true) (k : PySem.W.keepIn K (.ref f) = true) : At K mg "_law_odd" s__law_odd ["state"] := ⟨f, _, fun_mk l c k, PySem.W.mg_of X G a, (fun_mk l c k).binds fun _ _ _ _ _ _ us hl => match us, hl with | [_], _ => rfl⟩
theorem at__law_cyclic {f : Addr} {oc kV dc pm cd ct : Value} {od an : Option Addr} {sl : Array (Option Value)} (X : K.In h) (G : h.Ns mainGlobals mg) (a : PySem.W.nsIn K mainGlobals "_law_cyclic" = some (some (.ref f))) (l : K.lookup f = some ⟨oc, od, .func (PySem.W.fnOf "_law_cyclic" "_law_cyclic" (defArgs s__law_cyclic) (defBody s__law_cyclic) (defScope s__law_cyclic) .none kV dc pm an cd ct), sl⟩) (c : PySem.W.codeIn K cd "_law_cyclic" = true) (k : PySem.W.keepIn K (.ref f) = true) : At K mg "_law_cyclic" s__law_cyclic ["n"] := ⟨f, _, fun_mk l c k, PySem.W.mg_of X G a, (fun_mk l c k).binds fun _ _ _ _ _ _ us hl => match us, hl with | [_], _ => rfl⟩
theorem at__law_both {f : Addr} {oc kV dc pm cd ct : Value} {od an : Option Addr} {sl : Array (Option Value)} (X : K.In h) (G : h.Ns mainGlobals mg) (a : PySem.W.nsIn K mainGlobals "_law_both" = some (some (.ref f))) (l : K.lookup f = some ⟨oc, od, .func (PySem.W.fnOf "_law_both" "_law_both" (defArgs s__law_both) (defBody s__law_both) (defScope s__law_both) .none kV dc pm an cd ct), sl⟩) (c : PySem.W.codeIn K cd "_law_both" = true) (k : PySem.W.keepIn K (.ref f) = true) : At K mg "_law_both" s__law_both ["one", "other"] := ⟨f, _, fun_mk l c k, PySem.W.mg_of X G a, (fun_mk l c k).binds fun _ _ _ _ _ _ us hl => match us, hl with | [_, _], _ => rfl⟩
theorem at__law_dihedral {f : Addr} {oc kV dc pm cd ct : Value} {od an : Option Addr} {sl : Array (Option Value)} (X : K.In h) (G : h.Ns mainGlobals mg) (a : PySem.W.nsIn K mainGlobals "_law_dihedral" = some (some (.ref f))) (l : K.lookup f = some ⟨oc, od, .func (PySem.W.fnOf "_law_dihedral" "_law_dihedral" (defArgs s__law_dihedral) (defBody s__law_dihedral) (defScope s__law_dihedral) .none kV dc pm an cd ct), sl⟩) (c : PySem.W.codeIn K cd "_law_dihedral" = true) (k : PySem.W.keepIn K (.ref f) = true) : At K mg "_law_dihedral" s__law_dihedral ["n"] := ⟨f, _, fun_mk l c k, PySem.W.mg_of X G a, (fun_mk l c k).binds fun _ _ _ _ _ _ us hl => match us, hl with | [_], _ => rfl⟩
theorem at__law_permutations {f : Addr} {oc kV dc pm cd ct : Value} {od an : Option Addr} {sl : Array (Option Value)} (X : K.In h) (G : h.Ns mainGlobals mg) (a : PySem.W.nsIn K mainGlobals "_law_permutations" = some (some (.ref f))) (l : K.lookup f = some ⟨oc, od, .func (PySem.W.fnOf "_law_permutations" "_law_permutations" (defArgs s__law_permutations) (defBody s__law_permutations) (defScope s__law_permutations) .none kV dc pm an cd ct), sl⟩) (c : PySem.W.codeIn K cd "_law_permutations" = true) (k : PySem.W.keepIn K (.ref f) = true) : At K mg "_law_permutations" s__law_permutations ["k"] := ⟨f, _, fun_mk l c k, PySem.W.mg_of X G a, (fun_mk l c k).binds fun _ _ _ _ _ _ us hl => match us, hl with | [_], _ => rfl⟩
theorem at__law_symmetric {f : Addr} {oc kV dc pm cd ct : Value} {od an : Option Addr} {sl : Array (Option Value)} (X : K.In h) (G : h.Ns mainGlobals mg) (a : PySem.W.nsIn K mainGlobals "_law_symmetric" = some (some (.ref f))) (l : K.lookup f = some ⟨oc, od, .func (PySem.W.fnOf "_law_symmetric" "_law_symmetric" (defArgs s__law_symmetric) (defBody s__law_symmetric) (defScope s__law_symmetric) .none kV dc pm an cd ct), sl⟩) (c : PySem.W.codeIn K cd "_law_symmetric" = true) (k : PySem.W.keepIn K (.ref f) = true) : At K mg "_law_symmetric" s__law_symmetric ["k"] := ⟨f, _, fun_mk l c k, PySem.W.mg_of X G a, (fun_mk l c k).binds fun _ _ _ _ _ _ us hl => match us, hl with | [_], _ => rfl⟩
theorem at__law_quaternions {f : Addr} {oc kV dc pm cd ct : Value} {od an : Option Addr} {sl : Array (Option Value)} (X : K.In h) (G : h.Ns mainGlobals mg) (a : PySem.W.nsIn K mainGlobals "_law_quaternions" = some (some (.ref f))) (l : K.lookup f = some ⟨oc, od, .func (PySem.W.fnOf "_law_quaternions" "_law_quaternions" (defArgs s__law_quaternions) (defBody s__law_quaternions) (defScope s__law_quaternions) .none kV dc pm an cd ct), sl⟩) (c : PySem.W.codeIn K cd "_law_quaternions" = true) (k : PySem.W.keepIn K (.ref f) = true) : At K mg "_law_quaternions" s__law_quaternions [] := ⟨f, _, fun_mk l c k, PySem.W.mg_of X G a, (fun_mk l c k).binds fun _ _ _ _ _ _ us hl => match us, hl with | [], _ => rfl⟩
theorem at__law_mixed {f : Addr} {oc kV dc pm cd ct : Value} {od an : Option Addr} {sl : Array (Option Value)} (X : K.In h) (G : h.Ns mainGlobals mg) (a : PySem.W.nsIn K mainGlobals "_law_mixed" = some (some (.ref f))) (l : K.lookup f = some ⟨oc, od, .func (PySem.W.fnOf "_law_mixed" "_law_mixed" (defArgs s__law_mixed) (defBody s__law_mixed) (defScope s__law_mixed) .none kV dc pm an cd ct), sl⟩) (c : PySem.W.codeIn K cd "_law_mixed" = true) (k : PySem.W.keepIn K (.ref f) = true) : At K mg "_law_mixed" s__law_mixed ["state", "n"] := ⟨f, _, fun_mk l c k, PySem.W.mg_of X G a, (fun_mk l c k).binds fun _ _ _ _ _ _ us hl => match us, hl with | [_, _], _ => rfl⟩
theorem at__law_renamed {f : Addr} {oc kV dc pm cd ct : Value} {od an : Option Addr} {sl : Array (Option Value)} (X : K.In h) (G : h.Ns mainGlobals mg) (a : PySem.W.nsIn K mainGlobals "_law_renamed" = some (some (.ref f))) (l : K.lookup f = some ⟨oc, od, .func (PySem.W.fnOf "_law_renamed" "_law_renamed" (defArgs s__law_renamed) (defBody s__law_renamed) (defScope s__law_renamed) .none kV dc pm an cd ct), sl⟩) (c : PySem.W.codeIn K cd "_law_renamed" = true) (k : PySem.W.keepIn K (.ref f) = true) : At K mg "_law_renamed" s__law_renamed ["table", "order"] := ⟨f, _, fun_mk l c k, PySem.W.mg_of X G a, (fun_mk l c k).binds fun _ _ _ _ _ _ us hl => match us, hl with | [_, _], _ => rfl⟩
theorem at__law_plain_group {f : Addr} {oc kV dc pm cd ct : Value} {od an : Option Addr} {sl : Array (Option Value)} (X : K.In h) (G : h.Ns mainGlobals mg) (a : PySem.W.nsIn K mainGlobals "_law_plain_group" = some (some (.ref f))) (l : K.lookup f = some ⟨oc, od, .func (PySem.W.fnOf "_law_plain_group" "_law_plain_group" (defArgs s__law_plain_group) (defBody s__law_plain_group) (defScope s__law_plain_group) .none kV dc pm an cd ct), sl⟩) (c : PySem.W.codeIn K cd "_law_plain_group" = true) (k : PySem.W.keepIn K (.ref f) = true) : At K mg "_law_plain_group" s__law_plain_group ["state", "most"] := ⟨f, _, fun_mk l c k, PySem.W.mg_of X G a, (fun_mk l c k).binds fun _ _ _ _ _ _ us hl => match us, hl with | [_, _], _ => rfl⟩
theorem at__law_group {f : Addr} {oc kV dc pm cd ct : Value} {od an : Option Addr} {sl : Array (Option Value)} (X : K.In h) (G : h.Ns mainGlobals mg) (a : PySem.W.nsIn K mainGlobals "_law_group" = some (some (.ref f))) (l : K.lookup f = some ⟨oc, od, .func (PySem.W.fnOf "_law_group" "_law_group" (defArgs s__law_group) (defBody s__law_group) (defScope s__law_group) .none kV dc pm an cd ct), sl⟩) (c : PySem.W.codeIn K cd "_law_group" = true) (k : PySem.W.keepIn K (.ref f) = true) : At K mg "_law_group" s__law_group ["state", "most"] := ⟨f, _, fun_mk l c k, PySem.W.mg_of X G a, (fun_mk l c k).binds fun _ _ _ _ _ _ us hl => match us, hl with | [_, _], _ => rfl⟩
theorem at__law_neutral {f : Addr} {oc kV dc pm cd ct : Value} {od an : Option Addr} {sl : Array (Option Value)} (X : K.In h) (G : h.Ns mainGlobals mg) (a : PySem.W.nsIn K mainGlobals "_law_neutral" = some (some (.ref f))) (l : K.lookup f = some ⟨oc, od, .func (PySem.W.fnOf "_law_neutral" "_law_neutral" (defArgs s__law_neutral) (defBody s__law_neutral) (defScope s__law_neutral) .none kV dc pm an cd ct), sl⟩) (c : PySem.W.codeIn K cd "_law_neutral" = true) (k : PySem.W.keepIn K (.ref f) = true) : At K mg "_law_neutral" s__law_neutral ["table"] := ⟨f, _, fun_mk l c k, PySem.W.mg_of X G a, (fun_mk l c k).binds fun _ _ _ _ _ _ us hl => match us, hl with | [_], _ => rfl⟩
theorem at__law_numbers_are {f : Addr} {oc kV dc pm cd ct : Value} {od an : Option Addr} {sl : Array (Option Value)} (X : K.In h) (G : h.Ns mainGlobals mg) (a : PySem.W.nsIn K mainGlobals "_law_numbers_are" = some (some (.ref f))) (l : K.lookup f = some ⟨oc, od, .func (PySem.W.fnOf "_law_numbers_are" "_law_numbers_are" (defArgs s__law_numbers_are) (defBody s__law_numbers_are) (defScope s__law_numbers_are) .none kV dc pm an cd ct), sl⟩) (c : PySem.W.codeIn K cd "_law_numbers_are" = true) (k : PySem.W.keepIn K (.ref f) = true) : At K mg "_law_numbers_are" s__law_numbers_are ["got", "due"] := ⟨f, _, fun_mk l c k, PySem.W.mg_of X G a, (fun_mk l c k).binds fun _ _ _ _ _ _ us hl => match us, hl with | [_, _], _ => rfl⟩
theorem at__law_rows_are {f : Addr} {oc kV dc pm cd ct : Value} {od an : Option Addr} {sl : Array (Option Value)} (X : K.In h) (G : h.Ns mainGlobals mg) (a : PySem.W.nsIn K mainGlobals "_law_rows_are" = some (some (.ref f))) (l : K.lookup f = some ⟨oc, od, .func (PySem.W.fnOf "_law_rows_are" "_law_rows_are" (defArgs s__law_rows_are) (defBody s__law_rows_are) (defScope s__law_rows_are) .none kV dc pm an cd ct), sl⟩) (c : PySem.W.codeIn K cd "_law_rows_are" = true) (k : PySem.W.keepIn K (.ref f) = true) : At K mg "_law_rows_are" s__law_rows_are ["got", "due"] := ⟨f, _, fun_mk l c k, PySem.W.mg_of X G a, (fun_mk l c k).binds fun _ _ _ _ _ _ us hl => match us, hl with | [_, _], _ => rfl⟩
theorem at__law_told {f : Addr} {oc kV dc pm cd ct : Value} {od an : Option Addr} {sl : Array (Option Value)} (X : K.In h) (G : h.Ns mainGlobals mg) (a : PySem.W.nsIn K mainGlobals "_law_told" = some (some (.ref f))) (l : K.lookup f = some ⟨oc, od, .func (PySem.W.fnOf "_law_told" "_law_told" (defArgs s__law_told) (defBody s__law_told) (defScope s__law_told) .none kV dc pm an cd ct), sl⟩) (c : PySem.W.codeIn K cd "_law_told" = true) (k : PySem.W.keepIn K (.ref f) = true) : At K mg "_law_told" s__law_told ["group", "table", "order"] := ⟨f, _, fun_mk l c k, PySem.W.mg_of X G a, (fun_mk l c k).binds fun _ _ _ _ _ _ us hl => match us, hl with | [_, _, _], _ => rfl⟩
theorem at__law_refused {f : Addr} {oc kV dc pm cd ct : Value} {od an : Option Addr} {sl : Array (Option Value)} (X : K.In h) (G : h.Ns mainGlobals mg) (a : PySem.W.nsIn K mainGlobals "_law_refused" = some (some (.ref f))) (l : K.lookup f = some ⟨oc, od, .func (PySem.W.fnOf "_law_refused" "_law_refused" (defArgs s__law_refused) (defBody s__law_refused) (defScope s__law_refused) .none kV dc pm an cd ct), sl⟩) (c : PySem.W.codeIn K cd "_law_refused" = true) (k : PySem.W.keepIn K (.ref f) = true) : At K mg "_law_refused" s__law_refused ["group", "value"] := ⟨f, _, fun_mk l c k, PySem.W.mg_of X G a, (fun_mk l c k).binds fun _ _ _ _ _ _ us hl => match us, hl with | [_, _], _ => rfl⟩
theorem at__law_body {f : Addr} {oc kV dc pm cd ct : Value} {od an : Option Addr} {sl : Array (Option Value)} (X : K.In h) (G : h.Ns mainGlobals mg) (a : PySem.W.nsIn K mainGlobals "_law_body" = some (some (.ref f))) (l : K.lookup f = some ⟨oc, od, .func (PySem.W.fnOf "_law_body" "_law_body" (defArgs s__law_body) (defBody s__law_body) (defScope s__law_body) .none kV dc pm an cd ct), sl⟩) (c : PySem.W.codeIn K cd "_law_body" = true) (k : PySem.W.keepIn K (.ref f) = true) : At K mg "_law_body" s__law_body ["script"] := ⟨f, _, fun_mk l c k, PySem.W.mg_of X G a, (fun_mk l c k).binds fun _ _ _ _ _ _ us hl => match us, hl with | [_], _ => rfl⟩
theorem atb_renamed_group {f : Addr} {oc kV dc pm cd ct : Value} {od an : Option Addr} {sl : Array (Option Value)} (X : K.In h) (G : h.Ns mainGlobals mg) (a : PySem.W.nsIn K mainGlobals "renamed_group" = some (some (.ref f))) (l : K.lookup f = some ⟨oc, od, .func (PySem.W.fnOf "renamed_group" "renamed_group" (defArgs s_renamed_group) (defBody s_renamed_group) (defScope s_renamed_group) .none kV dc pm an cd ct), sl⟩) (c : PySem.W.codeIn K cd "renamed_group" = true) (k : PySem.W.keepIn K (.ref f) = true) : AtB K mg "renamed_group" s_renamed_group ["group", "order"] 1 ["order"] := ⟨f, _, fun_mk l c k, PySem.W.mg_of X G a, (fun_mk l c k).binds fun _ _ _ _ _ _ us hl => match us, hl with | [_, _], _ => rfl, ⟨fun s us ws _ l1 l2 => match us, ws, l1, l2 with | [_], [_], _, _ => .of_eq rfl, fun r1 r2 => r1.append r2⟩⟩
end

theorem all_mk {l : PySem.W.OpenLaw} {w : World} {K : PySem.W.Frag} {h : Heap} {mg : Str → Option Value} {fa f : Addr} {C CS CI CM : Addr} {tk : Tok} {nmCS qCS : Str} {NCS : Addr} {bsCS bmCS : List Value} {snCS : List Str} {subCS : List Value} {abCS : Bool} {colCS : Option Bool} {ddCS : Option Addr} {k0CS k1CS k2CS k3CS k5CS : Option Value} {oc kV dc pm cd ct : Value} {od an : Option Addr} {sl : Array (Option Value)} (X : K.In h) (G : h.Ns mainGlobals mg) (hfa : mg "law" = some (.ref fa))
    (aC : PySem.W.nsIn K mainGlobals "Group" = some (some (.ref C)))
    (nM : PySem.W.nsIn K mainGlobals "MOST_MEMBERS" = some (some (.int 48 tk)))
    (pg : PySem.W.plainGet K C Str.empty = true)
    (hd : PySem.W.hasDictIn K C = true)
    (po : PySem.W.plainOver K C = true)
    (sa : PySem.W.findIn K (.ref C) "__setattr__" = some (some (.builtin "object.__setattr__")))
    (ztable : PySem.W.findIn K (.ref C) "table" = some none)
    (zsize : PySem.W.findIn K (.ref C) "size" = some none)
    (zneutral : PySem.W.findIn K (.ref C) "neutral" = some none)
    (zinverses : PySem.W.findIn K (.ref C) "_inverses" = some none)
    (iA : PySem.W.findIn K (.ref C) "__class__" = some (some (.builtin "object.__class__")))
    (iB : PySem.W.specialIn K (.builtin "object.__class__") "__get__" = some (some (.builtin "getset_descriptor.__get__")))
    (iC : PySem.W.takesIn K (.builtin "object.__class__") = some true)
    (iD : PySem.W.mroIn K C (.type "object") = some true)
    (kC : PySem.W.isClsIn K C = true)
    (kD : PySem.W.typeIn K (.ref C) = some (.type "type"))
    (nne : PySem.W.findIn K (.ref C) "__ne__" = some (some (.builtin "object.__ne__")))
    (gCS : PySem.W.nsIn K mainGlobals "InvalidSubset" = some (some (.ref CS)))
    (tCS : PySem.W.typeIn K (.ref CS) = some (.type "type"))
    (icCS : PySem.W.isClsIn K CS = true)
    (xCS : K.lookup CS = some (excClassObj nmCS qCS CS NCS bsCS bmCS true snCS subCS abCS colCS ddCS k0CS k1CS k2CS k3CS k5CS "ValueError.__new__"))
    (rCS : PySem.HandSPX.refsVE bmCS = true)
    (sCS : PySem.W.findIn K (.ref CS) "__setattr__" = some (some (.builtin "object.__setattr__")))
    (bCS : PySem.W.subIn K (.ref CS) (.type "BaseException") = some true)
    (kCS : PySem.W.keepIn K (.ref CS) = true)
    (gaCS : PySem.W.findIn K (.ref CS) "__getattribute__" = some (some (.builtin "BaseException.__getattribute__")))
    (ggCS : PySem.W.findIn K (.ref CS) "__getattr__" = some none)
    (hCS : PySem.W.hasDictIn K CS = true)
    (haCS : PySem.W.findIn K (.ref CS) "__class__" = some (some (.builtin "object.__class__")))
    (hmCS : PySem.W.mroIn K CS (.type "object") = some true)
    (scCS : PySem.W.subIn K (.ref CS) (.ref CS) = some true)
    (nCS0 : PySem.W.findIn K (.ref CS) "value" = some none)
    (gCM : PySem.W.nsIn K mainGlobals "InvalidMap" = some (some (.ref CM)))
    (tCM : PySem.W.typeIn K (.ref CM) = some (.type "type"))
    (icCM : PySem.W.isClsIn K CM = true)
    (gCI : PySem.W.nsIn K mainGlobals "InvalidNumber" = some (some (.ref CI)))
    (tCI : PySem.W.typeIn K (.ref CI) = some (.type "type"))
    (icCI : PySem.W.isClsIn K CI = true)
    (iV : PySem.W.subIn K (.ref CS) (.type "ValueError") = some true)
    (iN1 : PySem.W.subIn K (.ref CS) (.ref CM) = some false)
    (iN2 : PySem.W.subIn K (.ref CS) (.ref CI) = some false)
    (n_list : PySem.W.nsIn K mainGlobals "list" = some none)
    (n_len : PySem.W.nsIn K mainGlobals "len" = some none)
    (n_abs : PySem.W.nsIn K mainGlobals "abs" = some none)
    (n_int : PySem.W.nsIn K mainGlobals "int" = some none)
    (n_max : PySem.W.nsIn K mainGlobals "max" = some none)
    (n_range : PySem.W.nsIn K mainGlobals "range" = some none)
    (n_tuple : PySem.W.nsIn K mainGlobals "tuple" = some none)
    (n_isinstance : PySem.W.nsIn K mainGlobals "isinstance" = some none)
    (n_bool : PySem.W.nsIn K mainGlobals "bool" = some none)
    (n_all : PySem.W.nsIn K mainGlobals "all" = some none)
    (n_enumerate : PySem.W.nsIn K mainGlobals "enumerate" = some none)
    (n_str : PySem.W.nsIn K mainGlobals "str" = some none)
    (n_set : PySem.W.nsIn K mainGlobals "set" = some none)
    (n_ValueError : PySem.W.nsIn K mainGlobals "ValueError" = some none)
    (mI : ∃ f fd, Fun K "__init__" "Group.__init__" s_Group___init__ f fd ∧ Mk K C f ∧ Binds K fd ["self", "table"] [] ∧ KBn K fd ["self", "table"] 1 ["table"] (fun us ws => us ++ ws) (fun vs zs => vs ++ zs))
    (eS : ∃ f fd, Fun K "__init__" "InvalidSubset.__init__" s_InvalidSubset___init__ f fd ∧ PySem.W.findIn K (.ref CS) "__init__" = some (some (.ref f)) ∧ PySem.W.typeIn K (.ref f) = some (.type "function") ∧ Binds K fd ["self", "value"] [])
    (a_is_whole : At K mg "is_whole" s_is_whole ["value"])
    (a_is_within : At K mg "is_within" s_is_within ["value", "least", "most"])
    (a_is_sequence : At K mg "is_sequence" s_is_sequence ["value"])
    (a_is_number_row : At K mg "is_number_row" s_is_number_row ["value", "length", "bound"])
    (a_is_member : At K mg "is_member" s_is_member ["group", "value"])
    (a_is_member_row : At K mg "is_member_row" s_is_member_row ["group", "value", "length"])
    (a_require_member : At K mg "require_member" s_require_member ["group", "value"])
    (a__judged_rows : At K mg "_judged_rows" s__judged_rows ["table"])
    (a__is_row : At K mg "_is_row" s__is_row ["row", "size"])
    (a__judged_neutral : At K mg "_judged_neutral" s__judged_neutral ["table"])
    (a__judged_inverses : At K mg "_judged_inverses" s__judged_inverses ["table", "neutral"])
    (a__judge_products : At K mg "_judge_products" s__judge_products ["table"])
    (a__group_of : At K mg "_group_of" s__group_of ["members", "products"])
    (a__law_integer : At K mg "_law_integer" s__law_integer ["value"])
    (a__law_start : At K mg "_law_start" s__law_start ["script"])
    (a__law_draw : At K mg "_law_draw" s__law_draw ["state", "limit"])
    (a__law_wide : At K mg "_law_wide" s__law_wide ["state"])
    (a__law_odd : At K mg "_law_odd" s__law_odd ["state"])
    (a__law_cyclic : At K mg "_law_cyclic" s__law_cyclic ["n"])
    (a__law_both : At K mg "_law_both" s__law_both ["one", "other"])
    (a__law_dihedral : At K mg "_law_dihedral" s__law_dihedral ["n"])
    (a__law_permutations : At K mg "_law_permutations" s__law_permutations ["k"])
    (a__law_symmetric : At K mg "_law_symmetric" s__law_symmetric ["k"])
    (a__law_quaternions : At K mg "_law_quaternions" s__law_quaternions [])
    (a__law_mixed : At K mg "_law_mixed" s__law_mixed ["state", "n"])
    (a__law_renamed : At K mg "_law_renamed" s__law_renamed ["table", "order"])
    (a__law_plain_group : At K mg "_law_plain_group" s__law_plain_group ["state", "most"])
    (a__law_group : At K mg "_law_group" s__law_group ["state", "most"])
    (a__law_neutral : At K mg "_law_neutral" s__law_neutral ["table"])
    (a__law_numbers_are : At K mg "_law_numbers_are" s__law_numbers_are ["got", "due"])
    (a__law_rows_are : At K mg "_law_rows_are" s__law_rows_are ["got", "due"])
    (a__law_told : At K mg "_law_told" s__law_told ["group", "table", "order"])
    (a__law_refused : At K mg "_law_refused" s__law_refused ["group", "value"])
    (a__law_body : At K mg "_law_body" s__law_body ["script"])
    (a_renamed_group : AtB K mg "renamed_group" s_renamed_group ["group", "order"] 1 ["order"])
    (aL : PySem.W.nsIn K mainGlobals "law" = some (some (.ref f))) (lL : K.lookup f = some ⟨oc, od, .func (PySem.W.fnOf "law" "law" (defArgs s_law) (defBody s_law) (defScope s_law) .none kV dc pm an cd ct), sl⟩) (cL : PySem.W.codeIn K cd "law" = true) (kL : PySem.W.keepIn K (.ref f) = true) :
    ∃ fd : FuncData, (∀ (s : Shared) (v : Value), BindsTo s fd ⟨[v], []⟩ [("script", v)]) ∧ ∀ base : Heap, K.In base → base.Ns mainGlobals mg → FnOk l.prog w K mg base CX0 11 fa fd ["script"] (spBody K) := by
  have e := hfa.symm.trans (PySem.W.mg_of X G aL)
  cases e
  have n_list := PySem.W.mg_none_of X G n_list
  have n_len := PySem.W.mg_none_of X G n_len
  have n_abs := PySem.W.mg_none_of X G n_abs
  have n_int := PySem.W.mg_none_of X G n_int
  have n_max := PySem.W.mg_none_of X G n_max
  have n_range := PySem.W.mg_none_of X G n_range
  have n_tuple := PySem.W.mg_none_of X G n_tuple
  have n_isinstance := PySem.W.mg_none_of X G n_isinstance
  have n_bool := PySem.W.mg_none_of X G n_bool
  have n_all := PySem.W.mg_none_of X G n_all
  have n_enumerate := PySem.W.mg_none_of X G n_enumerate
  have n_str := PySem.W.mg_none_of X G n_str
  have n_set := PySem.W.mg_none_of X G n_set
  have n_ValueError := PySem.W.mg_none_of X G n_ValueError
  have T : Txt mg := ⟨n_list, n_len, n_abs, n_int, n_max, n_range, n_tuple, n_isinstance, n_bool, n_all, n_enumerate⟩
  have TG : TxG K mg C := { T with cl := ⟨pg, hd, po, sa⟩, nT := ztable, nS := zsize, nN := zneutral, nI := zinverses, n_Group := PySem.W.mg_of X G aC, n_MOST_MEMBERS := ⟨_, PySem.W.mg_of X G nM⟩, iA := iA, iB := iB, iC := iC, iD := iD }
  have TE : TxE K mg C := { TG with kC := by rw [kD, show (PySem.W.clsIn K C).isSome = true from kC]; rfl, n_ne := nne }
  have TD : TxD K mg C := { TE with n_set := n_set }
  have OC : OexC K CS := ⟨⟨nmCS, qCS, NCS, bsCS, bmCS, snCS, subCS, abCS, colCS, ddCS, k0CS, k1CS, k2CS, k3CS, k5CS, xCS, rCS⟩, sCS, bCS, tCS, kCS⟩
  have XC : XcC K CS := ⟨gaCS, ggCS, bCS, hCS, haCS, iB, iC, hmCS⟩
  have TR : TxR K mg C CS CM CI := { TG with n_InvalidSubset := PySem.W.mg_of X G gCS, n_InvalidMap := PySem.W.mg_of X G gCM, n_InvalidNumber := PySem.W.mg_of X G gCI, n_ValueError := n_ValueError, xc := XC, te := exm_self bCS icCS tCS scCS, iV := kit_tyR (by decide +kernel) iV, iN := kitAny_cons (kit_no scCS iN1 icCM tCM) (fun _ => kitAny_cons (kit_no scCS iN2 icCI tCI) (fun _ => rfl) (fun h => h)) (fun h => h), nV := nCS0 }
  refine ⟨PySem.W.fnOf "law" "law" (defArgs s_law) (defBody s_law) (defScope s_law) .none kV dc pm an cd ct, fun s v => .of_eq rfl, fun base _ _ => ?_⟩
  obtain ⟨fI, fdI, FI, mkI, bI, kbI⟩ := mI
  obtain ⟨fE, fdE, FE, aE, tE, bE⟩ := eS
  have k_whole : Keep l.prog w K mg base 1 "is_whole" ["value"] spWhole := k_is_whole T a_is_whole
  have k_within : Keep l.prog w K mg base 2 "is_within" ["value", "least", "most"] spWithin := k_is_within T k_whole a_is_within
  have k_seq : Keep l.prog w K mg base 1 "is_sequence" ["value"] (spSeq K) := k_is_sequence T a_is_sequence
  have k_mem : Keep l.prog w K mg base 3 "is_member" ["group", "value"] (spMember K C (.bl true)) := k_is_member TG k_within a_is_member
  have k_req : Keep l.prog w K mg base 4 "require_member" ["group", "value"] (spMember K C .non) := k_require_member TG k_mem a_require_member
  have k_row : Keep l.prog w K mg base 3 "_is_row" ["row", "size"] (spRow K) := k__is_row T k_seq k_within a__is_row
  have J : Judges l.prog w K mg base := ⟨k__judged_rows TG k_seq k_row a__judged_rows, k__judged_neutral TG a__judged_neutral, k__judged_inverses TG a__judged_inverses, k__judge_products TG a__judge_products⟩
  have d_start : Keep l.prog w K mg base 1 "_law_start" ["script"] (spStart K) := k__law_start T a__law_start
  have d_draw : Keep l.prog w K mg base 1 "_law_draw" ["state", "limit"] spDraw := k__law_draw T a__law_draw
  have d_mixed := k__law_mixed T d_draw a__law_mixed
  have d_perms : Keep l.prog w K mg base 1 "_law_permutations" ["k"] (spPerms K) := k__law_permutations T a__law_permutations
  have d_ren : Keep l.prog w K mg base 1 "_law_renamed" ["table", "order"] (spRen K) := k__law_renamed T a__law_renamed
  have M : Makers l.prog w K mg base := ⟨d_draw, k__law_cyclic T a__law_cyclic, k__law_both T a__law_both, k__law_dihedral T a__law_dihedral, k__law_quaternions T a__law_quaternions, k__law_symmetric T d_perms a__law_symmetric, d_ren, d_mixed⟩
  have d_plain := k__law_plain_group T M a__law_plain_group
  have d_group := k__law_group T M d_plain a__law_group
  have k_nrow : Keep l.prog w K mg base 3 "is_number_row" ["value", "length", "bound"] (spNRow K) := k_is_number_row T k_within a_is_number_row
  have k_mrow : Keep l.prog w K mg base 4 "is_member_row" ["group", "value", "length"] (spMRow K C) := k_is_member_row TG k_nrow a_is_member_row
  have kA_whole : Keep l.prog w K mg base 1 "is_whole" ["value"] (spWholeA K) := kA_is_whole T a_is_whole
  have kA_within : Keep l.prog w K mg base 2 "is_within" ["value", "least", "most"] (spWithinA K) := kA_is_within T kA_whole a_is_within
  have kA_nrow : Keep l.prog w K mg base 3 "is_number_row" ["value", "length", "bound"] (spNRowA K) := kA_is_number_row T kA_within a_is_number_row
  have kA_mrow : Keep l.prog w K mg base 4 "is_member_row" ["group", "value", "length"] (spMRowA K C) := kA_is_member_row TG kA_nrow a_is_member_row
  have m_init : KeepC l.prog w K mg base 5 C ["self", "table"] ["table"] (spInit K C) := ⟨fI, fdI, mkI, ok_init TE J FI, bI, kbI⟩
  have k_gof : Keep l.prog w K mg base 7 "_group_of" ["members", "products"] (spGOf K C) := k__group_of TD m_init a__group_of
  have k_ren : KeepB l.prog w K mg base 8 "renamed_group" ["group", "order"] 1 ["order"] (spRenG K C) := k_renamed_group TD k_mrow k_gof a_renamed_group
  have xS : ErrF l.prog w K mg base CS ["self", "value"] (spOexI CS "value") := ⟨fE, fdE, OC, aE, tE, ok_invalidSubset OC nCS0 FE, bE⟩
  obtain ⟨fB, fdB, FB, gB, bB, kbB⟩ := id a_renamed_group
  have kX_ren : KeepX l.prog w K mg base 8 "renamed_group" ["group", "order"] (fun vs H Q E => spRenR K C CS vs H Q E ∨ spRenD K C CS vs H Q E) := ⟨fB, fdB, fnOk_or (okX_renR TD TR.n_InvalidSubset xS kA_mrow k_gof FB) (okX_renD TD TR.n_InvalidSubset xS k_mrow k_gof FB), gB, FB.kp, bB⟩
  have d_wide : Keep l.prog w K mg base 2 "_law_wide" ["state"] spWideN := k__law_wide T d_draw a__law_wide
  have d_odd : Keep l.prog w K mg base 3 "_law_odd" ["state"] (spOdd K) := k__law_odd T n_str d_draw d_wide a__law_odd
  have d_int : Keep l.prog w K mg base 1 "_law_integer" ["value"] spWhole := k__law_integer T a__law_integer
  have d_neu : Keep l.prog w K mg base 1 "_law_neutral" ["table"] (spLNeu K) := k__law_neutral T a__law_neutral
  have d_nums : Keep l.prog w K mg base 2 "_law_numbers_are" ["got", "due"] (spNums K) := k__law_numbers_are T d_int a__law_numbers_are
  have d_rows : Keep l.prog w K mg base 3 "_law_rows_are" ["got", "due"] (spTabs K) := k__law_rows_are T d_nums a__law_rows_are
  have d_told : Keep l.prog w K mg base 9 "_law_told" ["group", "table", "order"] (spTold10 K C) := k__law_told TE ⟨d_ren, k_ren, d_rows, d_neu⟩ a__law_told
  have d_ref : Keep l.prog w K mg base 9 "_law_refused" ["group", "value"] (spRef10 K C) := k__law_refused TR kX_ren a__law_refused
  have d_body := k__law_body TE ⟨d_start, d_draw, d_group, d_mixed, d_odd, d_told, d_ref, m_init⟩ a__law_body
  exact ok_law T d_body (fun_mk lL cL kL)
theorem walk {l : PySem.W.OpenLaw} {q : Program} {loose : List Str} {XP : (Str → Option Value) → Heap → Prop} {YP : World → Heap → Prop} {d : DefRec} {K : Params → PySem.W.Frag} (hn : l.most = some 63) (hdf : d.params.defaults = []) (hY : ∀ (w : World) (h : Heap), YP w h → (K w.params).In h)
    (F : ∀ (w : World) (mg : Str → Option Value) (fa : Addr) (h : Heap), (K w.params).In h → h.Ns mainGlobals mg → mg d.name = some (.ref fa) → ∃ fd : FuncData, (∀ (s : Shared) (u : Value), BindsTo s fd ⟨[u], []⟩ [("script", u)]) ∧ ∀ base : Heap, (K w.params).In base → base.Ns mainGlobals mg → FnOk l.prog w (K w.params) mg base CX0 11 fa fd ["script"] (spBody (K w.params))) :
    PySem.W.WalkO q loose XP YP l.row.toRowW d [] (fun f vs => PySem.call f vs) :=
  L2.walk_of (n := 63) (k := 11) (x := "script") (CX := fun _ => CX0) (sp := fun w => spBody (K w.params)) hn (by decide) hdf ⟨rfl, by decide, by decide⟩ hY F (fun _ _ a ns hl _ hS => ⟨a, ns, rfl, hS, hl, fun _ => rfl⟩) fun _ _ _ _ _ z => z
end Wk
end
set_option Elab.async false
set_option linter.all false
set_option maxRecDepth 100000
open PySem PySem.W PyProof.Rows
set_option maxRecDepth 100000 in
set_option maxHeartbeats 0 in
theorem PySem.Challenge.cw_sevenninths_k10_renamed_groups_holds : PySem.Challenge.rw_sevenninths_k10_renamed_groups.Holds := by
  w_on; o_law; k_head; (case hw => w_witness2)
  k_fill
  refine Wk.walk (l := PySem.Challenge.rw_sevenninths_k10_renamed_groups) rfl rfl (fun w h Y => PySem.W.kIn_of Y) ?F
  case F =>
    intro w mg fa h KX G hmg
    refine' Wk.all_mk KX G hmg ?aC ?nM ?pg ?hd ?po ?sa ?ztable ?zsize ?zneutral ?zinverses ?iA ?iB ?iC ?iD ?kC ?kD ?nne ?gCS ?tCS ?icCS ?xCS ?rCS ?sCS ?bCS ?kCS ?gaCS ?ggCS ?hCS ?haCS ?hmCS ?scCS ?nCS0 ?gCM ?tCM ?icCM ?gCI ?tCI ?icCI ?iV ?iN1 ?iN2 ?n_list ?n_len ?n_abs ?n_int ?n_max ?n_range ?n_tuple ?n_isinstance ?n_bool ?n_all ?n_enumerate ?n_str ?n_set ?n_ValueError ?mI ?eS ?a_is_whole ?a_is_within ?a_is_sequence ?a_is_number_row ?a_is_member ?a_is_member_row ?a_require_member ?a__judged_rows ?a__is_row ?a__judged_neutral ?a__judged_inverses ?a__judge_products ?a__group_of ?a__law_integer ?a__law_start ?a__law_draw ?a__law_wide ?a__law_odd ?a__law_cyclic ?a__law_both ?a__law_dihedral ?a__law_permutations ?a__law_symmetric ?a__law_quaternions ?a__law_mixed ?a__law_renamed ?a__law_plain_group ?a__law_group ?a__law_neutral ?a__law_numbers_are ?a__law_rows_are ?a__law_told ?a__law_refused ?a__law_body ?a_renamed_group ?aL ?lL ?cL ?kL
    (case aC => k_is)
    (case nM => k_is)
    (case pg => k_is)
    (case hd => k_is)
    (case po => k_is)
    (case sa => k_is)
    (case ztable => k_is)
    (case zsize => k_is)
    (case zneutral => k_is)
    (case zinverses => k_is)
    (case iA => k_is)
    (case iB => k_is)
    (case iC => k_is)
    (case iD => k_is)
    (case kC => k_is)
    (case kD => k_is)
    (case nne => k_is)
    (case gCS => k_is)
    (case tCS => k_is)
    (case icCS => k_is)
    (case xCS => k_is)
    (case rCS => first | rfl | decide +kernel)
    (case sCS => k_is)
    (case bCS => k_is)
    (case kCS => k_is)
    (case gaCS => k_is)
    (case ggCS => k_is)
    (case hCS => k_is)
    (case haCS => k_is)
    (case hmCS => k_is)
    (case scCS => k_is)
    (case nCS0 => k_is)
    (case gCM => k_is)
    (case tCM => k_is)
    (case icCM => k_is)
    (case gCI => k_is)
    (case tCI => k_is)
    (case icCI => k_is)
    (case iV => k_is)
    (case iN1 => k_is)
    (case iN2 => k_is)
    (case n_list => k_is)
    (case n_len => k_is)
    (case n_abs => k_is)
    (case n_int => k_is)
    (case n_max => k_is)
    (case n_range => k_is)
    (case n_tuple => k_is)
    (case n_isinstance => k_is)
    (case n_bool => k_is)
    (case n_all => k_is)
    (case n_enumerate => k_is)
    (case n_str => k_is)
    (case n_set => k_is)
    (case n_ValueError => k_is)
    (case mI => refine' Wk.en_Group___init__ ?x1 ?x2 ?x3 ?x4 ?x5 ?x6 ?x7; (case x1 => k_is); (case x2 => k_is); (case x3 => k_is); (case x4 => k_is); (case x5 => k_is); (case x6 => k_is); (case x7 => k_is))
    (case eS => refine' Wk.en_InvalidSubset___init__ ?x1 ?x2 ?x3 ?x4 ?x5; (case x1 => k_is); (case x2 => k_is); (case x3 => k_is); (case x4 => k_is); (case x5 => k_is))
    (case a_is_whole => refine' Wk.at_is_whole KX G ?x1 ?x2 ?x3 ?x4; (case x1 => k_is); (case x2 => k_is); (case x3 => k_is); (case x4 => k_is))
    (case a_is_within => refine' Wk.at_is_within KX G ?x1 ?x2 ?x3 ?x4; (case x1 => k_is); (case x2 => k_is); (case x3 => k_is); (case x4 => k_is))
    (case a_is_sequence => refine' Wk.at_is_sequence KX G ?x1 ?x2 ?x3 ?x4; (case x1 => k_is); (case x2 => k_is); (case x3 => k_is); (case x4 => k_is))
    (case a_is_number_row => refine' Wk.at_is_number_row KX G ?x1 ?x2 ?x3 ?x4; (case x1 => k_is); (case x2 => k_is); (case x3 => k_is); (case x4 => k_is))
    (case a_is_member => refine' Wk.at_is_member KX G ?x1 ?x2 ?x3 ?x4; (case x1 => k_is); (case x2 => k_is); (case x3 => k_is); (case x4 => k_is))
    (case a_is_member_row => refine' Wk.at_is_member_row KX G ?x1 ?x2 ?x3 ?x4; (case x1 => k_is); (case x2 => k_is); (case x3 => k_is); (case x4 => k_is))
    (case a_require_member => refine' Wk.at_require_member KX G ?x1 ?x2 ?x3 ?x4; (case x1 => k_is); (case x2 => k_is); (case x3 => k_is); (case x4 => k_is))
    (case a__judged_rows => refine' Wk.at__judged_rows KX G ?x1 ?x2 ?x3 ?x4; (case x1 => k_is); (case x2 => k_is); (case x3 => k_is); (case x4 => k_is))
    (case a__is_row => refine' Wk.at__is_row KX G ?x1 ?x2 ?x3 ?x4; (case x1 => k_is); (case x2 => k_is); (case x3 => k_is); (case x4 => k_is))
    (case a__judged_neutral => refine' Wk.at__judged_neutral KX G ?x1 ?x2 ?x3 ?x4; (case x1 => k_is); (case x2 => k_is); (case x3 => k_is); (case x4 => k_is))
    (case a__judged_inverses => refine' Wk.at__judged_inverses KX G ?x1 ?x2 ?x3 ?x4; (case x1 => k_is); (case x2 => k_is); (case x3 => k_is); (case x4 => k_is))
    (case a__judge_products => refine' Wk.at__judge_products KX G ?x1 ?x2 ?x3 ?x4; (case x1 => k_is); (case x2 => k_is); (case x3 => k_is); (case x4 => k_is))
    (case a__group_of => refine' Wk.at__group_of KX G ?x1 ?x2 ?x3 ?x4; (case x1 => k_is); (case x2 => k_is); (case x3 => k_is); (case x4 => k_is))
    (case a__law_integer => refine' Wk.at__law_integer KX G ?x1 ?x2 ?x3 ?x4; (case x1 => k_is); (case x2 => k_is); (case x3 => k_is); (case x4 => k_is))
    (case a__law_start => refine' Wk.at__law_start KX G ?x1 ?x2 ?x3 ?x4; (case x1 => k_is); (case x2 => k_is); (case x3 => k_is); (case x4 => k_is))
    (case a__law_draw => refine' Wk.at__law_draw KX G ?x1 ?x2 ?x3 ?x4; (case x1 => k_is); (case x2 => k_is); (case x3 => k_is); (case x4 => k_is))
    (case a__law_wide => refine' Wk.at__law_wide KX G ?x1 ?x2 ?x3 ?x4; (case x1 => k_is); (case x2 => k_is); (case x3 => k_is); (case x4 => k_is))
    (case a__law_odd => refine' Wk.at__law_odd KX G ?x1 ?x2 ?x3 ?x4; (case x1 => k_is); (case x2 => k_is); (case x3 => k_is); (case x4 => k_is))
    (case a__law_cyclic => refine' Wk.at__law_cyclic KX G ?x1 ?x2 ?x3 ?x4; (case x1 => k_is); (case x2 => k_is); (case x3 => k_is); (case x4 => k_is))
    (case a__law_both => refine' Wk.at__law_both KX G ?x1 ?x2 ?x3 ?x4; (case x1 => k_is); (case x2 => k_is); (case x3 => k_is); (case x4 => k_is))
    (case a__law_dihedral => refine' Wk.at__law_dihedral KX G ?x1 ?x2 ?x3 ?x4; (case x1 => k_is); (case x2 => k_is); (case x3 => k_is); (case x4 => k_is))
    (case a__law_permutations => refine' Wk.at__law_permutations KX G ?x1 ?x2 ?x3 ?x4; (case x1 => k_is); (case x2 => k_is); (case x3 => k_is); (case x4 => k_is))
    (case a__law_symmetric => refine' Wk.at__law_symmetric KX G ?x1 ?x2 ?x3 ?x4; (case x1 => k_is); (case x2 => k_is); (case x3 => k_is); (case x4 => k_is))
    (case a__law_quaternions => refine' Wk.at__law_quaternions KX G ?x1 ?x2 ?x3 ?x4; (case x1 => k_is); (case x2 => k_is); (case x3 => k_is); (case x4 => k_is))
    (case a__law_mixed => refine' Wk.at__law_mixed KX G ?x1 ?x2 ?x3 ?x4; (case x1 => k_is); (case x2 => k_is); (case x3 => k_is); (case x4 => k_is))
    (case a__law_renamed => refine' Wk.at__law_renamed KX G ?x1 ?x2 ?x3 ?x4; (case x1 => k_is); (case x2 => k_is); (case x3 => k_is); (case x4 => k_is))
    (case a__law_plain_group => refine' Wk.at__law_plain_group KX G ?x1 ?x2 ?x3 ?x4; (case x1 => k_is); (case x2 => k_is); (case x3 => k_is); (case x4 => k_is))
    (case a__law_group => refine' Wk.at__law_group KX G ?x1 ?x2 ?x3 ?x4; (case x1 => k_is); (case x2 => k_is); (case x3 => k_is); (case x4 => k_is))
    (case a__law_neutral => refine' Wk.at__law_neutral KX G ?x1 ?x2 ?x3 ?x4; (case x1 => k_is); (case x2 => k_is); (case x3 => k_is); (case x4 => k_is))
    (case a__law_numbers_are => refine' Wk.at__law_numbers_are KX G ?x1 ?x2 ?x3 ?x4; (case x1 => k_is); (case x2 => k_is); (case x3 => k_is); (case x4 => k_is))
    (case a__law_rows_are => refine' Wk.at__law_rows_are KX G ?x1 ?x2 ?x3 ?x4; (case x1 => k_is); (case x2 => k_is); (case x3 => k_is); (case x4 => k_is))
    (case a__law_told => refine' Wk.at__law_told KX G ?x1 ?x2 ?x3 ?x4; (case x1 => k_is); (case x2 => k_is); (case x3 => k_is); (case x4 => k_is))
    (case a__law_refused => refine' Wk.at__law_refused KX G ?x1 ?x2 ?x3 ?x4; (case x1 => k_is); (case x2 => k_is); (case x3 => k_is); (case x4 => k_is))
    (case a__law_body => refine' Wk.at__law_body KX G ?x1 ?x2 ?x3 ?x4; (case x1 => k_is); (case x2 => k_is); (case x3 => k_is); (case x4 => k_is))
    (case a_renamed_group => refine' Wk.atb_renamed_group KX G ?x1 ?x2 ?x3 ?x4; (case x1 => k_is); (case x2 => k_is); (case x3 => k_is); (case x4 => k_is))
    (case aL => k_is)
    (case lL => k_is)
    (case cL => k_is)
    (case kL => k_is)
#print axioms PySem.Challenge.cw_sevenninths_k10_renamed_groups_holds
