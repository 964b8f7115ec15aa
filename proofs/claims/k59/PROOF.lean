import PyProof.Rows.All
import Wide.All
import OpenK.AllK
import Wide.FinOn
import HandS.ForMost
import HandS.Wide
import HandS.Flow
import HandS.Style
import HandS.Walk
import HandS.Zip
import HandS.IsInst
import HandS.Codes
import HandS.TupLe
import KE.KOpsOwn
import HandS.ForExc
import HandS.OwnEq
import HandS.TupSets
import HandS.SetKeys
import HandS.Strs
import HandS.TupAny
import HandS.Exc
import HandS.ExcOwn
import HandS.ExcBuiltin
import HandS.RaiseMore
import HandS.Small
import HandS.List
import HandS.ExcIs
import HandS.ExcValue
import HandS.ExcInit
import HandS.ExcField
import HandS.MakeKw
import HandS.MakeKwOnly
import HandS.Evl
import PySem.Challenge.RW_onceopened_k59_errors_made_by_hand
import HandS.TryOnly
set_option Elab.async false
set_option maxRecDepth 100000
set_option maxHeartbeats 4000000
/-! the readings, one step each -/
namespace My
open PySem L2
section
variable {σ : L2.St} {H H' H'' : Hp} {D : Ends} {ta tb te : TE} {tr : TA} {ts tu : TS} {tt tt2 : TT} {i j : Nat} {a b p : Addr} {x y v : V} {Q : VK} {K : PySem.W.Frag}
theorem r_seq (h : ts { D with nx := tu D } σ H) : tSeq ts tu D σ H := h
theorem r_next (h : D.nx σ H) : tNext D σ H := h
theorem r_asg {g : TG} (h : te σ H fun x H1 => g x σ H1 D.nx) : tAsg te g D σ H := h
theorem r_gname {q : L2.St → Hp → Prop} (h : q (σ.set i (some x)) H) : gName i x σ H q := h
theorem r_drop (h : te σ H fun _ H1 => D.nx σ H1) : tDrop te D σ H := h
theorem r_ret (h : te σ H D.rt) : tRet te D σ H := h
theorem r_retN (h : D.rt .non H) : tRetN D σ H := h
theorem r_ifS (h : tt σ H fun b H1 => if b = true then ts D σ H1 else tu D σ H1) : tIfS tt ts tu D σ H := h
theorem r_if (h : tt σ H fun b H1 => if b = true then ta σ H1 Q else tb σ H1 Q) : tIf tt ta tb σ H Q := h
theorem r_op {r : R2} (h : ta σ H fun x H1 => tb σ H1 fun y H2 => r x y H2 Q) : tOp r ta tb σ H Q := h
theorem r_un {r : V → Hp → VK → Prop} (h : ta σ H fun x H1 => r x H1 Q) : tUn r ta σ H Q := h
theorem r_cb {r : List V → Hp → VK → Prop} (h : tr σ H fun vs H1 => r vs H1 Q) : tCB r tr σ H Q := h
theorem r_cons {q : List V → Hp → Prop} (h : ta σ H fun x H1 => tr σ H1 fun xs H2 => q (x :: xs) H2) : tCons ta tr σ H q := h
theorem r_nil {q : List V → Hp → Prop} (h : q [] H) : tNil σ H q := h
theorem r_var (e : σ[i]? = some (some v)) (h : Q v H) : tVar i σ H Q := ⟨v, e, h⟩
theorem r_c (h : Q v H) : tC v σ H Q := h
theorem r_test {q : Bool → Hp → Prop} (h : te σ H fun x H' => ∃ k, x = .bl k ∧ q k H') : tTest te σ H q := h
theorem r_B {q : Bool → Hp → Prop} (h : te σ H fun x H' => ∃ k, x = .bl k ∧ q k H') : tB te σ H q := h
theorem r_not {q : Bool → Hp → Prop} (h : tt σ H fun c H' => q (!c) H') : tNot tt σ H q := h
theorem r_and {q : Bool → Hp → Prop} (h : tt σ H fun c H1 => if c = true then tt2 σ H1 q else q false H1) : tAnd tt tt2 σ H q := h
theorem r_or {q : Bool → Hp → Prop} (h : tt σ H fun c H1 => if c = true then q true H1 else tt2 σ H1 q) : tOr tt tt2 σ H q := h
theorem r_andV (h : ta σ H fun x H1 => ∃ c, x = .bl c ∧ if c = true then tb σ H1 Q else Q (.bl false) H1) : tAndV ta tb σ H Q := h
theorem r_orV (h : ta σ H fun x H1 => ∃ c, x = .bl c ∧ if c = true then Q (.bl true) H1 else tb σ H1 Q) : tOrV ta tb σ H Q := h
theorem r_notV (h : ta σ H fun x H1 => ∃ c, x = .bl c ∧ Q (.bl (!c)) H1) : tNotV ta σ H Q := h
theorem r_I0 {g : Int → Int → V} {i j : Int} (h : Q (g i j) H) : rI0 g (.int i) (.int j) H Q := ⟨i, j, rfl, rfl, h⟩
theorem r_I {C : Int → Int → Prop} {g : Int → Int → V} {i j : Int} (c : C i j) (h : Q (g i j) H) : rI C g (.int i) (.int j) H Q := ⟨i, j, rfl, rfl, c, h⟩
theorem r_U {g : Int → V} {i : Int} (h : Q (g i) H) : rU g (.int i) H Q := ⟨i, rfl, h⟩
theorem r_ixL {xs : List V} {i : Int} (hp : SqL K H p xs) (hi : atI xs i = some v) (h : Q v H) : rIxL K (.ref p) (.int i) H Q := ⟨p, xs, i, v, rfl, rfl, hp, hi, h⟩
theorem r_ixT {xs : List V} {i : Int} (hp : SqT K H p xs) (hi : atI xs i = some v) (h : Q v H) : rIxT K (.ref p) (.int i) H Q := ⟨p, xs, i, v, rfl, rfl, hp, hi, h⟩
theorem r_ixS {z : Str} {i : Int} {c : Nat} (hz : z.length ≤ sizeLine) (hi : atI z.cps.toList i = some c) (h : Q (.str ⟨#[c]⟩) H) : rIxS (.str z) (.int i) H Q := ⟨z, i, c, rfl, rfl, hz, hi, h⟩
theorem r_gsub {to ti : TE} {t : TSet} {q : L2.St → Hp → Prop} (h : to σ H fun o H1 => ti σ H1 fun i H2 => t o i v H2 fun H3 => q σ H3) : gSub to ti t v σ H q := h
theorem r_setL {xs : List V} {k : Int} {q : Hp → Prop} (hp : H p = some (.lst xs)) (hj : ixN xs.length k = some j) (h : q (upd H p (.lst (xs.set j v)))) : rSetL (.ref p) (.int k) v H q := ⟨p, xs, k, j, rfl, rfl, hp, hj, h⟩
theorem r_eq (hs : scal x y = true) (h : Q (.bl (decide (x = y))) H) : rEq x y H Q := ⟨hs, h⟩
theorem r_ne (hs : scal x y = true) (h : Q (.bl (!decide (x = y))) H) : rNe x y H Q := ⟨hs, h⟩
theorem r_tup (h : tr σ H fun xs H1 => xs.length ≤ sizeLine ∧ ∀ p, H1 p = none → Q (.ref p) (upd H1 p (.tup xs))) : tTup tr σ H Q := h
theorem r_lst (h : tr σ H fun xs H1 => xs.length ≤ sizeLine ∧ ∀ p, H1 p = none → Q (.ref p) (upd H1 p (.lst xs))) : tLst tr σ H Q := h
theorem r_bm {T : String} {r : V → List V → Hp → VK → Prop} (h : ta σ H fun x H1 => tyV K T x H1 ∧ tr σ H1 fun xs H2 => r x xs H2 Q) : tBM K T r ta tr σ H Q := h
/-! tests whose outcome is open -/
theorem ite_d {c A B : Prop} [Decidable c] (h1 : c → A) (h2 : ¬ c → B) : if decide c = true then A else B := ite2 (fun h => h1 (of_decide_eq_true h)) (fun h => h2 (fun z => h (decide_eq_true z)))
theorem ite_nd {c A B : Prop} [Decidable c] (h1 : ¬ c → A) (h2 : c → B) : if (!decide c) = true then A else B := ite2 (fun h => h1 (fun z => by rw [decide_eq_true z] at h; exact Bool.noConfusion h)) (fun h => h2 (by
  by_cases z : c
  · exact z
  · rw [decide_eq_false z] at h; exact absurd rfl h))
theorem ite_dT {c A B : Prop} [Decidable c] (hc : c) (h : A) : if decide c = true then A else B := by rw [decide_eq_true hc]; exact iteT h
theorem ite_dF {c A B : Prop} [Decidable c] (hc : ¬ c) (h : B) : if decide c = true then A else B := by rw [decide_eq_false hc]; exact iteF h
theorem ite_ndT {c A B : Prop} [Decidable c] (hc : ¬ c) (h : A) : if (!decide c) = true then A else B := by rw [decide_eq_false hc]; exact iteT h
theorem ite_ndF {c A B : Prop} [Decidable c] (hc : c) (h : B) : if (!decide c) = true then A else B := by rw [decide_eq_true hc]; exact iteF h
end
/-! frames -/
/-- all that was tracked but what stands at a is as it was -/
def Kp (a : Addr) (H H' : Hp) : Prop := ∀ c o, H c = some o → c ≠ a → H' c = some o
theorem Kp.refl (a : Addr) (H : Hp) : Kp a H H := fun _ _ h _ => h
theorem Kp.trans {a : Addr} {H H1 H2 : Hp} (h : Kp a H H1) (h' : Kp a H1 H2) : Kp a H H2 := fun c o e n => h' c o (h c o e n) n
theorem Kp.at {a c : Addr} {H H' : Hp} {o : HO} (h : Kp a H H') (e : H c = some o) (n : c ≠ a) : H' c = some o := h c o e n
theorem Kp.of {a : Addr} {H H' : Hp} (h : Same H H') : Kp a H H' := fun c o e _ => h c o e
theorem Same.at {c : Addr} {H H' : Hp} {o : HO} (h : Same H H') (e : H c = some o) : H' c = some o := h c o e
theorem upd_at {H : Hp} {a b : Addr} {o u : HO} (e : H b = some u) (n : b ≠ a) : upd H a o b = some u := (upd_ne n).trans e
theorem Kp.free {a p : Addr} {H H' : Hp} (h : Kp a H H') (e : H' p = none) (n : p ≠ a) : H p = none := by
  cases q : H p with
  | none => rfl
  | some o => rw [h p o q n] at e; cases e
end My
namespace My
open PySem L2
theorem sz {n : Nat} (h : n ≤ 100000) : n ≤ sizeLine := Nat.le_trans h (by decide)
theorem szl {n : Nat} (h : n < 100000) : n < sizeLine := Nat.lt_of_lt_of_le h (by decide)
/-! calls -/
structure Cal (P : Program) (w : World) (K : PySem.W.Frag) (mg : Str → Option Value) (base : Heap) (CX : CXT) (k : Nat) (x : Str) (ps : List Str) (sp : Sp) : Prop where
  ex : ∃ (f : Addr) (fd : FuncData), FnOk P w K mg base CX k f fd ps sp ∧ mg x = some (.ref f) ∧ PySem.W.keepIn K (.ref f) = true ∧ Binds K fd ps []
def tCal (sp : Sp) (E : XK) (t : TA) : TE := fun σ H Q => t σ H fun vs H1 => sp vs H1 Q E
section
variable {X : Cx} {CX : CXT} {k : Nat} {ps : List Str} {sp : Sp} {E : XK} {x : Str} {p pos : Pos} {e : Expr} {es : List Expr} {t : TA}
theorem pe_cal (C : Cal X.prog X.w X.K X.mg X.base CX k x ps sp) (hr : Room k X.A) (hx : Passes CX X E) (ha : PA X (e :: es) t) (hg : Gl X x := by rfl)
    (hdb : (x == ("__debug__" : Str)) = false := by decide) (he : starEach (e :: es) X.env = (false, eval e X.env) :: starEach es X.env := by rfl) (hpl : (backTo pos (starEach es X.env)).any (·.1) = false := by rfl) :
    PE X (.Call (.Name x p) (e :: es) [] pos) (tCal sp E t) := by
  obtain ⟨f, fd, F, hm, hk, hb⟩ := C.ex
  have h := pe_call (p := p) (pos := pos) F hr hg hm hk hb (dvs := []) .nil hx ha hdb he hpl
  refine ⟨fun pins s σ H Q I q => h.run pins s σ H Q I ?_⟩
  have e : (fun vs H1 => sp (vs ++ []) H1 Q E) = fun vs H1 => sp vs H1 Q E := by
    funext vs H1
    rw [List.append_nil]
  show t σ H (fun vs H1 => sp (vs ++ []) H1 Q E)
  rw [e]
  exact q
theorem r_cal {σ : L2.St} {H : Hp} {Q : VK} (h : t σ H fun vs H1 => sp vs H1 Q E) : tCal sp E t σ H Q := h
end
end My
namespace My
open PySem L2
/-! built-ins with a name of their own -/
def rLenL (K : PySem.W.Frag) : List V → Hp → VK → Prop := fun vs H Q => ∃ a xs, vs = [V.ref a] ∧ SqL K H a xs ∧ Q (.int xs.length) H
def rLenT (K : PySem.W.Frag) : List V → Hp → VK → Prop := fun vs H Q => ∃ a xs, vs = [V.ref a] ∧ SqT K H a xs ∧ Q (.int xs.length) H
def rLenS : List V → Hp → VK → Prop := fun vs H Q => ∃ z : Str, vs = [V.str z] ∧ z.length ≤ sizeLine ∧ Q (.int z.length) H
def rLenD : List V → Hp → VK → Prop := fun vs H Q => ∃ a kvs, vs = [V.ref a] ∧ H a = some (.dK kvs) ∧ Q (.int kvs.length) H
def rAbs : List V → Hp → VK → Prop := fun vs H Q => ∃ i, vs = [V.int i] ∧ Q (.int (if i < 0 then -i else i)) H
def rInt : List V → Hp → VK → Prop := fun xs H Q => (∃ i, xs = [V.int i] ∧ Q (.int i) H) ∨ ∃ k, xs = [V.bl k] ∧ Q (.int (if k then 1 else 0)) H
def rList (K : PySem.W.Frag) : List V → Hp → VK → Prop := fun xs H Q => ∃ p ys, xs = [.ref p] ∧ (SqL K H p ys ∨ SqT K H p ys) ∧ ∀ l, H l = none → Q (.ref l) (upd H l (.lst ys))
def rTupL (K : PySem.W.Frag) : List V → Hp → VK → Prop := fun xs H Q => ∃ p ys, xs = [.ref p] ∧ SqL K H p ys ∧ ∀ l, H l = none → Q (.ref l) (upd H l (.tup ys))
def rTupT (K : PySem.W.Frag) : List V → Hp → VK → Prop := fun xs H Q => ∃ p ys, xs = [.ref p] ∧ SqT K H p ys ∧ Q (.ref p) H
def rJoin (K : PySem.W.Frag) : V → List V → Hp → VK → Prop := fun x xs H Q => ∃ a p, ∃ ys : List Str, x = .str a ∧ xs = [.ref p] ∧ (SqL K H p (ys.map V.str) ∨ SqT K H p (ys.map V.str)) ∧ (ys.map (·.length)).sum + ys.length * a.length ≤ 16777216 ∧ Q (.str (Txt.join a ys)) H
def rCatS : R2 := fun x y H Q => ∃ i j, x = .str i ∧ y = .str j ∧ i.length + j.length ≤ sizeLine ∧ Q (.str (i ++ j)) H
section
variable {X : Cx}
theorem c_lenL : CallR X (.builtin "len") (rLenL X.K) := fun pins s σ H xs us Q I r ⟨a, ys, e, h, q⟩ => call_len pins s σ H xs us Q I r ⟨.ref a, ys.length, e, Or.inl ⟨ys, h, rfl⟩, q⟩
theorem c_lenT : CallR X (.builtin "len") (rLenT X.K) := fun pins s σ H xs us Q I r ⟨a, ys, e, h, q⟩ => call_len pins s σ H xs us Q I r ⟨.ref a, ys.length, e, Or.inr ⟨ys, h, rfl⟩, q⟩
theorem c_lenS : CallR X (.builtin "len") rLenS := fun pins s σ H xs us Q I r ⟨z, e, h, q⟩ => call_len pins s σ H xs us Q I r ⟨.str z, z.length, e, ⟨h, rfl⟩, q⟩
theorem c_lenD : CallR X (.builtin "len") rLenD := call_lenD
theorem c_abs : CallR X (.builtin "abs") rAbs := call_abs
theorem c_int : CallR X (.type "int") rInt := call_int1
theorem c_list : CallR X (.type "list") (rList X.K) := call_list_of
theorem c_tupL : CallR X (.type "tuple") (rTupL X.K) := fun pins s σ H xs us Q I r ⟨a, ys, e, h, q⟩ => call_tuple_of pins s σ H xs us Q I r ⟨a, ys, e, Or.inl ⟨h, q⟩⟩
theorem c_tupT : CallR X (.type "tuple") (rTupT X.K) := call_tupleT
theorem m_join : MtR X "str.join" (rJoin X.K) := mt_join
theorem o_catS : OpR X (binaryOp .Add) rCatS := op_add_str
theorem pe_joinR {o e : Expr} {to te : TE} {apos pos : Pos} (ho : PE X o to) (he : PE X e te) (hs : starEach [e] X.env = [(false, eval e X.env)] := by rfl) (hbase : attributeBase o "join" X.env (eval o X.env) = eval o X.env := by rfl) (hline : (apos.endLine == pos.line) = true := by rfl) :
    PE X (.Call (.Attribute o "join" apos) [e] [] pos) (tM1 (rJoin X.K) to te) := pe_m1 PySem.F.slot_str_join PySem.F.type_str_join m_join ho he hs hbase hline
end
section
variable {σ : L2.St} {H : Hp} {Q : VK} {K : PySem.W.Frag} {a p : Addr} {xs : List V} {x y v : V} {D : Ends}
theorem r_lenL (h : SqL K H a xs) (q : Q (.int xs.length) H) : rLenL K [.ref a] H Q := ⟨a, xs, rfl, h, q⟩
theorem r_lenT (h : SqT K H a xs) (q : Q (.int xs.length) H) : rLenT K [.ref a] H Q := ⟨a, xs, rfl, h, q⟩
theorem r_lenS {z : Str} (h : z.length ≤ sizeLine) (q : Q (.int z.length) H) : rLenS [.str z] H Q := ⟨z, rfl, h, q⟩
theorem r_lenD {kvs : List (Key × V)} (h : H a = some (.dK kvs)) (q : Q (.int kvs.length) H) : rLenD [.ref a] H Q := ⟨a, kvs, rfl, h, q⟩
theorem r_abs {i : Int} (q : Q (.int (if i < 0 then -i else i)) H) : rAbs [.int i] H Q := ⟨i, rfl, q⟩
theorem r_intI {i : Int} (q : Q (.int i) H) : rInt [.int i] H Q := .inl ⟨i, rfl, q⟩
theorem r_intB {k : Bool} (q : Q (.int (if k then 1 else 0)) H) : rInt [.bl k] H Q := .inr ⟨k, rfl, q⟩
theorem r_list (h : SqL K H p xs ∨ SqT K H p xs) (q : ∀ l, H l = none → Q (.ref l) (upd H l (.lst xs))) : rList K [.ref p] H Q := ⟨p, xs, rfl, h, q⟩
theorem r_tupL (h : SqL K H p xs) (q : ∀ l, H l = none → Q (.ref l) (upd H l (.tup xs))) : rTupL K [.ref p] H Q := ⟨p, xs, rfl, h, q⟩
theorem r_tupT (h : SqT K H p xs) (q : Q (.ref p) H) : rTupT K [.ref p] H Q := ⟨p, xs, rfl, h, q⟩
theorem r_join {b : Str} {ys : List Str} (h : SqL K H p (ys.map V.str)) (l : (ys.map (·.length)).sum + ys.length * b.length ≤ 16777216) (q : Q (.str (Txt.join b ys)) H) : rJoin K (.str b) [.ref p] H Q := ⟨b, p, ys, rfl, rfl, .inl h, l, q⟩
theorem r_m1 {r : V → List V → Hp → VK → Prop} {to te : TE} (h : to σ H fun x H1 => (∃ a, x = .str a) ∧ te σ H1 fun y H2 => r x [y] H2 Q) : tM1 r to te σ H Q := h
theorem r_catS {i j : Str} (l : i.length + j.length ≤ sizeLine) (q : Q (.str (i ++ j)) H) : rCatS (.str i) (.str j) H Q := ⟨i, j, rfl, rfl, l, q⟩
theorem r_cat {l b : Addr} {xs zs : List V} (h1 : H l = some (.lst xs)) (h2 : H b = some (.lst zs)) (h3 : xs.length + zs.length ≤ sizeLine) (q : ∀ p, H p = none → Q (.ref p) (upd H p (.lst (xs ++ zs)))) : rCat (.ref l) (.ref b) H Q := ⟨l, b, xs, zs, rfl, rfl, h1, h2, h3, q⟩
theorem r_slL {lo hi : Option Int} (h : SqL K H a xs) (q : ∀ p, H p = none → Q (.ref p) (upd H p (.lst (cutV xs lo hi)))) : rSlL K (.ref a) lo hi H Q := ⟨a, xs, rfl, h, q⟩
theorem r_slS {z : Str} {lo hi : Option Int} (h : z.length ≤ sizeLine) (q : Q (.str (cutS z lo hi)) H) : rSlS (.str z) lo hi H Q := ⟨z, rfl, h, q⟩
theorem r_append {l : Addr} (h : H l = some (.lst xs)) (hl : xs.length < sizeLine) (q : Q .non (upd H l (.lst (xs ++ [y])))) : rAppend (.ref l) [y] H Q := ⟨l, xs, y, rfl, rfl, h, hl, q⟩
theorem r_all {bs : List Bool} (h : SqL K H a (bs.map V.bl)) (q : Q (.bl (bs.all id)) H) : rAll K [.ref a] H Q := ⟨a, bs, rfl, h, q⟩
theorem r_sum {ns : List Int} (h : SqL K H a (ns.map V.int)) (q : Q (.int ns.sum) H) : rSum K [.ref a] H Q := ⟨a, ns, rfl, h, q⟩
theorem r_dnewK (q : ∀ p, H p = none → Q (.ref p) (upd H p (.dK []))) : tDNewK σ H Q := q
theorem r_bmL {r : V → List V → Hp → VK → Prop} {ta : TE} {tr : TA} (h : ta σ H fun x H1 => (∃ a xs, x = .ref a ∧ H1 a = some (.lst xs)) ∧ tr σ H1 fun xs H2 => r x xs H2 Q) (mono : ∀ f g : VK, (∀ x H, f x H → g x H) → ta σ H f → ta σ H g) : tBM K "list" r ta tr σ H Q :=
  mono _ _ (fun x H1 ⟨⟨a, ys, e, ha⟩, z⟩ => ⟨by subst e; exact .inl ⟨rfl, _, SqL.of ha⟩, z⟩) h
end
/-! the box -/
/-- the box: three ints, its draws' count with the room b below a line -/
def Bx (H : Hp) (a : Addr) (b : Nat) : Prop := ∃ x y z : Int, H a = some (.lst [.int x, .int y, .int z]) ∧ 0 ≤ x ∧ 0 ≤ y ∧ y < 3000000000000000000 ∧ 0 ≤ z ∧ z + b ≤ 1000000000
theorem Bx.mono {H : Hp} {a : Addr} {b c : Nat} (h : Bx H a b) (l : c ≤ b) : Bx H a c := by
  obtain ⟨x, y, z, h1, h2, h3, h4, h5, h6⟩ := h
  exact ⟨x, y, z, h1, h2, h3, h4, h5, by omega⟩
theorem Bx.hp {H : Hp} {a : Addr} {b : Nat} (h : Bx H a b) : ∃ o, H a = some o := let ⟨_, _, _, h1, _⟩ := h; ⟨_, h1⟩
theorem Bx.ne {H : Hp} {a p : Addr} {b : Nat} (h : Bx H a b) (hp : H p = none) : a ≠ p := let ⟨_, e⟩ := h.hp; ne_of_none e hp
theorem Bx.upd {H : Hp} {a p : Addr} {b : Nat} {o : HO} (h : Bx H a b) (hp : a ≠ p) : Bx (L2.upd H p o) a b := by
  obtain ⟨x, y, z, h1, h2⟩ := h
  exact ⟨x, y, z, upd_at h1 hp, h2⟩
theorem Bx.same {H H' : Hp} {a : Addr} {b : Nat} (h : Bx H a b) (e : Same H H') : Bx H' a b := by
  obtain ⟨x, y, z, h1, h2⟩ := h
  exact ⟨x, y, z, e _ _ h1, h2⟩
end My
namespace My
open PySem L2
section
variable {σ : L2.St} {H : Hp} {Q : VK} {q : Option Int → Hp → Prop} {te : TE} {tl th : TO}
theorem r_slice {r : V → Option Int → Option Int → Hp → VK → Prop} (h : te σ H fun x H1 => tl σ H1 fun l H2 => th σ H2 fun u H3 => r x l u H3 Q) : tSl r te tl th σ H Q := h
theorem r_part (h : te σ H fun x H1 => ∃ i, x = .int i ∧ q (some i) H1) : tPart te σ H q := h
theorem r_nopart (h : q none H) : tNoPart σ H q := h
end
end My
namespace My
open PySem L2
theorem r_mulL {H : Hp} {Q : VK} {i j : Int} {g : Int → Int → V} (h : -(2 ^ 64) < i ∧ i < 2 ^ 64) (q : Q (g i j) H) : rI CMul g (.int i) (.int j) H Q := r_I (C := CMul) (Or.inl h) q
theorem r_mulR {H : Hp} {Q : VK} {i j : Int} {g : Int → Int → V} (h : -(2 ^ 64) < j ∧ j < 2 ^ 64) (q : Q (g i j) H) : rI CMul g (.int i) (.int j) H Q := r_I (C := CMul) (Or.inr h) q
end My
namespace My
open PySem L2
theorem noxK {CX : CXT} {P : Program} {w : World} {K : PySem.W.Frag} {mg : Str → Option Value} {base : Heap} {N : List Str} {qual : Str} {scope : Scope} {f : Addr} {cd : Value} {A : Around} {outer : List Env} {s : Shared} {H : Hp} {E : XK} : (cxOf CX P w K mg base N qual scope f cd A outer s H E).nox.K = K := rfl
theorem cxK {CX : CXT} {P : Program} {w : World} {K : PySem.W.Frag} {mg : Str → Option Value} {base : Heap} {N : List Str} {qual : Str} {scope : Scope} {f : Addr} {cd : Value} {A : Around} {outer : List Env} {s : Shared} {H : Hp} {E : XK} : (cxOf CX P w K mg base N qual scope f cd A outer s H E).K = K := rfl
end My
namespace My
open PySem L2
section
variable {σ : L2.St} {H : Hp} {Q : VK} {K : PySem.W.Frag} {R : It → Hp → Prop} {tl : TE} {ta : TA} {D : Ends} {wi : TI} {g : TG} {tb : TS} {a : Addr} {xs : List V} {j : Int}
theorem r_for (h : wi σ H fun J H1 => ∃ W : Nat → Nat → L2.St → Hp → Prop, (∃ m, W 0 m σ H1) ∧ ∀ i m σ H, W i m σ H →
  (J.stop i H ∧ D.nx σ H) ∨ (J.go i H ∧ ∃ N : L2.St → Hp → Prop, (∀ σ' H', N σ' H' → ∃ m', m' < m ∧ W (i + 1) m' σ' H') ∧ ∀ x H', J.yld i H x H' → g x σ H' fun σ2 H2 => tb { D with nx := N, ct := N, bk := D.nx } σ2 H2)) : tFor wi g tb D σ H := h
theorem r_lc {tt : TT} {te : TE} {vs : List Nat} (h : wi σ H fun J H1 => ∀ D, H1 D = none → ∃ W : Nat → Nat → Hp → Prop, (∃ m, W 0 m (upd H1 D (.lst []))) ∧ ∀ i m H, W i m H →
  (J.stop i H ∧ Q (.ref D) H) ∨ (J.go i H ∧ ∃ Nx : Hp → Prop, (∀ H', Nx H' → ∃ m', m' < m ∧ W (i + 1) m' H') ∧ ∀ x H', J.yld i H x H' → g x (wipe σ vs) H' fun σ2 H2 => wipe σ2 vs = wipe σ vs ∧ tt σ2 H2 fun b H3 =>
    if b = true then te σ2 H3 fun y H4 => ∃ acc, H4 D = some (.lst acc) ∧ acc.length < sizeLine ∧ Nx (upd H4 D (.lst (acc ++ [y]))) else Nx H3)) : tLc wi g tt te vs σ H Q := h
theorem r_iList (h : tl σ H fun x H1 => ∃ a, x = .ref a ∧ (∃ xs, SqL K H1 a xs) ∧ R (Itl K a) H1) : iList K tl σ H R := h
theorem r_iTup (h : tl σ H fun x H1 => ∃ a, x = .ref a ∧ (∃ xs, SqT K H1 a xs) ∧ R (Itt K a) H1) : iTup K tl σ H R := h
theorem r_wLst {B : Prop} (h : SqL K H a xs) (q : B) : (∃ xs, SqL K H a xs) ∧ B := ⟨⟨xs, h⟩, q⟩
theorem r_wTup {B : Prop} (h : SqT K H a xs) (q : B) : (∃ xs, SqT K H a xs) ∧ B := ⟨⟨xs, h⟩, q⟩
theorem r_iRng1 (h : ta σ H fun vs H1 => ∃ j : Int, vs = [.int j] ∧ -(2 ^ 62) ≤ j ∧ j < 2 ^ 62 ∧ R (Itr 0 j.toNat) H1) : iRng1 ta σ H R := h
theorem r_wRng {B : Prop} (h1 : -(2 ^ 62) ≤ j ∧ j < 2 ^ 62) (q : B) : -(2 ^ 62) ≤ j ∧ j < 2 ^ 62 ∧ B := ⟨h1.1, h1.2, q⟩
theorem r_iEnum (h : ta σ H fun vs H1 => ∃ a xs, vs = [.ref a] ∧ SqL K H1 a xs ∧ R (Ite K a) H1) : iEnum K ta σ H R := h
theorem r_orT {ta tb : TE} (h : ta σ H fun x H1 => ∃ k, TruV K x H1 k ∧ if k = true then Q x H1 else tb σ H1 Q) : tOrT K ta tb σ H Q := h
theorem r_truL {P : Bool → Prop} (h : SqL K H a xs) (q : P (!xs.isEmpty)) : ∃ k, TruV K (.ref a) H k ∧ P k := ⟨_, Or.inl ⟨xs, h, rfl⟩, q⟩
/-! slices -/
theorem cutV_to (xs : List V) (k : Nat) : cutV xs none (some (k : Int)) = xs.take k := by
  unfold cutV
  rw [HT.sIx_none, HT.sIx_nat, List.drop_zero, Nat.sub_zero]
  by_cases h : k ≤ xs.length
  · rw [Nat.min_eq_left h]
  · rw [Nat.min_eq_right (by omega), List.take_length, List.take_of_length_le (by omega)]
theorem cutV_from (xs : List V) (k : Nat) : cutV xs (some (k : Int)) none = xs.drop k := by
  unfold cutV
  rw [HT.sIx_none, HT.sIx_nat]
  by_cases h : k ≤ xs.length
  · rw [Nat.min_eq_left h, List.take_of_length_le (by rw [List.length_drop]; omega)]
  · rw [Nat.min_eq_right (by omega), List.drop_length, List.drop_of_length_le (by omega), List.take_nil]
theorem cutV_mid (xs : List V) (i j : Nat) : cutV xs (some (i : Int)) (some (j : Int)) = (xs.drop i).take (j - i) := by
  unfold cutV
  rw [HT.sIx_nat, HT.sIx_nat]
  by_cases h : i ≤ xs.length
  · rw [Nat.min_eq_left h]
    by_cases h2 : j ≤ xs.length
    · rw [Nat.min_eq_left h2]
    · rw [Nat.min_eq_right (by omega), List.take_of_length_le (i := j - i) (by rw [List.length_drop]; omega), List.take_of_length_le (by rw [List.length_drop]; omega)]
  · rw [Nat.min_eq_right (a := i) (by omega), List.drop_length, List.drop_of_length_le (by omega), List.take_nil, List.take_nil]
theorem cutS_to (z : Str) (k : Nat) : (cutS z none (some (k : Int))).cps.toList = z.cps.toList.take k := by
  have hz : z.length = z.cps.toList.length := by rw [Array.length_toList]; rfl
  show ((z.cps.toList.drop (HT.sIx z.length 0 none)).take (HT.sIx z.length z.length (some (k : Int)) - HT.sIx z.length 0 none)).toArray.toList = _
  rw [List.toList_toArray, HT.sIx_none, HT.sIx_nat, List.drop_zero, Nat.sub_zero, hz]
  by_cases h : k ≤ z.cps.toList.length
  · rw [Nat.min_eq_left h]
  · rw [Nat.min_eq_right (by omega), List.take_length, List.take_of_length_le (by omega)]
theorem cutS_from (z : Str) (k : Nat) : (cutS z (some (k : Int)) none).cps.toList = z.cps.toList.drop k := by
  have hz : z.length = z.cps.toList.length := by rw [Array.length_toList]; rfl
  show ((z.cps.toList.drop (HT.sIx z.length 0 (some (k : Int)))).take (HT.sIx z.length z.length none - HT.sIx z.length 0 (some (k : Int)))).toArray.toList = _
  rw [List.toList_toArray, HT.sIx_none, HT.sIx_nat, hz]
  by_cases h : k ≤ z.cps.toList.length
  · rw [Nat.min_eq_left h, List.take_of_length_le (by rw [List.length_drop]; omega)]
  · rw [Nat.min_eq_right (by omega), List.drop_length, List.drop_of_length_le (by omega), List.take_nil]
end
end My
namespace My
open PySem L2
section
variable {σ : L2.St} {H : Hp} {K : PySem.W.Frag} {a p : Addr} {xs : List V} {R : Prop} {S : Addr → Prop}
theorem r_exb {b : Bool} {q : Bool → Prop} (h : q b) : ∃ k, V.bl b = V.bl k ∧ q k := ⟨b, rfl, h⟩
theorem r_exi {i : Int} {q : Int → Prop} (h : q i) : ∃ k, V.int i = V.int k ∧ q k := ⟨i, rfl, h⟩
theorem r_exr {q : Addr → Prop} (h : q a) : ∃ k, V.ref a = V.ref k ∧ q k := ⟨a, rfl, h⟩
theorem r_exs {z : Str} {q : Str → Prop} (h : q z) : ∃ k, V.str z = V.str k ∧ q k := ⟨z, rfl, h⟩
theorem r_exli {i : Int} {q : Int → Prop} (h : q i) : ∃ k, [V.int i] = [V.int k] ∧ q k := ⟨i, rfl, h⟩
theorem r_strV {z : Str} (h : R) : (∃ a, V.str z = .str a) ∧ R := ⟨⟨z, rfl⟩, h⟩
theorem r_tyL (h : SqL K H p xs) (q : R) : tyV K "list" (.ref p) H ∧ R := ⟨.inl ⟨rfl, xs, h⟩, q⟩
theorem r_disp {n : Nat} (h : n ≤ 100000) (q : ∀ p, S p) : n ≤ sizeLine ∧ ∀ p, S p := ⟨sz h, q⟩
end
end My
namespace My
open PySem L2
section
variable {σ : L2.St} {H : Hp} {K : PySem.W.Frag} {a : Addr} {x : V} {xs : List V} {g : TG} {gs : TGs} {n : Nat} {Q : L2.St → Hp → Prop}
theorem r_gtup (h : SqT K H a xs) (hl : xs.length = n) (q : gs xs σ H Q) : gTup K n gs (.ref a) σ H Q := ⟨a, xs, rfl, h, hl, q⟩
theorem r_gcons (q : g x σ H fun σ' H' => gs xs σ' H' Q) : gCons g gs (x :: xs) σ H Q := ⟨x, xs, rfl, q⟩
theorem r_gnil (q : Q σ H) : gNil [] σ H Q := ⟨rfl, q⟩
theorem ite01 (k : Bool) : (0 : Int) ≤ (if k = true then 1 else 0) := by cases k <;> decide
end
end My
namespace My
open PySem L2
theorem ixN_lt {n j : Nat} (h : j < n) : ixN n (j : Int) = some j := by
  unfold ixN
  rw [if_pos (by omega), if_pos (by omega), Int.toNat_natCast]
theorem map_get {xs : List Int} {j : Nat} (h : j < xs.length) : (xs.map V.int)[j]? = some (V.int xs[j]) := by rw [List.getElem?_map, List.getElem?_eq_getElem h]; rfl
theorem map_some {α : Type} {f : α → V} {xs : List α} {i : Nat} {v : V} (h : (xs.map f)[i]? = some v) : ∃ c, v = f c ∧ xs[i]? = some c := by
  rw [List.getElem?_map] at h
  cases e : xs[i]? with
  | none => rw [e] at h; cases h
  | some c => rw [e] at h; exact ⟨c, (Option.some.inj h).symm, rfl⟩
end My
namespace My
open PySem L2
section
variable {σ : L2.St} {H : Hp} {D : Ends} {ta : TA} {i j l : Nat}
theorem r_par (h : ta σ H fun vs H1 => ∃ v w, vs = [v, w] ∧ D.nx ((σ.set i (some v)).set j (some w)) H1) : tPar i j ta D σ H := h
theorem r_par3 (h : ta σ H fun vs H1 => ∃ u v w, vs = [u, v, w] ∧ D.nx (((σ.set i (some u)).set j (some v)).set l (some w)) H1) : tPar3 i j l ta D σ H := h
theorem r_ex2 {v w : V} {q : V → V → Prop} (h : q v w) : ∃ a b, [v, w] = [a, b] ∧ q a b := ⟨v, w, rfl, h⟩
theorem r_ex3 {u v w : V} {q : V → V → V → Prop} (h : q u v w) : ∃ a b c, [u, v, w] = [a, b, c] ∧ q a b c := ⟨u, v, w, rfl, h⟩
end
end My
namespace My
open PySem L2
section
variable {K : PySem.W.Frag} {H H' : Hp} {a b p : Addr} {xs : List V} {o : HO} {n : Nat}
theorem Rd_upd {u : HO} (h : Rd H a u) (hp : H p = none) : Rd (upd H p o) a u := by
  rcases h with h | ⟨w, h⟩
  · exact .inl (upd_at h (ne_of_none h hp))
  · exact .inr ⟨w, upd_at h (ne_of_none h hp)⟩
theorem SqT.upd (h : SqT K H a xs) (hp : H p = none) : SqT K (L2.upd H p o) a xs := h.elim (fun h => .inl (Rd_upd h hp)) .inr
theorem SqL.upd (h : SqL K H a xs) (hp : H p = none) : SqL K (L2.upd H p o) a xs := h.elim (fun h => .inl (Rd_upd h hp)) .inr
theorem SqT.same (h : SqT K H a xs) (e : Same H H') : SqT K H' a xs := by
  rcases h with (h | ⟨o, h⟩) | h
  · exact .inl (.inl (e _ _ h))
  · exact .inl (.inr ⟨o, e _ _ h⟩)
  · exact .inr h
theorem SqT.kp (h : SqT K H a xs) (k : Kp b H H') (x : Bx H b n) : SqT K H' a xs := by
  obtain ⟨_, _, _, hb, _⟩ := x
  rcases h with (h | ⟨o, h⟩) | h
  · exact .inl (.inl (k _ _ h (ne_of h hb (by intro z; cases z))))
  · exact .inl (.inr ⟨o, k _ _ h (ne_of h hb (by intro z; cases z))⟩)
  · exact .inr h
theorem SqL.kp (h : SqL K H a xs) (k : Kp b H H') (ne : a ≠ b) : SqL K H' a xs := by
  rcases h with (h | ⟨o, h⟩) | h
  · exact .inl (.inl (k _ _ h ne))
  · exact .inl (.inr ⟨o, k _ _ h ne⟩)
  · exact .inr h
end
theorem perm_out {α : Type} (ys rs : List α) {j : Nat} (h : j < rs.length) : ((ys ++ [rs[j]]) ++ (rs.take j ++ rs.drop (j + 1))).Perm (ys ++ rs) := by
  rw [List.append_assoc]
  refine List.Perm.append_left ys ?_
  have e : rs = rs.take j ++ rs[j] :: rs.drop (j + 1) := by rw [List.getElem_cons_drop, List.take_append_drop]
  have e2 : ([rs[j]] ++ (rs.take j ++ rs.drop (j + 1))).Perm (rs.take j ++ rs[j] :: rs.drop (j + 1)) := by
    show (rs[j] :: (rs.take j ++ rs.drop (j + 1))).Perm _
    exact List.perm_middle.symm
  exact e2.trans (List.Perm.of_eq e.symm)
end My
namespace My
open PySem L2
section
variable {H : Hp} {Q : VK} {K : PySem.W.Frag} {x : V} {p : Addr} {T c c1 c2 : String} {b b1 b2 : Bool}
theorem r_isi (b : Bool) (ty : TyX K H x (.type T)) (e : kitB T c = some b) (q : Q (.bl b) H) : rIsi K [x, .ty c] H Q := ⟨x, .ty c, .type T, .type c, b, rfl, .ty c, ty, kit_ty e, q⟩
theorem r_isiT (b1 b2 : Bool) (ty : TyX K H x (.type T)) (hp : H p = some (.tup [.ty c1, .ty c2])) (e1 : kitB T c1 = some b1) (e2 : kitB T c2 = some b2) (q : Q (.bl (b1 || b2)) H) : rIsiT K [x, .ref p] H Q :=
  ⟨x, p, [.ty c1, .ty c2], .type T, [.type c1, .type c2], b1 || b2, rfl, hp, .cons (.ty c1) (.cons (.ty c2) .nil), ty, by
    refine kitAny_cons (kit_ty e1) (fun z => ?_) (fun z => by rw [z]; rfl)
    rw [z]
    exact kitAny_cons (kit_ty e2) (fun z => by rw [z]; exact kitAny_nil) (fun z => by rw [z]; rfl), q⟩
def rIsN : R2 := fun x y H Q => y = .non ∧ Q (.bl (decide (x = .non))) H
def rNotN : R2 := fun x y H Q => y = .non ∧ Q (.bl (!decide (x = .non))) H
theorem o_isN {X : Cx} : OpR X (compareOp .Is) rIsN := op_isN
theorem o_notN {X : Cx} : OpR X (compareOp .IsNot) rNotN := op_notN
theorem r_isN (q : Q (.bl (decide (x = .non))) H) : rIsN x .non H Q := ⟨rfl, q⟩
theorem r_notN (q : Q (.bl (!decide (x = .non))) H) : rNotN x .non H Q := ⟨rfl, q⟩
theorem tyL {K : PySem.W.Frag} {a : Addr} {xs : List V} (h : H a = some (.lst xs)) : TyX K H (.ref a) (.type "list") := .base (.lst h)
theorem tyT {K : PySem.W.Frag} {a : Addr} {xs : List V} (h : H a = some (.tup xs)) : TyX K H (.ref a) (.type "tuple") := .base (.tup h)
end
end My
namespace My
open PySem L2
theorem r_iZipA {σ : L2.St} {H : Hp} {K : PySem.W.Frag} {ta : TA} {R : It → Hp → Prop} (h : ta σ H fun vs H1 => ∃ a b xs ys, vs = [.ref a, .ref b] ∧ ((SqL K H1 a xs ∧ SqL K H1 b ys ∧ R (Itz K a b) H1) ∨ (SqT K H1 a xs ∧ SqT K H1 b ys ∧ R (RZ.ItzT K a b) H1))) : RZ.iZipA K ta σ H R := h
end My
namespace My
open PySem L2
section
variable {X : Cx}
theorem opK {f : Value → Value → Sem Value} {r : PySem.W.Frag → R2} (K : PySem.W.Frag) (h : OpR X f (r X.K)) (e : X.K = K := by rfl) : OpR X f (r K) := by subst e; exact h
theorem ixK {r : PySem.W.Frag → R2} (K : PySem.W.Frag) (h : IxR X (r X.K)) (e : X.K = K := by rfl) : IxR X (r K) := by subst e; exact h
theorem caK {f : Value} {r : PySem.W.Frag → List V → Hp → VK → Prop} (K : PySem.W.Frag) (h : CallR X f (r X.K)) (e : X.K = K := by rfl) : CallR X f (r K) := by subst e; exact h
theorem slK {r : PySem.W.Frag → V → Option Int → Option Int → Hp → VK → Prop} (K : PySem.W.Frag) (h : SlR X (r X.K)) (e : X.K = K := by rfl) : SlR X (r K) := by subst e; exact h
end
end My

namespace My
open PySem L2
abbrev cds (z : Str) : List Nat := z.cps.toList
def AllL (l : List Nat) : Prop := ∀ c ∈ l, 97 ≤ c ∧ c ≤ 122
/-- one small letter -/
def Lt1 (s : Str) : Prop := ∃ c, s = ⟨#[c]⟩ ∧ 97 ≤ c ∧ c ≤ 122
def KindS (s : Str) : Prop := 1 ≤ (cds s).length ∧ (cds s).length ≤ 8 ∧ AllL (cds s)
theorem len_cds (z : Str) : z.length = (cds z).length := by
  rw [Array.length_toList]
  rfl
theorem joinL_nil : ∀ ps : List (List Nat), TL.joinL [] ps = ps.flatten
  | [] => rfl
  | [p] => by rw [List.flatten_cons, List.flatten_nil, List.append_nil]; rfl
  | p :: q :: r => by
    rw [List.flatten_cons, ← joinL_nil (q :: r)]
    rfl
theorem cds_join (ys : List Str) : cds (Txt.join (Str.ofString "") ys) = (ys.map cds).flatten := by
  rw [TL.join_eq]
  have e := TL.tl_join (Str.ofString "") ys
  have e0 : TL.tl (Str.ofString "") = [] := by decide +kernel
  rw [e0, joinL_nil] at e
  exact e
theorem flat_len : ∀ (ys : List Str), (∀ s ∈ ys, Lt1 s) → ((ys.map cds).flatten.length = ys.length ∧ AllL (ys.map cds).flatten)
  | [], _ => ⟨rfl, fun c h => by simp at h⟩
  | y :: r, h => by
    obtain ⟨h1, h2⟩ := flat_len r fun s hs => h s (List.mem_cons_of_mem _ hs)
    obtain ⟨c, rfl, c1, c2⟩ := h y List.mem_cons_self
    rw [List.map_cons, List.flatten_cons, List.length_append, h1, List.length_cons]
    refine ⟨Nat.add_comm _ _, fun d hd => ?_⟩
    rcases List.mem_append.mp hd with hd | hd
    · have : d = c := by simpa using hd
      subst this
      exact ⟨c1, c2⟩
    · exact h2 d hd
theorem sum_len : ∀ (ys : List Str), (∀ s ∈ ys, Lt1 s) → (ys.map (·.length)).sum = ys.length
  | [], _ => rfl
  | y :: r, h => by
    obtain ⟨c, rfl, _⟩ := h y List.mem_cons_self
    rw [List.map_cons, List.sum_cons, sum_len r fun s hs => h s (List.mem_cons_of_mem _ hs), List.length_cons]
    exact Nat.add_comm 1 _
theorem letters_at : ∀ j : Nat, j < 26 → (cds (Str.ofString "abcdefghijklmnopqrstuvwxyz"))[j]? = some (97 + j) := by decide +kernel
theorem empty_len : (Str.ofString "").length = 0 := by decide +kernel
theorem letters_len : (Str.ofString "abcdefghijklmnopqrstuvwxyz").length = 26 := by decide +kernel
/-- a name as the law draws it: a letter of its own at a place that hangs on its size -/
def NameAt (w : Str) (p c : Nat) : Prop := 1 ≤ (cds w).length ∧ (cds w).length ≤ 8 ∧ (cds w)[p % (cds w).length]? = some c ∧ AllL (cds w)
theorem NameAt.kind {w : Str} {p c : Nat} (h : NameAt w p c) : KindS w := ⟨h.1, h.2.1, h.2.2.2⟩
def steps : List Nat := [1, 3, 5, 7, 9, 11, 15, 17, 19, 21, 23, 25]
theorem names_nodup {p f s : Nat} (hs : s ∈ steps) {ws : List Str} (hl : ws.length ≤ 13) (h : ∀ (k : Nat) (w : Str), ws[k]? = some w → NameAt w p (97 + (f + s * k) % 26)) : ws.Nodup := by
  refine List.pairwise_iff_getElem.mpr fun i j hi hj hij e => ?_
  have h1 := h i ws[i] (List.getElem?_eq_getElem hi)
  have h2 := h j ws[j] (List.getElem?_eq_getElem hj)
  rw [e] at h1
  have e2 := h1.2.2.1.symm.trans h2.2.2.1
  have e3 := Option.some.inj e2
  unfold steps at hs
  simp only [List.mem_cons, List.not_mem_nil, or_false] at hs
  rcases hs with rfl | rfl | rfl | rfl | rfl | rfl | rfl | rfl | rfl | rfl | rfl | rfl <;> omega
/-- a word with one letter put in -/
theorem put_letter {w w' : Str} {c p n : Nat} (hw : (cds w).length = n) (ha : AllL (cds w)) (hn : 1 ≤ n ∧ n ≤ 8) (hc : 97 ≤ c ∧ c ≤ 122) (e : cds w' = (cds w).take (p % n) ++ [c] ++ (cds w).drop (p % n + 1)) : NameAt w' p c := by
  have hp : p % n < n := Nat.mod_lt _ (by omega)
  have hl : (cds w').length = n := by
    rw [e, List.length_append, List.length_append, List.length_take, List.length_drop, hw]
    show min (p % n) n + 1 + (n - (p % n + 1)) = n
    omega
  refine ⟨by omega, by omega, ?_, fun d hd => ?_⟩
  · rw [hl, e, List.append_assoc, List.getElem?_append_right (by rw [List.length_take, hw]; omega), List.length_take, hw, Nat.min_eq_left (by omega), Nat.sub_self]
    rfl
  · rw [e] at hd
    rcases List.mem_append.mp hd with hd | hd
    · rcases List.mem_append.mp hd with hd | hd
      · exact ha d (List.mem_of_mem_take hd)
      · have : d = c := by simpa using hd
        subst this
        exact hc
    · exact ha d (List.mem_of_mem_drop hd)
theorem cds_app (a b : Str) : cds (a ++ b) = cds a ++ cds b := by
  show (a.cps ++ b.cps).toList = _
  rw [Array.toList_append]
section
variable {σ : L2.St} {H : Hp} {Q : VK}
theorem r_yes {q : Bool → Hp → Prop} (h : q true H) : tYes σ H q := h
/-- one of the letters -/
theorem r_ixSl {d : Nat} (h : d < 26 ∧ Q (.str ⟨#[97 + d]⟩) H) : rIxS (.str (Str.ofString "abcdefghijklmnopqrstuvwxyz")) (.int (d : Int)) H Q :=
  r_ixS (sz (by rw [letters_len]; decide)) (atI_nat (letters_at d h.1)) h.2
end
theorem cds_to (z : Str) (k : Nat) : cds (cutS z none (some (k : Int))) = (cds z).take k := cutS_to z k
theorem cds_from (z : Str) (k : Nat) : cds (cutS z (some (k : Int)) none) = (cds z).drop k := cutS_from z k
end My

namespace My
open PySem L2
/-! the order of texts, of pairs (text, number) -/
def sle (s t : Str) : Bool := !decide (cds t < cds s)
theorem sle_iff {s t : Str} : sle s t = true ↔ cds s ≤ cds t := by
  unfold sle
  rw [Bool.not_eq_true', decide_eq_false_iff_not, List.not_lt]
theorem sle_total (s t : Str) : sle s t = true ∨ sle t s = true := by
  rw [sle_iff, sle_iff]
  exact List.le_total _ _
theorem sle_trans {s t u : Str} (h : sle s t = true) (h' : sle t u = true) : sle s u = true := by
  rw [sle_iff] at *
  exact List.le_trans h h'
theorem str_ext {s t : Str} (h : cds s = cds t) : s = t := by
  obtain ⟨a⟩ := s
  obtain ⟨b⟩ := t
  have e : a = b := Array.toList_inj.mp h
  rw [e]
theorem sle_anti {s t : Str} (h : sle s t = true) (h' : sle t s = true) : s = t := by
  rw [sle_iff] at *
  exact str_ext (List.le_antisymm h h')
theorem sle_refl (s : Str) : sle s s = true := (sle_total s s).elim id id
def ple (p q : Str × Int) : Bool := if p.1 = q.1 then decide (p.2 ≤ q.2) else sle p.1 q.1
theorem ple_total (p q : Str × Int) : ple p q = true ∨ ple q p = true := by
  unfold ple
  by_cases e : p.1 = q.1
  · rw [if_pos e, if_pos e.symm, decide_eq_true_iff, decide_eq_true_iff]
    omega
  · rw [if_neg e, if_neg (Ne.symm e)]
    exact sle_total _ _
theorem ple_trans {p q r : Str × Int} (h : ple p q = true) (h' : ple q r = true) : ple p r = true := by
  unfold ple at *
  by_cases e : p.1 = q.1
  · rw [if_pos e, decide_eq_true_iff] at h
    by_cases e2 : q.1 = r.1
    · rw [if_pos e2, decide_eq_true_iff] at h'
      rw [if_pos (e.trans e2), decide_eq_true_iff]
      omega
    · rw [if_neg e2] at h'
      rw [if_neg (fun z => e2 (e.symm.trans z)), e]
      exact h'
  · rw [if_neg e] at h
    by_cases e2 : q.1 = r.1
    · rw [if_neg (fun z => e (z.trans e2.symm)), ← e2]
      exact h
    · rw [if_neg e2] at h'
      by_cases e3 : p.1 = r.1
      · exact absurd (sle_anti h (by rw [e3]; exact h')) e
      · rw [if_neg e3]
        exact sle_trans h h'
theorem ple_anti {p q : Str × Int} (h : ple p q = true) (h' : ple q p = true) : p = q := by
  unfold ple at *
  by_cases e : p.1 = q.1
  · rw [if_pos e, decide_eq_true_iff] at h
    rw [if_pos e.symm, decide_eq_true_iff] at h'
    exact Prod.ext e (by omega)
  · rw [if_neg e] at h
    rw [if_neg (Ne.symm e)] at h'
    exact absurd (sle_anti h h') e
/-! putting one more into a rising list -/
section
variable {α : Type} {le : α → α → Bool}
def cnt (le : α → α → Bool) (qs : List α) (p : α) : Nat := (qs.filter fun q => le q p).length
theorem put_rising (tot : ∀ p q, le p q = true ∨ le q p = true) (tr : ∀ {p q r}, le p q = true → le q r = true → le p r = true) : ∀ {qs : List α} (p : α), qs.Pairwise (fun a b => le a b = true) →
    (qs.take (cnt le qs p) ++ [p] ++ qs.drop (cnt le qs p)).Pairwise (fun a b => le a b = true) ∧ (∀ q ∈ qs.take (cnt le qs p), le q p = true) ∧ ∀ q ∈ qs.drop (cnt le qs p), le p q = true
  | [], p, _ => ⟨by simp [cnt], by simp, by simp⟩
  | q :: r, p, h => by
    obtain ⟨h1, h2⟩ := List.pairwise_cons.mp h
    by_cases c : le q p = true
    · obtain ⟨i1, i2, i3⟩ := put_rising tot tr p h2
      have e : cnt le (q :: r) p = cnt le r p + 1 := by
        unfold cnt
        rw [List.filter_cons, if_pos c, List.length_cons]
      rw [e, List.take_succ_cons, List.drop_succ_cons]
      refine ⟨?_, ?_, i3⟩
      · show (q :: (r.take (cnt le r p) ++ [p] ++ r.drop (cnt le r p))).Pairwise _
        refine List.pairwise_cons.mpr ⟨fun x hx => ?_, i1⟩
        rcases List.mem_append.mp hx with hx | hx
        · rcases List.mem_append.mp hx with hx | hx
          · exact h1 x (List.mem_of_mem_take hx)
          · have : x = p := by simpa using hx
            rw [this]
            exact c
        · exact h1 x (List.mem_of_mem_drop hx)
      · intro x hx
        rcases List.mem_cons.mp hx with rfl | hx
        · exact c
        · exact i2 x hx
    · have c' : le p q = true := (tot p q).resolve_right c
      have no : ∀ x ∈ r, ¬ le x p = true := fun x hx z => c (tr (h1 x hx) z)
      have e : cnt le (q :: r) p = 0 := by
        unfold cnt
        rw [List.filter_cons, if_neg c, List.filter_eq_nil_iff.mpr (fun x hx => no x hx)]
        rfl
      rw [e]
      refine ⟨?_, by simp, fun x hx => ?_⟩
      · show (p :: q :: r).Pairwise _
        exact List.pairwise_cons.mpr ⟨fun x hx => by
          rcases List.mem_cons.mp hx with rfl | hx
          · exact c'
          · exact tr c' (h1 x hx), h⟩
      · rcases List.mem_cons.mp hx with rfl | hx
        · exact c'
        · exact tr c' (h1 x hx)
theorem cnt_le (le : α → α → Bool) (qs : List α) (p : α) : cnt le qs p ≤ qs.length := List.length_filter_le _ _
theorem perm_in (qs : List α) (p : α) (c : Nat) : (qs.take c ++ [p] ++ qs.drop c).Perm (qs ++ [p]) := by
  have h : (qs.take c ++ [p] ++ qs.drop c).Perm ([p] ++ (qs.take c ++ qs.drop c)) := by
    rw [← List.append_assoc]
    exact List.Perm.append_right _ List.perm_append_comm
  rw [List.take_append_drop] at h
  exact h.trans List.perm_append_comm
end
/-! <= of such pairs -/
def rLeP (K : PySem.W.Frag) : R2 := fun x y H Q => ∃ (a b : Addr) (p q : Str × Int), x = .ref a ∧ y = .ref b ∧ SqT K H a [.str p.1, .int p.2] ∧ SqT K H b [.str q.1, .int q.2] ∧ Q (.bl (ple p q)) H
theorem RcOp.le_str {A : Around} {s : Shared} (a b : Str) (t u : Tok) : Ob.RcOp .LtE A s (.str a t) (.str b u) (sle a b) := fun _ _ _ _ h => PySem.P.le_str h
theorem pair_shape {p : Str × Int} {its : List Value} (r : Vals [.str p.1, .int p.2] its) : ∃ t u, its = [.str p.1 t, .int p.2 u] := by
  cases r with
  | cons r1 r =>
    cases r with
    | cons r2 r =>
      cases r
      obtain ⟨t, rfl⟩ := (show ∃ t, _ = Value.str p.1 t from r1)
      obtain ⟨u, rfl⟩ := (show ∃ t, _ = Value.int p.2 t from r2)
      exact ⟨t, u, rfl⟩
theorem o_leP {X : Cx} (hu : X.A.units < cLine) : OpR X (compareOp .LtE) (rLeP X.K) := by
  intro pins s σ H x y v u Q I rx ry h
  obtain ⟨a, b, p, q, rfl, rfl, ha, hb, q0⟩ := h
  cases rx
  cases ry
  obtain ⟨its, r1, p1, _⟩ := I.tuple ha
  obtain ⟨its2, r2, p2, _⟩ := I.tuple hb
  obtain ⟨t1, u1, rfl⟩ := pair_shape r1
  obtain ⟨t2, u2, rfl⟩ := pair_shape r2
  have R := Ob.RcOp.tuples_le (A := X.A) (s := s) (e := fun j => if j = 0 then (p.1 == q.1) else (p.2 == q.2)) (r := fun j => if j = 0 then sle p.1 q.1 else decide (p.2 ≤ q.2)) p1 p2 hu (fun j h1 h2 => by
    match j, h1, h2 with
    | 0, _, _ => exact SeqAt.EqAt.str_str _ _ _ _
    | 1, _, _ => exact SeqAt.EqAt.int_int _ _ _ _) (fun j h1 h2 _ => by
    match j, h1, h2 with
    | 0, _, _ => exact RcOp.le_str _ _ _ _
    | 1, _, _ => exact Ob.RcOp.le_int _ _ _ _)
  have e : Ob.lexAt (fun j => if j = 0 then (p.1 == q.1) else (p.2 == q.2)) (fun j => if j = 0 then sle p.1 q.1 else decide (p.2 ≤ q.2)) (decide ([Value.str p.1 t1, .int p.2 u1].toArray.size ≤ [Value.str q.1 t2, .int q.2 u2].toArray.size)) 0 (min [Value.str p.1 t1, .int p.2 u1].toArray.size [Value.str q.1 t2, .int q.2 u2].toArray.size) = ple p q := by
    show (if (p.1 == q.1) = true then (if (p.2 == q.2) = true then true else decide (p.2 ≤ q.2)) else sle p.1 q.1) = ple p q
    unfold ple
    by_cases e1 : p.1 = q.1
    · rw [if_pos (beq_iff_eq.mpr e1), if_pos e1]
      by_cases e2 : p.2 = q.2
      · rw [if_pos (beq_iff_eq.mpr e2), e2]
        exact (decide_eq_true (Int.le_refl _)).symm
      · rw [if_neg (fun z => e2 (beq_iff_eq.mp z))]
    · rw [if_neg (fun z => e1 (beq_iff_eq.mp z)), if_neg e1]
  rw [e] at R
  have z : wpAny (model X.prog X.w) X.A (compareOp .LtE (.ref a) (.ref b)) (EP X pins σ Q) X.xe s := R X.prog X.w X.xe (EP X pins σ Q) ⟨.bl _, H, I, rfl, q0⟩
  exact z
/-- a tuple of a text and a number stands there -/
def PrA (H : Hp) (x : V) (p : Str × Int) : Prop := ∃ t, x = .ref t ∧ H t = some (.tup [.str p.1, .int p.2])
theorem PrA.same {H H' : Hp} {x : V} {p : Str × Int} (h : PrA H x p) (e : Same H H') : PrA H' x p := let ⟨t, h1, h2⟩ := h; ⟨t, h1, e _ _ h2⟩
theorem PrA.all {H H' : Hp} {xs : List V} {ps : List (Str × Int)} (h : Paired (PrA H) xs ps) (e : Same H H') : Paired (PrA H') xs ps := Paired.mapP h fun _ _ z => z.same e
theorem PrA.kp {a : Addr} {b : Nat} {H H' : Hp} {x : V} {p : Str × Int} (h : PrA H x p) (e : Kp a H H') (bx : Bx H a b) : PrA H' x p := by
  obtain ⟨t, h1, h2⟩ := h
  obtain ⟨_, _, _, hb, _⟩ := bx
  exact ⟨t, h1, e _ _ h2 (ne_of h2 hb (by intro z; cases z))⟩
theorem Paired.len {α β : Type} {R : α → β → Prop} : ∀ {xs : List α} {ys : List β}, Paired R xs ys → xs.length = ys.length
  | _, _, .nil => rfl
  | _, _, .cons _ t => by rw [List.length_cons, List.length_cons, Paired.len t]
theorem Paired.at {α β : Type} {R : α → β → Prop} : ∀ {xs : List α} {ys : List β} {i : Nat} {x : α}, Paired R xs ys → xs[i]? = some x → ∃ y, ys[i]? = some y ∧ R x y
  | _, _, _, _, .nil, e => by simp at e
  | _, _, 0, _, .cons r _, e => by simp at e; subst e; exact ⟨_, rfl, r⟩
  | _, _, i + 1, x, .cons _ t, e => by
    obtain ⟨y, h1, h2⟩ := Paired.at (i := i) t (by simpa using e)
    exact ⟨y, by simpa using h1, h2⟩
theorem Paired.app {α β : Type} {R : α → β → Prop} : ∀ {xs xs' : List α} {ys ys' : List β}, Paired R xs ys → Paired R xs' ys' → Paired R (xs ++ xs') (ys ++ ys')
  | _, _, _, _, .nil, h => h
  | _, _, _, _, .cons r t, h => .cons r (Paired.app t h)
theorem Paired.tk {α β : Type} {R : α → β → Prop} : ∀ {xs : List α} {ys : List β} (n : Nat), Paired R xs ys → Paired R (xs.take n) (ys.take n)
  | _, _, 0, _ => .nil
  | _, _, _ + 1, .nil => .nil
  | _, _, n + 1, .cons r t => .cons r (Paired.tk n t)
theorem Paired.dr {α β : Type} {R : α → β → Prop} : ∀ {xs : List α} {ys : List β} (n : Nat), Paired R xs ys → Paired R (xs.drop n) (ys.drop n)
  | _, _, 0, h => h
  | _, _, _ + 1, .nil => .nil
  | _, _, n + 1, .cons _ t => Paired.dr n t
end My
namespace My
open PySem L2
theorem filter_take {α : Type} {f : α → Bool} {qs : List α} {j : Nat} {r : α} (h : qs[j]? = some r) : ((qs.take (j + 1)).filter f).length = ((qs.take j).filter f).length + (if f r = true then 1 else 0) := by
  rw [List.take_add_one, h, List.filter_append, List.length_append]
  congr 1
  show ([r].filter f).length = _
  rw [List.filter_cons]
  split <;> rfl
theorem r_leP {H : Hp} {Q : VK} {K : PySem.W.Frag} {a b : Addr} {p q : Str × Int} (ha : SqT K H a [.str p.1, .int p.2]) (hb : SqT K H b [.str q.1, .int q.2]) (h : Q (.bl (ple p q)) H) : rLeP K (.ref a) (.ref b) H Q := ⟨a, b, p, q, rfl, rfl, ha, hb, h⟩
end My

namespace My
open PySem L2
/-! a dict of texts to numbers, as its pairs -/
abbrev AL := List (Str × Int)
def enc (m : AL) : List (Key × V) := m.map fun p => (Sum.inr p.1, V.int p.2)
def look (m : AL) (k : Str) : Option Int := (m.find? fun p => decide (p.1 = k)).map (·.2)
def put (m : AL) (k : Str) (n : Int) : AL := if (m.any fun p => decide (p.1 = k)) = true then m.map (fun p => if p.1 = k then (p.1, n) else p) else m ++ [(k, n)]
def get (m : AL) (k : Str) : Int := (look m k).getD 0
def keys (m : AL) : List Str := m.map (·.1)
theorem enc_len (m : AL) : (enc m).length = m.length := List.length_map _
theorem inr_eq {a b : Str} : decide ((Sum.inr a : Key) = Sum.inr b) = decide (a = b) := key_rr a b
theorem enc_look : ∀ (m : AL) (k : Str), valV (enc m) (Sum.inr k) = (look m k).map V.int
  | [], _ => rfl
  | p :: r, k => by
    show valV ((Sum.inr p.1, V.int p.2) :: enc r) (Sum.inr k) = (look (p :: r) k).map V.int
    by_cases e : p.1 = k
    · rw [valV_pos (by rw [e])]
      unfold look
      rw [List.find?_cons, decide_eq_true e]
      rfl
    · rw [valV_neg (fun z => e (Sum.inr.inj z)), enc_look r k]
      unfold look
      rw [List.find?_cons, decide_eq_false e]
theorem enc_any (m : AL) (k : Str) : ((enc m).any fun kv => decide (kv.1 = (Sum.inr k : Key))) = (m.any fun p => decide (p.1 = k)) := by
  unfold enc
  rw [List.any_map]
  congr 1
  funext p
  exact inr_eq
theorem enc_put (m : AL) (k : Str) (n : Int) : putK (enc m) (Sum.inr k) (V.int n) = enc (put m k n) := by
  unfold putK put
  rw [enc_any]
  split
  · unfold enc
    rw [List.map_map, List.map_map]
    congr 1
    funext p
    show (if (Sum.inr p.1 : Key) = Sum.inr k then ((Sum.inr p.1 : Key), V.int n) else ((Sum.inr p.1 : Key), V.int p.2)) = _
    by_cases e : p.1 = k
    · rw [if_pos (by rw [e])]
      show _ = (Sum.inr (if p.1 = k then (p.1, n) else p).1, V.int (if p.1 = k then (p.1, n) else p).2)
      rw [if_pos e]
    · rw [if_neg (fun z => e (Sum.inr.inj z))]
      show _ = (Sum.inr (if p.1 = k then (p.1, n) else p).1, V.int (if p.1 = k then (p.1, n) else p).2)
      rw [if_neg e]
  · unfold enc
    rw [List.map_append]
    rfl
theorem look_cons (p : Str × Int) (r : AL) (k : Str) : look (p :: r) k = if p.1 = k then some p.2 else look r k := by
  unfold look
  rw [List.find?_cons]
  by_cases e : p.1 = k
  · rw [decide_eq_true e, if_pos e]
    rfl
  · rw [decide_eq_false e, if_neg e]
theorem look_none : ∀ {m : AL} {k : Str}, look m k = none ↔ k ∉ keys m
  | [], _ => by simp [look, keys]
  | p :: r, k => by
    rw [look_cons]
    show _ ↔ k ∉ p.1 :: keys r
    by_cases e : p.1 = k
    · rw [if_pos e, e]
      simp
    · rw [if_neg e, look_none, List.mem_cons, not_or]
      exact ⟨fun h => ⟨Ne.symm e, h⟩, fun h => h.2⟩
theorem any_look (m : AL) (k : Str) : (m.any fun p => decide (p.1 = k)) = true ↔ k ∈ keys m := by
  rw [List.any_eq_true]
  constructor
  · rintro ⟨p, hp, e⟩
    exact List.mem_map.mpr ⟨p, hp, of_decide_eq_true e⟩
  · intro h
    obtain ⟨p, hp, e⟩ := List.mem_map.mp h
    exact ⟨p, hp, decide_eq_true e⟩
theorem keys_put (m : AL) (k : Str) (n : Int) : keys (put m k n) = if k ∈ keys m then keys m else keys m ++ [k] := by
  unfold put
  by_cases h : k ∈ keys m
  · rw [if_pos ((any_look m k).mpr h), if_pos h]
    unfold keys
    rw [List.map_map]
    congr 1
    funext p
    show (if p.1 = k then (p.1, n) else p).1 = p.1
    split <;> rfl
  · rw [if_neg (fun z => h ((any_look m k).mp z)), if_neg h]
    unfold keys
    rw [List.map_append]
    rfl
theorem put_nodup {m : AL} {k : Str} {n : Int} (h : (keys m).Nodup) : (keys (put m k n)).Nodup := by
  rw [keys_put]
  split
  · exact h
  · exact nd_snoc h (by assumption)
theorem put_len (m : AL) (k : Str) (n : Int) : (put m k n).length ≤ m.length + 1 := by
  have e : (put m k n).length = (keys (put m k n)).length := (List.length_map _).symm
  rw [e, keys_put]
  have e2 : (keys m).length = m.length := List.length_map _
  split
  · omega
  · rw [List.length_append]
    show (keys m).length + 1 ≤ _
    omega
theorem look_map (m : AL) (k j : Str) (n : Int) : look (m.map (fun p => if p.1 = k then (p.1, n) else p)) j = if j = k then (if k ∈ keys m then some n else none) else look m j := by
  induction m with
  | nil =>
    show none = _
    split
    · rw [if_neg (by simp [keys])]
    · rfl
  | cons p r ih =>
    rw [List.map_cons, look_cons, ih, look_cons]
    show (if (if p.1 = k then (p.1, n) else p).1 = j then some (if p.1 = k then (p.1, n) else p).2 else _) = if j = k then (if k ∈ p.1 :: keys r then some n else none) else _
    by_cases e : p.1 = k
    · rw [if_pos e]
      by_cases ej : j = k
      · subst ej
        rw [if_pos e, if_pos rfl, if_pos (by rw [e]; exact List.mem_cons_self)]
      · rw [if_neg (fun z : p.1 = j => ej (z.symm.trans e)), if_neg ej, if_neg ej, if_neg (fun z : p.1 = j => ej (z.symm.trans e))]
    · rw [if_neg e]
      by_cases ej : j = k
      · subst ej
        rw [if_neg e, if_pos rfl, if_pos rfl]
        by_cases hk : j ∈ keys r
        · rw [if_pos hk, if_pos (List.mem_cons_of_mem _ hk)]
        · rw [if_neg hk, if_neg (fun z => (List.mem_cons.mp z).elim (fun q => e q.symm) hk)]
      · rw [if_neg ej, if_neg ej]
theorem look_app (m : AL) (k j : Str) (n : Int) : look (m ++ [(k, n)]) j = (look m j).or (if k = j then some n else none) := by
  induction m with
  | nil =>
    show look [(k, n)] j = _
    rw [look_cons]
    rfl
  | cons p r ih =>
    rw [List.cons_append, look_cons, ih, look_cons]
    split <;> rfl
theorem look_put (m : AL) (k j : Str) (n : Int) : look (put m k n) j = if j = k then some n else look m j := by
  unfold put
  by_cases h : k ∈ keys m
  · rw [if_pos ((any_look m k).mpr h), look_map, if_pos h]
  · rw [if_neg (fun z => h ((any_look m k).mp z)), look_app]
    by_cases e : j = k
    · subst e
      rw [look_none.mpr h, if_pos rfl]
      rfl
    · rw [if_neg (Ne.symm e), if_neg e]
      cases look m j <;> rfl
theorem get_put (m : AL) (k j : Str) (n : Int) : get (put m k n) j = if j = k then n else get m j := by
  unfold get
  rw [look_put]
  split <;> rfl
theorem look_mem : ∀ {m : AL} {k : Str} {n : Int}, (keys m).Nodup → (look m k = some n ↔ (k, n) ∈ m)
  | [], _, _, _ => by simp [look]
  | p :: r, k, n, h => by
    obtain ⟨h1, h2⟩ := List.nodup_cons.mp (show (p.1 :: keys r).Nodup from h)
    rw [look_cons]
    by_cases e : p.1 = k
    · rw [if_pos e, List.mem_cons]
      constructor
      · intro z
        left
        have z := Option.some.inj z
        exact Prod.ext e.symm z.symm
      · rintro (z | z)
        · rw [← z]
        · exact absurd (List.mem_map.mpr ⟨_, z, rfl⟩ : k ∈ keys r) (by rw [← e]; exact h1)
    · rw [if_neg e, look_mem h2, List.mem_cons]
      exact ⟨.inr, fun z => z.resolve_left fun q => e (by rw [← q])⟩
theorem nodup_of_keys {m : AL} (h : (keys m).Nodup) : m.Nodup := List.Pairwise.of_map (fun p => p.1) (fun _ _ q z => q (by rw [z])) h
/-- the pairs above 0 -/
def pos (m : AL) : AL := m.filter fun p => decide (0 < p.2)
theorem mem_pos {m : AL} (h : (keys m).Nodup) {k : Str} {n : Int} : (k, n) ∈ pos m ↔ get m k = n ∧ 0 < n := by
  unfold pos
  rw [List.mem_filter, ← look_mem h]
  unfold get
  constructor
  · rintro ⟨h1, h2⟩
    rw [h1]
    exact ⟨rfl, of_decide_eq_true h2⟩
  · rintro ⟨h1, h2⟩
    cases e : look m k with
    | none => rw [e] at h1; have : (0 : Int) = n := h1; omega
    | some v =>
      rw [e] at h1
      have : v = n := h1
      rw [this]
      exact ⟨rfl, decide_eq_true h2⟩
theorem pos_perm {m m' : AL} (h : (keys m).Nodup) (h' : (keys m').Nodup) (e : ∀ k, 0 < get m k ∨ 0 < get m' k → get m k = get m' k) : (pos m).Perm (pos m') := by
  refine (List.perm_ext_iff_of_nodup ((nodup_of_keys h).filter _) ((nodup_of_keys h').filter _)).mpr fun ⟨k, n⟩ => ?_
  show (k, n) ∈ pos m ↔ (k, n) ∈ pos m'
  rw [mem_pos h, mem_pos h']
  constructor
  · rintro ⟨h1, h2⟩
    exact ⟨by rw [← e k (.inl (by omega)), h1], h2⟩
  · rintro ⟨h1, h2⟩
    exact ⟨by rw [e k (.inr (by omega)), h1], h2⟩
/-- a dict's pairs above 0, rising -/
def Cn (m qs : AL) : Prop := qs.Perm (pos m) ∧ qs.Pairwise (fun a b => ple a b = true)
theorem cn_unique {m m' qs qs' : AL} (h : (keys m).Nodup) (h' : (keys m').Nodup) (c : Cn m qs) (c' : Cn m' qs') (e : ∀ k, 0 < get m k ∨ 0 < get m' k → get m k = get m' k) : qs = qs' :=
  List.Perm.eq_of_pairwise (le := fun a b => ple a b = true) (fun _ _ _ _ z z' => ple_anti z z') c.2 c'.2 (c.1.trans ((pos_perm h h' e).trans c'.1.symm))
/-- the numbers of a kind in a row of pairs, added up -/
def tot : AL → Str → Int
  | [], _ => 0
  | p :: r, k => (if p.1 = k then p.2 else 0) + tot r k
theorem tot_app (a b : AL) (k : Str) : tot (a ++ b) k = tot a k + tot b k := by
  induction a with
  | nil => exact (Int.zero_add _).symm
  | cons p r ih =>
    show (if p.1 = k then p.2 else 0) + tot (r ++ b) k = (if p.1 = k then p.2 else 0) + tot r k + tot b k
    rw [ih, Int.add_assoc]
theorem tot_nodup : ∀ {m : AL} (k : Str), (keys m).Nodup → tot m k = get m k
  | [], _, _ => rfl
  | p :: r, k, h => by
    obtain ⟨h1, h2⟩ := List.nodup_cons.mp (show (p.1 :: keys r).Nodup from h)
    show (if p.1 = k then p.2 else 0) + tot r k = get (p :: r) k
    unfold get
    rw [look_cons, tot_nodup k h2]
    by_cases e : p.1 = k
    · rw [if_pos e, if_pos e]
      unfold get
      rw [look_none.mpr (by rw [← e]; exact h1)]
      exact Int.add_zero _
    · rw [if_neg e, if_neg e, Int.zero_add]
      rfl
theorem tot_perm {a b : AL} (h : a.Perm b) (k : Str) : tot a k = tot b k := by
  induction h with
  | nil => rfl
  | cons p _ ih => show _ + _ = _ + _; rw [ih]
  | swap p q r => show _ + (_ + _) = _ + (_ + _); omega
  | trans _ _ i1 i2 => exact i1.trans i2
theorem tot_pos {m : AL} (h : (keys m).Nodup) (h0 : ∀ k, 0 ≤ get m k) (k : Str) : tot (pos m) k = get m k := by
  have hk : (keys (pos m)).Nodup := List.Nodup.sublist (List.Sublist.map _ List.filter_sublist) h
  rw [tot_nodup k hk]
  unfold get
  cases e : look (pos m) k with
  | some v =>
    have := (mem_pos h).mp ((look_mem hk).mp e)
    exact this.1.symm
  | none =>
    have h1 := h0 k
    have h2 : ¬ 0 < get m k := fun z => by
      have := (mem_pos h).mpr ⟨rfl, z⟩
      rw [(look_mem hk).mpr this] at e
      cases e
    show (0 : Int) = get m k
    omega
end My
namespace My
open PySem L2
theorem PrA.kpd {d : Addr} {u : HO} {H H' : Hp} {x : V} {p : Str × Int} (h : PrA H x p) (e : Kp d H H') (hd : H d = some u) (hu : ∀ xs, HO.tup xs ≠ u) : PrA H' x p := by
  obtain ⟨t, h1, h2⟩ := h
  exact ⟨t, h1, e _ _ h2 (ne_of h2 hd (hu _))⟩
theorem PrA.kpdAll {d : Addr} {u : HO} {H H' : Hp} {xs : List V} {ps : AL} (h : Paired (PrA H) xs ps) (e : Kp d H H') (hd : H d = some u) (hu : ∀ xs, HO.tup xs ≠ u) : Paired (PrA H') xs ps := Paired.mapP h fun _ _ z => z.kpd e hd hu
theorem pos_take {m : AL} {i : Nat} {p : Str × Int} (h : m[i]? = some p) : pos (m.take (i + 1)) = pos (m.take i) ++ (if 0 < p.2 then [p] else []) := by
  unfold pos
  rw [List.take_add_one, h, List.filter_append]
  congr 1
  show [p].filter _ = _
  rw [List.filter_cons]
  by_cases c : 0 < p.2
  · rw [if_pos (decide_eq_true c), if_pos c]
    rfl
  · rw [if_neg (fun z => c (of_decide_eq_true z)), if_neg c]
    rfl
theorem enc_at {m : AL} {i : Nat} {k : Key} {v : V} (h : (enc m)[i]? = some (k, v)) : ∃ p, m[i]? = some p ∧ k = Sum.inr p.1 ∧ v = V.int p.2 := by
  unfold enc at h
  rw [List.getElem?_map] at h
  cases e : m[i]? with
  | none => rw [e] at h; cases h
  | some p =>
    rw [e] at h
    have h := Option.some.inj h
    exact ⟨p, rfl, (congrArg Prod.fst h).symm, (congrArg Prod.snd h).symm⟩
theorem DGet_enc {H : Hp} {d : Addr} {m : AL} {k : Str} {r : Option Int} (h : L2.Rd H d (.dK (enc m))) (e : look m k = r) : DGet H d (.str k) (r.map V.int) := .inl ⟨enc m, Sum.inr k, h, rfl, by rw [enc_look, e]⟩
theorem look_at {m : AL} {i : Nat} {p : Str × Int} (hn : (keys m).Nodup) (h : m[i]? = some p) : look m p.1 = some p.2 := (look_mem hn).mpr (List.mem_of_getElem? h)
section
variable {σ : L2.St} {H : Hp} {Q : VK} {td ty tx te : TE} {D : Ends} {ts : TS} {d : Addr} {u : HO}
theorem r_dget (h : td σ H fun x H1 => ty σ H1 fun y H2 => ∃ a v, x = .ref a ∧ DGet H2 a y (some v) ∧ Q v H2) : tDGet td ty σ H Q := h
theorem r_dget2 (h : td σ H fun x H1 => ∃ a, x = .ref a ∧ IsD H1 a ∧ ty σ H1 fun y H2 => tx σ H2 fun z H3 => ∃ o, DGet H3 a y o ∧ Q (o.getD z) H3) : tDGet2 td ty tx σ H Q := h
theorem r_lockE (hd : H d = some u) (m : Mut (some u)) (h : ∀ od, te σ (upd H d (.frz od u)) fun v H' => H' d = some (.frz od u) ∧ Q v (upd H' d u)) : tLockE te σ H Q := ⟨d, u, hd, m, h⟩
theorem r_lock (hd : H d = some u) (m : Mut (some u)) (h : ∀ od, ts ⟨fun σ' H' => H' d = some (.frz od u) ∧ D.nx σ' (upd H' d u), fun v H' => H' d = some (.frz od u) ∧ D.rt v (upd H' d u), fun σ' H' => H' d = some (.frz od u) ∧ D.bk σ' (upd H' d u), fun σ' H' => H' d = some (.frz od u) ∧ D.ct σ' (upd H' d u)⟩ σ (upd H d (.frz od u))) : tLock ts D σ H := ⟨d, u, hd, m, h⟩
theorem r_iKeys {R : It → Hp → Prop} (h : td σ H fun x H1 => ∃ d o, x = .ref d ∧ ((∃ kvs, H1 d = some (.frz o (.dK kvs)) ∧ R (Itk d o kvs) H1) ∨ ∃ kvs, H1 d = some (.frz o (.dT kvs)) ∧ R (Itkt d o kvs) H1)) : iKeys td σ H R := h
theorem r_dput {tv : TE} (h : tv σ H fun v H1 => td σ H1 fun x H2 => ty σ H2 fun y H3 => ∃ a H4, x = .ref a ∧ DPut H3 a y v H4 ∧ D.nx σ H4) : sDPut td ty tv D σ H := h
end
theorem DPut_enc {H : Hp} {d : Addr} {m : AL} {k : Str} {n : Int} (h : H d = some (.dK (enc m))) (hl : m.length < sizeLine) : DPut H d (.str k) (.int n) (upd H d (.dK (enc (put m k n)))) := .inl ⟨enc m, Sum.inr k, h, rfl, by rw [enc_len]; exact hl, by rw [enc_put]⟩
end My
namespace My
open PySem L2
theorem get_look {m : AL} {k : Str} : (Option.map V.int (look m k)).getD (V.int 0) = V.int (get m k) := by
  unfold get
  cases look m k <;> rfl
theorem tot_take {ps : AL} {i : Nat} {p : Str × Int} (h : ps[i]? = some p) (k : Str) : tot (ps.take (i + 1)) k = tot (ps.take i) k + (if p.1 = k then p.2 else 0) := by
  rw [List.take_add_one, h, tot_app]
  show _ + ((if p.1 = k then p.2 else 0) + 0) = _
  rw [Int.add_zero]
end My

/-! an own class's operators, by its own methods -/
namespace My
open PySem L2 PySem.W
/-- a method of the class at C, with its promise -/
structure OCal (P : Program) (w : World) (K : PySem.W.Frag) (mg : Str → Option Value) (base : Heap) (CX : CXT) (k : Nat) (C : Addr) (name : Str) (ps : List Str) (sp : Sp) : Prop where
  ex : ∃ (f : Addr) (fd : FuncData), FnOk P w K mg base CX k f fd ps sp ∧ PySem.W.findIn K (.ref C) name = some (some (.ref f)) ∧ PySem.W.isFn K (.ref f) = true ∧ PySem.W.keepIn K (.ref f) = true ∧ PySem.W.fnIn K f = true ∧ Binds K fd ps []
/-- what an operator asks of the class beside its method -/
structure OCls (K : PySem.W.Frag) (C : Addr) : Prop where
  cl : Cls K C
  sf : PySem.W.selfFirst K C = true
  ns : PySem.W.noSeq K C = true
  si : PySem.W.subIn K (.type "int") (.ref C) = some false
section
variable {X : Cx} {CX : CXT} {k : Nat} {f C : Addr} {fd : FuncData} {ps : List Str} {sp : Sp} {E : XK} {pins : List (Addr × Obj)} {σ : L2.St} {H : Hp} {s : Shared} {Q : VK}
theorem run_at {A : Around} {us : List Value} {vs : List V} (F : FnOk X.prog X.w X.K X.mg X.base CX k f fd ps sp) (hr : Room k A) (hf : A.frames = X.A.frames) (hb : Binds X.K fd ps []) (hx : ∀ e s', CX X.stack H s E e s' → X.xe e s')
    (I : Inv X pins σ H s) (r : Vals vs us) (h : sp vs H Q E) : wpAny (model X.prog X.w) A (call (.ref f) us) (EP X pins σ Q) X.xe s := by
  have hl : us.length = ps.length := by rw [← r.length]; exact F.len _ _ _ _ h
  have e0 : Env0 X.prog X.w X.K X.mg X.base A X.stack s H := by
    have e := I.env0
    exact ⟨by rw [hf]; exact e.frames, e.mod, e.bs, e.bsz, e.funs, e.frf, e.hok, e.bare⟩
  have b := hb s us I.kIn (by rw [List.append_nil]; exact hl)
  rw [List.append_nil] at b
  refine wpAny_call (codeAny_mono (F.run A X.stack s H ⟨us, []⟩ us vs Q E hr e0 b r h) fun r s' hq => ?_)
  cases r with
  | error e => exact hx e s' hq
  | ok fl =>
    cases fl with
    | ret u => exact I.after hq
    | next => exact False.elim hq
    | brk => exact False.elim hq
    | cont => exact False.elim hq
theorem cmpBack {u : Value} {s' : Shared} {R : Value → Shared → Prop} (h : EP X pins σ Q u s') (hR : EP X pins σ Q u s' → R u s') : CmpBack R u s' := by
  obtain ⟨v, H', I, rv, q⟩ := id h
  cases v <;> (first | (cases (show u = _ from rv); exact hR h) | (obtain ⟨t, z⟩ := (show ∃ t, u = _ from rv); cases z; exact hR h))
/-- x op y, both of the class at C -/
def rOwn (C : Addr) (sp : Sp) (E : L2.St → XK) (σ : L2.St) : R2 := fun x y H Q => ∃ a b dx dy fs gs, x = .ref a ∧ y = .ref b ∧ H a = some (.ins C dx fs) ∧ H b = some (.ins C dy gs) ∧ sp [x, y] H Q (E σ)
/-- x op n, n a whole number -/
def rOwnI (C : Addr) (sp : Sp) (E : L2.St → XK) (σ : L2.St) : R2 := fun x y H Q => ∃ a dx fs i, x = .ref a ∧ y = .int i ∧ H a = some (.ins C dx fs) ∧ sp [x, y] H Q (E σ)
def tOpS (r : L2.St → R2) (ta tb : TE) : TE := fun σ H Q => ta σ H fun x H1 => tb σ H1 fun y H2 => r σ x y H2 Q
theorem pe_opS {op : Operator} {r : L2.St → R2} {a b : Expr} {ta tb : TE} {pos : Pos} (ho : ∀ (pins : List (Addr × Obj)) (s : Shared) (σ : L2.St) (H : Hp) (x y : V) (v u : Value) (Q : VK), Inv X pins σ H s → RelV x v → RelV y u → r σ x y H Q →
    wpAny (model X.prog X.w) X.A (binaryOp op v u) (EP X pins σ Q) X.xe s) (ha : PE X a ta) (hb : PE X b tb) : PE X (.BinOp a op b pos) (tOpS r ta tb) := by
  refine ⟨fun pins s σ H Q I h => ?_⟩
  exact wpAny_BinOp (binT ha hb I h fun v u s2 x y H2 I2 rx ry q => ho pins s2 σ H2 x y v u Q I2 rx ry q)
/-- what a call may let out at the slots σ -/
def PassS (CX : CXT) (X : Cx) (E : L2.St → XK) : Prop := ∀ (pins : List (Addr × Obj)) (σ : L2.St) (H : Hp) (s : Shared) (e : Value) (s' : Shared), Inv X pins σ H s → CX X.stack H s (E σ) e s' → X.xe e s'
theorem passS0 {X : Cx} {E : L2.St → XK} : PassS CX0 X E := fun _ _ _ _ _ _ _ h => h.elim
theorem PassS.of {X : Cx} {CX : CXT} {E : XK} (h : Passes CX X E) : PassS CX X (fun _ => E) := h
theorem pe_bin {op : Operator} {E : L2.St → XK} {a b : Expr} {ta tb : TE} {pos : Pos} (O : OCal X.prog X.w X.K X.mg X.base CX k C (PySem.dunder op.info.2) ps sp) (oc : OCls X.K C) (hr : Room k X.A) (hx : PassS CX X E)
    (ha : PE X a ta) (hb : PE X b tb) : PE X (.BinOp a op b pos) (tOpS (rOwn C sp E) ta tb) := by
  refine pe_opS (fun pins s σ H x y v u Q I rx ry h => ?_) ha hb
  obtain ⟨a, b, dx, dy, fs, gs, rfl, rfl, h1, h2, h⟩ := h
  cases rx
  cases ry
  obtain ⟨f, fd, F, hs, hf, hk, hfn, hb⟩ := O.ex
  obtain ⟨mA, J, _⟩ := ins_get I.hok h1
  obtain ⟨mB, J', _⟩ := ins_get I.hok h2
  obtain ⟨od, J, _⟩ := J.look
  obtain ⟨od', J', _⟩ := J'.look
  obtain ⟨m, hF⟩ := I.fr
  refine binop_K hF I.ok.mod.kin J J'.type oc.sf hs hf ?_
  exact wpAny_mono (run_at F hr rfl hb (fun e s' c => hx pins σ H s e s' I c) I (vs := [.ref a, .ref b]) (.cons rfl (.cons rfl .nil)) h) (fun u s' q => cmpBack q fun z => z) fun _ _ z => z
theorem pe_binI {op : Operator} {E : L2.St → XK} {a b : Expr} {ta tb : TE} {pos : Pos} {fo ro rc : Option Value} (O : OCal X.prog X.w X.K X.mg X.base CX k C (PySem.dunder op.info.2) ps sp) (oc : OCls X.K C) (hr : Room k X.A) (hx : PassS CX X E)
    (hrc : PySem.W.findIn X.K (.ref C) (dunderR op.info.2) = some rc) (hp : rc = none ∨ ∃ g : Addr, rc = some (.ref g)) (h1 : PySem.W.findIn X.K (.type "int") (PySem.dunder op.info.2) = some fo) (h2 : PySem.W.findIn X.K (.type "int") (dunderR op.info.2) = some ro)
    (ha : PE X a ta) (hb : PE X b tb) : PE X (.BinOp a op b pos) (tOpS (rOwnI C sp E) ta tb) := by
  refine pe_opS (fun pins s σ H x y v u Q I rx ry h => ?_) ha hb
  obtain ⟨a, dx, fs, i, rfl, rfl, e1, h⟩ := h
  cases rx
  obtain ⟨t, rfl⟩ := (show ∃ t, u = Value.int i t from ry)
  obtain ⟨f, fd, F, hs, hf, hk, hfn, hb⟩ := O.ex
  obtain ⟨mA, J, _⟩ := ins_get I.hok e1
  obtain ⟨od, J, _⟩ := J.look
  obtain ⟨m, hF⟩ := I.fr
  refine ksp_binT (T := "int") hF I.ok.mod.kin J rfl oc.sf hs hf hrc hp h1 h2 oc.si ?_
  exact wpAny_mono (run_at F hr rfl hb (fun e s' c => hx pins σ H s e s' I c) I (vs := [.ref a, .int i]) (.cons rfl (.cons ⟨t, rfl⟩ .nil)) h) (fun u s' q => cmpBack q fun z => z) fun _ _ z => z
/-- x op= y at a name, by the class's own method -/
theorem ip_own {op : Operator} (O : OCal X.prog X.w X.K X.mg X.base CX k C (dunderI op.info.2) ps sp) (oc : OCls X.K C) (hr : Room k X.A) (hx : Passes CX X E) : PIp X op (fun x y H Q => ∃ a dx fs, x = .ref a ∧ H a = some (.ins C dx fs) ∧ sp [x, y] H Q E) := by
  intro pins s σ H x y v u Q I rx ry h
  obtain ⟨a, dx, fs, rfl, e1, h⟩ := h
  cases rx
  obtain ⟨f, fd, F, hs, hf, hk, hfn, hb⟩ := O.ex
  obtain ⟨mA, J, _⟩ := ins_get I.hok e1
  obtain ⟨od, J, _⟩ := J.look
  obtain ⟨m, hF⟩ := I.fr
  refine ksp_inplace hF I.ok.mod.kin J oc.sf hs hf ?_
  exact wpAny_mono (run_at F hr rfl hb (fun e s' c => hx pins σ H s e s' I c) I (vs := [.ref a, y]) (.cons rfl (.cons ry .nil)) h) (fun u s' q => cmpBack q fun z => z) fun _ _ z => z
/-- x[i] -/
def tIxO (C : Addr) (sp : Sp) (E : XK) (ta tb : TE) : TE := fun σ H Q => ta σ H fun x H1 => tb σ H1 fun y H2 => ∃ a dx fs, x = .ref a ∧ H2 a = some (.ins C dx fs) ∧ sp [x, y] H2 Q E
theorem pe_ixO {a b : Expr} {ta tb : TE} {pos : Pos} (O : OCal X.prog X.w X.K X.mg X.base CX k C "__getitem__" ps sp) (hr : Room (k + 1) X.A) (hx : Passes CX X E) (ha : PE X a ta) (hb : PE X b tb)
    (hsl : ∀ o i, subscripted b true o i = runValue (.builtin "lifetime.subscript" ⟨[o, i], []⟩) := by (intro o i; with_unfolding_all rfl)) : PE X (.Subscript a b pos) (tIxO C sp E ta tb) := by
  refine ⟨fun pins s σ H Q I h => ?_⟩
  refine PyProof.Rows.Subscript_ (binT ha hb I h fun v u s2 x y H2 I2 rx ry q => ?_)
  obtain ⟨p, dx, fs, rfl, e1, h⟩ := q
  cases rx
  obtain ⟨f, fd, F, hs, hf, hk, hfn, hb⟩ := O.ex
  obtain ⟨mA, J, _⟩ := ins_get I2.hok e1
  obtain ⟨od, J, _⟩ := J.look
  obtain ⟨m, hF⟩ := I2.fr
  refine sub_K hF I2.ok.mod.kin J hs hfn hf ?_ (hsl _ _)
  exact run_at F hr.in1 rfl hb (fun e s' c => hx pins σ H2 s2 e s' I2 c) I2 (vs := [.ref p, y]) (.cons rfl (.cons ry .nil)) h
/-- len(x) -/
theorem c_lenO (O : OCal X.prog X.w X.K X.mg X.base CX k C "__len__" ps sp) (hr : Room (k + 1) X.A) (hx : Passes CX X E) :
    CallR X (.builtin "len") (fun vs H Q => ∃ a dx fs, vs = [.ref a] ∧ H a = some (.ins C dx fs) ∧ sp vs H (fun v H' => ∃ n : Int, v = .int n ∧ (0 ≤ n ∧ n < 2 ^ 63) ∧ Q v H') E) := by
  intro pins s σ H xs us Q I r h
  obtain ⟨a, dx, fs, rfl, e1, h⟩ := h
  obtain ⟨u, rfl, ru⟩ := vals1 r
  cases ru
  obtain ⟨f, fd, F, hs, hf, hk, hfn, hb⟩ := O.ex
  obtain ⟨mA, J, _⟩ := ins_get I.hok e1
  obtain ⟨od, J, _⟩ := J.look
  obtain ⟨m, hF⟩ := I.fr
  refine len_K hF I.ok.mod.kin J hs hf ?_
  refine wpAny_mono (run_at F hr.in1 rfl hb (fun e s' c => hx pins σ H s e s' I c) I (vs := [.ref a]) (.cons rfl .nil) h) (fun u s' q => ?_) fun _ _ z => z
  obtain ⟨v, H', I', rv, n, rfl, hn, q⟩ := q
  obtain ⟨t, rfl⟩ := (show ∃ t, u = Value.int n t from rv)
  exact ⟨hn, .int n, H', I'.tok _, ⟨_, rfl⟩, q⟩
end
end My

namespace My
open PySem L2
/-! sets of texts: made of a dict, then sorted -/
/-- at a an exact set of just the texts L -/
def SetSR (P : Program) (w : World) (h : Heap) (a : Addr) (L : List Str) : Prop := ∃ (o : Obj) (es : Array (Int × Value)) (ep : Nat) (t : SetTable) (ks : List Str), h.get? a = some o ∧ o.ExactSet ∧ o.data = Data.set es ep t ∧ ElemsOf (mixKind P w) es.toList ∧
  Vals (ks.map V.str) (es.toList.map (·.2)) ∧ ks.Perm L ∧ es.size < scanBound ∧ t.fits es.size = true ∧ Ris t.place.toList ∧ (w.params.followText "set-order" = true ∨ t.led = true)
theorem vals_strs : ∀ {ks : List Str} {us : List Value}, Vals (ks.map V.str) us → ∀ u ∈ us, ∃ k ∈ ks, ∃ tk, u = Value.str k tk
  | [], _, .nil, _, h => by cases h
  | k :: r, _, .cons e h, u, hu => by
    rcases List.mem_cons.mp hu with z | z
    · obtain ⟨tk, e⟩ := (show ∃ tk, _ = Value.str k tk from e)
      exact ⟨k, List.mem_cons_self, tk, z.trans e⟩
    · obtain ⟨k', h1, h2⟩ := vals_strs h u z
      exact ⟨k', List.mem_cons_of_mem _ h1, h2⟩
theorem vals_perm {us us' : List Value} (p : us'.Perm us) : ∀ {ks : List Str}, Vals (ks.map V.str) us → ∃ ks' : List Str, ks'.Perm ks ∧ Vals (ks'.map V.str) us' := by
  induction p with
  | nil => exact fun {ks} h => ⟨ks, .refl _, h⟩
  | cons x _ ih =>
    intro ks h
    match ks, h with
    | k :: r, .cons e h =>
      obtain ⟨ks', p', h'⟩ := ih h
      exact ⟨k :: ks', p'.cons k, .cons e h'⟩
  | swap x y l =>
    intro ks h
    match ks, h with
    | k :: j :: r, .cons e (.cons e2 h) => exact ⟨j :: k :: r, .swap k j r, .cons e2 (.cons e h)⟩
  | trans _ _ i1 i2 =>
    intro ks h
    obtain ⟨k1, p1, h1⟩ := i2 h
    obtain ⟨k2, p2, h2⟩ := i1 h1
    exact ⟨k2, p2.trans p1, h2⟩
theorem find_none {P : Program} {w : World} {ks : List Str} {k : Str} {es : List (Int × Value)} (hv : Vals (ks.map V.str) (es.map (·.2))) (hk : k ∉ ks) : List.findIdx? (fun e => (mixKind P w).is (Sum.inr k) e.2) es = none := by
  rw [List.findIdx?_eq_none_iff]
  intro e he
  obtain ⟨j, hj, tk, ej⟩ := vals_strs hv e.2 (List.mem_map.mpr ⟨e, he, rfl⟩)
  show Value.isStrOf k e.2 = false
  rw [ej]
  show (j == k) = false
  exact beq_eq_false_iff_ne.mpr fun z => hk (z ▸ hj)
theorem SetSR.store {P : Program} {w : World} {h : Heap} {a : Addr} {o : Obj} {es es' : Array (Int × Value)} {ep : Nat} {t t' : SetTable} {ks L : List Str} (ho : h.get? a = some o) (hex : o.ExactSet) (hd : o.data = Data.set es ep t) (hel : ElemsOf (mixKind P w) es'.toList)
    (hv : Vals (ks.map V.str) (es'.toList.map (·.2))) (hp : ks.Perm L) (hb : es'.size < scanBound) (hf : t'.fits es'.size = true) (hr : Ris t'.place.toList) (hl : w.params.followText "set-order" = true ∨ t'.led = true) : SetSR P w (h.update a (Obj.putSet es' t')) a L :=
  ⟨_, es', ep + 1, t', ks, store_at ho hd, hex, rfl, hel, hv, hp, hb, hf, hr, hl⟩
theorem elems_perm {P : Program} {w : World} {xs ys : List (Int × Value)} (p : xs.Perm ys) (h : ElemsOf (mixKind P w) ys) : ElemsOf (mixKind P w) xs := fun e he => h e (p.mem_iff.mp he)
theorem setS_tail {P : Program} {w : World} {A : Around} {E : Value → Shared → Prop} {s : Shared} {a : Addr} {g : Bool → Sem Unit} (hg : ∀ (b : Bool) (s₁ : Shared) (Q' : Unit → Shared → Prop), Q' () s₁ → wpAny (model P w) A (g b) Q' E s₁)
    {o : Obj} {es : Array (Int × Value)} {ep : Nat} {t : SetTable} (ho : s.heap.get? a = some o) (hex : o.ExactSet) (hd : o.data = Data.set es ep t) {es1 : Array (Int × Value)} {t2 : SetTable} {ks L : List Str} (hel : ElemsOf (mixKind P w) es1.toList)
    (hv : Vals (ks.map V.str) (es1.toList.map (·.2))) (hp : ks.Perm L) (hb : es1.size < scanBound) (hf : t2.fits es1.size = true) (hr : Ris t2.place.toList) (hl : w.params.followText "set-order" = true ∨ t2.led = true) {wasDummy : Bool} {R : Option Bool → Shared → Prop}
    (hQ : ∀ h' : Heap, Heap.SameBut a s.heap h' → SetSR P w h' a L → R (some true) { s with heap := h' }) :
    wpAny (model P w) A (do
      storeSet a es1 t2
      if (!wasDummy && t2.tooFull) = true then do
        g (relayAll t2 es1 (SetTable.grown es1.size)).2.2
        storeSet a (relayAll t2 es1 (SetTable.grown es1.size)).1 (relayAll t2 es1 (SetTable.grown es1.size)).2.1
        pure (some true)
      else pure (some true)) R E s := by
  have sb : es1.size ≤ sizeLine := Nat.le_trans (Nat.le_of_lt hb) (by decide)
  refine wpAny_bind (wpAny_storeSet_of ho hd ?_ sb)
  split
  · refine wpAny_bind (hg _ _ _ ?_)
    have p1 := relayAll_perm t2 es1 (SetTable.grown es1.size)
    have l1 : (relayAll t2 es1 (SetTable.grown es1.size)).1.size = es1.size := by
      have := p1.length_eq
      rwa [Array.length_toList, Array.length_toList] at this
    obtain ⟨ks', pk, hv'⟩ := vals_perm (p1.map (·.2)) hv
    refine wpAny_bind (wpAny_storeSet_of (store_at ho hd) rfl ?_ (by rw [l1]; exact sb))
    refine wpAny_pure ?_
    have R1 := SetSR.store (P := P) (w := w) (L := L) (store_at (es' := es1) (t' := t2) ho hd) hex rfl (elems_perm p1 hel) hv' (pk.trans hp) (by rw [l1]; exact hb) (relayAll_fits _ _ _) (relayAll_ris _ _ _) (by rw [relayAll_led]; exact hl)
    exact hQ _ ((Heap.SameBut.update _ _ _).trans (Heap.SameBut.update _ _ _)) R1
  · refine wpAny_pure ?_
    exact hQ _ (Heap.SameBut.update _ _ _) (SetSR.store ho hex hd hel hv hp hb hf hr hl)

theorem setS_add {P : Program} {w : World} {A : Around} {E : Value → Shared → Prop} {s : Shared} {a : Addr} {L : List Str} {k : Str} {tk : Tok} {Q : Bool → Shared → Prop} (R : SetSR P w s.heap a L) (hk : k ∉ L) (room : L.length + 1 < scanBound)
    (hQ : ∀ h' : Heap, Heap.SameBut a s.heap h' → SetSR P w h' a (k :: L) → Q true { s with heap := h' }) : wpAny (model P w) A (setAddHashed a (.str k tk) ((mixKind P w).hash (Sum.inr k))) Q E s := by
  obtain ⟨o, es, ep, t, ks, ho, hex, hd, hel, hv, hp, hb, hf, hr, hl⟩ := R
  have hkey : (mixKind P w).is (Sum.inr k) (Value.str k tk) = true := by show (k == k) = true; exact beq_self_eq_true k
  have hsc : (Value.str k tk).scannable = true := rfl
  have hk' : k ∉ ks := fun z => hk (hp.mem_iff.mp z)
  have le : es.size = L.length := by
    have h1 := Paired.len hv
    have h2 : (ks.map V.str).length = L.length := by rw [List.length_map, hp.length_eq]
    have h3 : (es.toList.map (·.2)).length = es.size := by rw [List.length_map, Array.length_toList]
    omega
  have w1 := layNew_fits t es ((mixKind P w).hash (Sum.inr k)) (Value.str k tk)
  have w2 := layNew_perm t es ((mixKind P w).hash (Sum.inr k)) (Value.str k tk)
  have w3 := layNew_ris t es ((mixKind P w).hash (Sum.inr k)) (Value.str k tk) hr
  have w4 := layNew_led t es ((mixKind P w).hash (Sum.inr k)) (Value.str k tk)
  show wpAny (model P w) A (holding [Value.str k tk] do setAddHashedIn a (.str k tk) ((mixKind P w).hash (Sum.inr k)) (99999 + 1)) Q E s
  rw [setAddHashedIn_succ]
  refine wpAny_holding (wpAny_bind (wpAny_setState_of ho hd hf ?_))
  show wpAny (model P w) _ (if byScan (Value.str k tk) es = true then _ else _) _ _ _
  rw [if_pos (byScan_of hsc hb hel)]
  refine wpAny_bind ?_
  unfold setAddByScan
  refine wpAny_bind (wpAny_rule ?_)
  refine wpAny_bind (wpAny_setScan_of (knd := mixKind P w) (k := Sum.inr k) hkey ho hd hf hel ?_)
  rw [find_none hv hk']
  generalize layNew t es ((mixKind P w).hash (Sum.inr k)) (Value.str k tk) = r at w1 w2 w3 w4 ⊢
  obtain ⟨es1, t1, wd, gv⟩ := r
  replace w1 : t1.fits es1.size = true := w1
  replace w2 : es1.toList.Perm (es.push ((mixKind P w).hash (Sum.inr k), Value.str k tk)).toList := w2
  replace w3 : Ris t1.place.toList := w3
  replace w4 : t1.led = t.led := w4
  have l1 : es1.size = es.size + 1 := by
    have := w2.length_eq
    rwa [Array.length_toList, Array.length_toList, Array.size_push] at this
  have p2 : es1.toList.Perm (es.toList ++ [((mixKind P w).hash (Sum.inr k), Value.str k tk)]) := by rw [Array.toList_push] at w2; exact w2
  have el1 : ElemsOf (mixKind P w) es1.toList := elems_perm p2 fun e he => by
    rcases List.mem_append.mp he with z | z
    · exact hel e z
    · rw [List.mem_singleton.mp z]
      exact ⟨⟨Sum.inr k, hkey, rfl⟩, hsc⟩
  have v0 : Vals ((ks ++ [k]).map V.str) ((es.toList ++ [((mixKind P w).hash (Sum.inr k), Value.str k tk)]).map (·.2)) := by
    rw [List.map_append, List.map_append]
    exact hv.append (.cons ⟨tk, rfl⟩ .nil)
  obtain ⟨ks', pk, hv'⟩ := vals_perm (p2.map (·.2)) v0
  have pk' : ks'.Perm (k :: L) := pk.trans ((List.perm_append_singleton k ks).trans (hp.cons k))
  have hb1 : es1.size < scanBound := by omega
  have hl1 : w.params.followText "set-order" = true ∨ t1.led = true := by rw [w4]; exact hl
  refine wpAny_bind ?_
  cases gv
  case' true => refine (wpAny_rule ?_)
  case' false => refine (wpAny_pure ?_)
  all_goals
    show wpAny (model P w) A (if t1.plain = true then _ else _) _ _ _
    split
    case' isTrue => refine wpAny_bind (wpAny_pure ?_)
    case' isTrue => exact setS_tail (t2 := { t1 with plain := false }) (wasDummy := wd) (fun b s₁ Q' h => by cases b; exact wpAny_pure h; exact wpAny_rule h) ho hex hd el1 hv' pk' hb1 (SetTable.fits_plain_off w1) w3 hl1 fun h' sb R' => wpAny_pure (hQ h' sb R')
    case' isFalse => refine wpAny_bind (wpAny_pure ?_)
    case' isFalse => exact setS_tail (t2 := t1) (wasDummy := wd) (fun b s₁ Q' h => by cases b; exact wpAny_pure h; exact wpAny_rule h) ho hex hd el1 hv' pk' hb1 w1 w3 hl1 fun h' sb R' => wpAny_pure (hQ h' sb R')
end My

namespace My
open PySem L2
theorem SetTR.to_s {P : Program} {w : World} {s : Shared} {a : Addr} {es : Array (Int × Value)} {ep : Nat} {t : SetTable} (R : SetTR P w s.heap a [] es ep t) : SetSR P w s.heap a [] := by
  obtain ⟨o, ho, hex, hd⟩ := R.ob
  have he : es.toList = [] := R.rows
  have h0 : es.size = 0 := by rw [← Array.length_toList, he]; rfl
  refine ⟨o, es, ep, t, [], ho, hex, hd, ?_, ?_, .refl _, ?_, R.fits, R.tab.ris, R.led⟩
  · rw [he]
    intro e z
    cases z
  · rw [he]
    exact .nil
  · rw [h0]
    decide
def relOk (led : Bool) (n : Nat) : Bool := match (SetTable.fresh 0 0 led).relaid #[] (n * 2) with
  | some (t', order) => decide (t'.place = #[] ∧ t'.dummies = #[] ∧ t'.led = led ∧ order = #[]) && decide (SetTable.sizeAbove (n * 2) ≤ 1000)
  | none => false
theorem relOk_all : ∀ led : Bool, ∀ n, n < 31 → relOk led n = true := by decide +kernel
theorem relaid0 (led : Bool) {n : Nat} (h : n < 31) : ∃ t' : SetTable, (SetTable.fresh 0 0 led).relaid #[] (n * 2) = some (t', #[]) ∧ t'.place = #[] ∧ t'.dummies = #[] ∧ t'.led = led ∧ SetTable.sizeAbove (n * 2) ≤ 1000 := by
  have e := relOk_all led n h
  unfold relOk at e
  split at e
  · rename_i t' order q
    rw [Bool.and_eq_true] at e
    obtain ⟨h1, h2, h3, h4⟩ := of_decide_eq_true e.1
    subst h4
    exact ⟨t', q, h1, h2, h3, of_decide_eq_true e.2⟩
  · cases e
theorem set_room {P : Program} {w : World} {A : Around} {E : Value → Shared → Prop} {s : Shared} {a : Addr} {n : Nat} {Q : Unit → Shared → Prop} (ho : s.heap.get? a = some { cls := Value.type "set", data := Data.set #[] 0 (SetTable.fresh 0 0 !w.params.followText "set-order") }) (hn : n ≤ 30)
    (hQ : ∀ h' : Heap, Heap.SameBut a s.heap h' → SetSR P w h' a [] → Q () { s with heap := h' }) : wpAny (model P w) A (setRoomFor a n) Q E s := by
  have R := setTR_fresh (P := P) (w := w) ho
  unfold setRoomFor
  refine wpAny_bind (wpAny_setState_of ho rfl R.fits ?_)
  have e : (SetTable.fresh 0 0 !w.params.followText "set-order").roomFor n = if (0 + n) * 5 ≥ 7 * 3 then some ((0 + n) * 2) else none := rfl
  rw [show ((#[], 0, SetTable.fresh 0 0 !w.params.followText "set-order") : Array (Int × Value) × Nat × SetTable).snd.snd.roomFor n = if (0 + n) * 5 ≥ 7 * 3 then some ((0 + n) * 2) else none from rfl]
  by_cases c : (0 + n) * 5 ≥ 7 * 3
  · rw [if_pos c, Nat.zero_add]
    obtain ⟨t', h1, h2, h3, h4, h5⟩ := relaid0 (!w.params.followText "set-order") (show n < 31 by omega)
    show wpAny (model P w) A (setRelay a (n * 2)) Q E s
    rw [setRelay_eq]
    refine wpAny_bind (wpAny_setState_of ho rfl R.fits ?_)
    have big : ¬ SetTable.sizeAbove (n * 2) > sizeLine := fun z => by
      have : 1000 ≤ sizeLine := by decide
      omega
    show wpAny (model P w) A (if SetTable.sizeAbove (n * 2) > sizeLine then _ else _) Q E s
    rw [if_neg big]
    refine wpAny_bind ?_
    rw [show (Array.map (fun x : Int × Value => x.fst) #[]) = #[] from by simp, h1]
    refine wpAny_pure ?_
    refine wpAny_storeSet_of ho rfl ?_ (by decide)
    refine hQ _ (Heap.SameBut.update _ _ _) (SetSR.store (ks := []) ho ⟨rfl, rfl, rfl⟩ rfl (fun e z => by cases z) .nil (.refl _) (by decide) ?_ (by rw [h2]; exact List.Pairwise.nil) ?_)
    · unfold SetTable.fits SetTable.fill
      rw [h2, h3]
      show (true && decide (0 + 0 ≤ t'.mask)) = true
      rw [Bool.true_and]
      exact decide_eq_true (by omega)
    · rw [h4]
      cases w.params.followText "set-order"
      · exact .inr rfl
      · exact .inl rfl
  · rw [if_neg c]
    exact wpAny_pure (hQ s.heap ⟨rfl, fun _ _ => rfl⟩ (SetTR.to_s R))
theorem for_range0 {M : Model} {A : Around} {E : Value → Shared → Prop} {f : Nat → PUnit → Sem (ForInStep PUnit)} (I : Nat → Shared → Prop) (n : Nat) (h : ∀ i s, i < n → I i s → wpAny M A (f i ⟨⟩) (fun r s' => r = .yield ⟨⟩ ∧ I (i + 1) s') E s) {Q : PUnit → Shared → Prop} (hQ : ∀ s, I n s → Q ⟨⟩ s) : ∀ (k i : Nat), i + k = n → ∀ s, I i s → wpAny M A (forIn (List.range' i k) PUnit.unit f) Q E s
  | 0, i, e, s, hi => by
    have : i = n := e
    subst this
    exact wpAny_pure (hQ s hi)
  | k + 1, i, e, s, hi => by
    rw [List.range'_succ, List.forIn_cons]
    refine wpAny_bind (wpAny_mono (h i s (by omega) hi) ?_ fun _ _ z => z)
    rintro r s' ⟨rfl, hi'⟩
    exact for_range0 I n h hQ k (i + 1) (by omega) s' hi'
theorem for_range {M : Model} {A : Around} {E : Value → Shared → Prop} {f : Nat → PUnit → Sem (ForInStep PUnit)} {n : Nat} {s : Shared} {Q : PUnit → Shared → Prop} (I : Nat → Shared → Prop) (h0 : I 0 s) (h : ∀ i s, i < n → I i s → wpAny M A (f i ⟨⟩) (fun r s' => r = .yield ⟨⟩ ∧ I (i + 1) s') E s)  (hQ : ∀ s, I n s → Q ⟨⟩ s) :
    wpAny M A (forIn ([0:n] : Std.Legacy.Range) PUnit.unit f) Q E s := by
  rw [Std.Legacy.Range.forIn_eq_forIn_range']
  have e : ([0:n] : Std.Legacy.Range).size = n := by simp [Std.Legacy.Range.size]
  show wpAny M A (forIn (List.range' 0 ([0:n] : Std.Legacy.Range).size 1) PUnit.unit f) Q E s
  rw [e]
  exact for_range0 I n h hQ n 0 (Nat.zero_add n) s h0
theorem pairs_at {P : Program} {w : World} : ∀ {es : List DictEntry} {kvs : List (Key × Value)}, Pairs (mixKind P w) es kvs → es.length = kvs.length ∧ ∀ (i : Nat) (e : DictEntry), es[i]? = some e → ∃ kv, kvs[i]? = some kv ∧ (mixKind P w).is kv.1 e.key = true
  | _, _, .nil => ⟨rfl, fun i e z => by simp at z⟩
  | _, _, .cons (e := e0) (kv := kv0) h _ r => by
    obtain ⟨h1, h2⟩ := pairs_at r
    refine ⟨by rw [List.length_cons, List.length_cons, h1], fun i e z => ?_⟩
    cases i with
    | zero =>
      have z := Option.some.inj z
      subst z
      exact ⟨kv0, rfl, h⟩
    | succ j => exact h2 j e z
theorem SetSR.perm {P : Program} {w : World} {h : Heap} {a : Addr} {L L' : List Str} (R : SetSR P w h a L) (p : L.Perm L') : SetSR P w h a L' := by
  obtain ⟨o, es, ep, t, ks, ho, hex, hd, hel, hv, hp, hb, hf, hr, hl⟩ := R
  exact ⟨o, es, ep, t, ks, ho, hex, hd, hel, hv, hp.trans p, hb, hf, hr, hl⟩
theorem key_str {P : Program} {w : World} {k : Str} {v : Value} (h : (mixKind P w).is (Sum.inr k) v = true) : ∃ tk, v = .str k tk := by
  have h : Value.isStrOf k v = true := h
  unfold Value.isStrOf at h
  split at h
  · exact ⟨_, by rw [eq_of_beq h]⟩
  · cases h
theorem upd_dict {P : Program} {w : World} {A : Around} {E : Value → Shared → Prop} {s : Shared} {a d : Addr} {m : List Str} {kvs : List (Key × Value)} {Q : Unit → Shared → Prop} (ho : s.heap.get? a = some { cls := Value.type "set", data := Data.set #[] 0 (SetTable.fresh 0 0 !w.params.followText "set-order") }) (hd : Heap.DictOf (mixKind P w) s.heap d kvs) (hm : kvs.map (·.1) = m.map Sum.inr) (hn : kvs.length ≤ 30) (hs : (d == sysModules) = false) (hne : d ≠ a)
    (hQ : ∀ h' : Heap, Heap.SameBut a s.heap h' → SetSR P w h' a m → Q () { s with heap := h' }) : wpAny (model P w) A (Builtin.Frozenset.updateFrom "set.__init__" a (.ref d)) Q E s := by
  obtain ⟨o, es, ep, h1, hex, h2, hk, hp, nd⟩ := hd
  unfold Builtin.Frozenset.updateFrom
  have td : s.TypeIs (.ref d) "dict" := ⟨o, h1, hex.1⟩
  refine wpAny_bind ?_
  unfold Builtin.Frozenset.isAnySet
  refine wpAny_bind (wpAny_isInstance td F.sub_dict_set ?_)
  refine wpAny_isInstance td F.sub_dict_frozenset ?_
  rw [if_neg (by decide)]
  refine wpAny_bind (wpAny_typeOf td ?_)
  rw [if_pos (by decide)]
  refine wpAny_bind (wpAny_rule ?_)
  refine wpAny_bind (wpAny_pure ?_)
  rw [if_neg (by rw [hs]; decide)]
  refine wpAny_bind (wpAny_dictEpoch h1 h2 ?_)
  refine wpAny_bind (wpAny_dictEntries h1 h2 ?_)
  obtain ⟨le, at_⟩ := pairs_at hp
  have lm : kvs.length = m.length := by
    have := congrArg List.length hm
    rwa [List.length_map, List.length_map] at this
  have ls : es.size = m.length := by rw [← Array.length_toList, le, lm]
  have ndm : m.Nodup := by
    rw [hm] at nd
    exact List.Pairwise.of_map Sum.inr (fun _ _ q z => q (by rw [z])) nd
  refine wpAny_bind (set_room ho (by omega) fun h' sb R => ?_)
  have hd0 : ∀ h' : Heap, Heap.SameBut a s.heap h' → h'.get? d = some o := fun h' sb => by rw [sb.2 d hne]; exact h1
  refine wpAny_bind (wpAny_dictEntries (hd0 h' sb) h2 ?_)
  refine wpAny_bind (for_range (fun i u => ∃ h' : Heap, u = { s with heap := h' } ∧ Heap.SameBut a s.heap h' ∧ SetSR P w h' a (m.take i)) ⟨h', rfl, sb, R⟩ ?_ ?_)
  · rintro i u hi ⟨h2', rfl, sb', R'⟩
    have hi' : i < m.length := by rw [← ls]; exact hi
    refine wpAny_bind (wpAny_dictEntries (hd0 h2' sb') h2 ?_)
    rw [Array.getElem?_eq_getElem hi]
    obtain ⟨kv, hkv, hk1⟩ := at_ i es[i] (by rw [Array.getElem?_toList, Array.getElem?_eq_getElem hi])
    have ek : kv.1 = Sum.inr m[i] := by
      have e1 : (kvs.map (·.1))[i]? = some kv.1 := by rw [List.getElem?_map, hkv]; rfl
      rw [hm, List.getElem?_map, List.getElem?_eq_getElem hi'] at e1
      exact (Option.some.inj e1).symm
    rw [ek] at hk1
    obtain ⟨tk, et⟩ := key_str hk1
    obtain ⟨k, hk2, hh⟩ := hk es[i] (Array.getElem_mem hi)
    have e3 : k = Sum.inr m[i] := (mixKind P w).inj _ _ _ hk2 hk1
    rw [e3] at hh
    have nin : m[i] ∉ m.take i := fun z => by
      obtain ⟨j, hj, e⟩ := List.mem_iff_getElem.mp z
      rw [List.length_take] at hj
      rw [List.getElem_take] at e
      have := (List.pairwise_iff_getElem.mp ndm) j i (by omega) hi' (by omega)
      exact this e
    show wpAny (model P w) A (do
      let _ ← holding [es[i].key] (setAddHashed a es[i].key es[i].hash)
      let __do_lift ← dictEpoch d
      if (__do_lift != ep) = true then do
        unsupported (toString "set.__init__" ++ toString ":changed-during-callback")
        pure (ForInStep.yield PUnit.unit)
      else pure (ForInStep.yield PUnit.unit)) _ _ _
    rw [et, hh]
    refine wpAny_bind (wpAny_holding (setS_add R' nin (by rw [List.length_take]; have : scanBound = 4096 := rfl; omega) fun h3 sb3 R3 => ?_))
    have sb4 : Heap.SameBut a s.heap h3 := ⟨sb3.1.trans sb'.1, fun b n => (sb3.2 b n).trans (sb'.2 b n)⟩
    refine wpAny_bind (wpAny_dictEpoch (hd0 h3 sb4) h2 ?_)
    rw [if_neg (by simp)]
    refine wpAny_pure ⟨rfl, h3, rfl, sb4, R3.perm ?_⟩
    rw [List.take_add_one, List.getElem?_eq_getElem hi']
    exact (List.perm_append_singleton _ _).symm
  · rintro u ⟨h3, rfl, sb3, R3⟩
    refine wpAny_pure (hQ h3 sb3 (R3.perm ?_))
    rw [ls, List.take_length]
end My

namespace My
open PySem L2
theorem call_set_dict {P : Program} {w : World} {A : Around} {E : Value → Shared → Prop} {s : Shared} {d : Addr} {m : List Str} {kvs : List (Key × Value)} {Q : Value → Shared → Prop} (hd : Heap.DictOf (mixKind P w) s.heap d kvs) (hm : kvs.map (·.1) = m.map Sum.inr) (hn : kvs.length ≤ 30) (hs : (d == sysModules) = false)
    (hQ : ∀ (h' : Heap), (∀ (b : Addr) (o : Obj), s.heap.get? b = some o → h'.get? b = some o) → SetSR P w h' s.heap.objs.size m → Q (.ref s.heap.objs.size) { s with heap := h' }) : wpAny (model P w) A (call (Value.type "set") [.ref d]) Q E s := by
  obtain ⟨o, es, ep, h1, hex, hrest⟩ := id hd
  have ltd : d < s.heap.objs.size := Heap.lt_size h1
  obtain ⟨c, tl, hmro⟩ := F.called_set.mro
  refine wpAny_call (codeAny_of_tree ?_)
  refine wpAny_pure ⟨Code.quiet_builtin _ (by decide +kernel), codeAny_builtin F.entry_type_call ?_⟩
  rw [Around.under_plain (weight_type_call_type "set" [Value.ref d] []) rfl]
  have hcan : decide (((Manifest.find? "set").bind fun x => List.findSome? (fun t => (Manifest.find? t).bind fun b => if b.noNew = true then some true else if (b.attrs.any fun x => x.fst == "__new__") = true then some false else none) x.mro).getD false = true) = false := by rw [F.called_set.canCreate]; rfl
  unfold Builtin.«type.__call__»
  refine wpAny_ite_false (show decide ((Value.type "set" == Value.type "type") = true) = false from rfl) ?_
  refine wpAny_ite_false hcan ?_
  refine wpAny_bind (wpAny_of_eq (F.typeCall_set_1 _) ?_)
  refine wpAny_bind (wpAny_of_eq hmro ?_)
  refine wpAny_ite_false rfl ?_
  refine wpAny_bind (wpAny_of_eq F.called_set.made ?_)
  refine wpAny_bind (wpAny_pure ?_)
  refine wpAny_bind (wpAny_holding (wpAny_call (codeAny_mono (code_set_led1 (E := fun _ _ => False) (Q₁ := fun obj s₁ => obj = .ref s.heap.objs.size ∧ s₁ = { s with heap := s.heap.push { cls := Value.type "set", data := Data.set #[] 0 (SetTable.fresh 0 0 !w.params.followText "set-order") } }) _ ⟨rfl, rfl⟩) ?_)))
  intro r s₁ hr
  cases r with
  | error e => exact hr.elim
  | ok fl =>
    cases fl with
    | next => exact hr.elim
    | brk => exact hr.elim
    | cont => exact hr.elim
    | ret v =>
      obtain ⟨rfl, rfl⟩ := hr
      have hnew := Heap.get?_push_size s.heap (o := { cls := Value.type "set", data := Data.set #[] 0 (SetTable.fresh 0 0 !w.params.followText "set-order") }) rfl
      have td := (⟨_, hnew, rfl⟩ : Shared.TypeIs { s with heap := s.heap.push { cls := Value.type "set", data := Data.set #[] 0 (SetTable.fresh 0 0 !w.params.followText "set-order") } } (Value.ref s.heap.objs.size) "set")
      refine wpAny_bind (wpAny_isInstance td F.called_set.sub ?_)
      refine wpAny_ite_false (show decide ((!true) = true) = false from rfl) ?_
      refine wpAny_bind (wpAny_holding (wpAny_callSpecial?_slot td F.called_set.init ?_))
      refine wpAny_call (codeAny_call_builtin F.called_set.init.plain F.entry_set_init (check_set_init_1 td ?_))
      unfold Builtin.«set.__init__»
      have R := setTR_fresh (P := P) (w := w) hnew
      refine wpAny_bind (wpAny_pure ?_)
      refine wpAny_bind ?_
      unfold typeNameOfCut
      refine wpAny_bind ?_
      unfold shownTypeOf
      refine wpAny_bind (wpAny_typeOf td ?_)
      refine wpAny_ite_false (show decide ((Value.type "set" == Value.type "builtin_function_or_method") = true) = false from rfl) ?_
      refine wpAny_pure ?_
      refine wpAny_pure ?_
      refine wpAny_bind (wpAny_pure ?_)
      refine wpAny_bind (wpAny_pure ?_)
      refine wpAny_bind (wpAny_bind (wpAny_setState_of hnew rfl (SetTR.fits (s := { s with heap := s.heap.push { cls := Value.type "set", data := Data.set #[] 0 (SetTable.fresh 0 0 !w.params.followText "set-order") } }) R) (wpAny_pure ?_)))
      refine wpAny_ite_false (show decide (((SetTable.fresh 0 0 !w.params.followText "set-order").fill != 0) = true) = false from rfl) ?_
      have hd' : Heap.DictOf (mixKind P w) (s.heap.push { cls := Value.type "set", data := Data.set #[] 0 (SetTable.fresh 0 0 !w.params.followText "set-order") }) d kvs := ⟨o, es, ep, Heap.get?_push_of_some _ h1, hex, hrest⟩
      refine wpAny_bind (upd_dict (s := { s with heap := s.heap.push { cls := Value.type "set", data := Data.set #[] 0 (SetTable.fresh 0 0 !w.params.followText "set-order") } }) hnew hd' hm hn hs (Nat.ne_of_lt ltd) fun h' sb R' => ?_)
      refine wpAny_pure ?_
      refine wpAny_pure ?_
      refine hQ h' (fun b u e => ?_) R'
      rw [sb.2 b (Nat.ne_of_lt (Heap.lt_size e))]
      exact Heap.get?_push_of_some _ e
end My

namespace My
open PySem L2
theorem sorted_setS {P : Program} {w : World} {A : Around} {E : Value → Shared → Prop} {s : Shared} {a : Addr} {L : List Str} {Q : Value → Shared → Prop} (R : SetSR P w s.heap a L) (hh : A.handled = none) (hn : L.length < 64)
    (hQ : ∀ (s' : Shared) (p : Nat) (out : Array Value) (c : Nat) (ys : List Str), (∀ (b : Addr) (o : Obj), s.heap.get? b = some o → s'.heap.get? b = some o) → s'.gens = s.gens → s'.os = s.os → s.heap.objs.size ≤ p → s'.heap.get? p = some (PyProof.Rows.seqObj "list" out c) →
      Vals (ys.map V.str) out.toList → ys.Perm L → PyProof.Rows.sortedS ys = true → Q (.ref p) s') : wpAny (model P w) A (call (Value.builtin "sorted") [.ref a]) Q E s := by
  obtain ⟨o, es, ep, t, ks, ho, hex, hd, hel, hv, hp, hb, hf, hr, hl⟩ := R
  refine Calls.call_function_entry PyProof.Rows.kind_sorted PyProof.Rows.plain_sorted PyProof.Rows.entry_sorted (PyProof.Rows.args_sorted1 (Value.ref a)) ?_
  refine wpAny_bind (wpAny_pure ?_)
  refine wpAny_bind (collect_set hh ⟨o, ho, hex.1, hd⟩ hf hb hr hl fun s1 vs k1 hz g1 o1 pm => ?_)
  obtain ⟨ks', pk, hv'⟩ := vals_perm pm hv
  have lv : vs.length = L.length := by
    have h1 := Paired.len hv'
    rw [List.length_map] at h1
    rw [← h1, pk.length_eq, hp.length_eq]
  have h64 : vs.length < 64 := by omega
  have hsl : vs.length ≤ sizeLine := sz (by omega)
  refine wpAny_bind (wpAny_newList ?_ hsl)
  have hoL := Heap.get?_push_size s1.heap (o := PyProof.Rows.seqObj "list" vs.toArray 0) rfl
  have hS := Vals.strs hv'
  refine wpAny_bind (wpAny_holding (wpAny_call_entry (rest := []) PyProof.Rows.slot_list_sort ⟨_, hoL, rfl⟩ PyProof.Rows.entry_list_sort (PyProof.Rows.list_sort_treeK PyProof.Rows.strKind_oneLt hoL (PyProof.Rows.StrsAre.keysOf hS) (fun v₁ v₂ rest e => PyProof.Rows.keyKind_strs (by rw [← e]; exact hS)) h64 fun st' hp' hs' => ?_) (PyProof.Rows.args_list_sort _)))
  obtain ⟨ys, g1', g2, g3⟩ := PyProof.Rows.sorted_out_str hS hp' hs'
  obtain ⟨c, hc⟩ := PyProof.Rows.sortedHeap_at (out := Array.map (fun x => x.snd) (PyProof.Rows.arrOf st')) hoL
  refine ⟨_, rfl, ?_⟩
  refine wpAny_pure ⟨_, rfl, ?_⟩
  refine hQ _ s1.heap.objs.size _ c ys (fun b u e => ?_) g1 o1 hz hc (vals_of_strs g1') (g2.trans (pk.trans hp)) g3
  have q := k1 b u e
  have hlt := Heap.lt_size q
  show (PyProof.Rows.sortedHeap _ _ _ _).get? b = some u
  rw [PyProof.Rows.sortedHeap_old (Nat.ne_of_lt hlt) (by rw [PyProof.Rows.size_push']; exact Nat.lt_succ_of_lt hlt)]
  exact Heap.get?_push_of_some _ q
/-- a set of just the texts L -/
def SetSO (P : Program) (w : World) (a : Addr) (L : List Str) : HO := .ext fun h => SetSR P w h a L
theorem setSO_new {P : Program} {w : World} {H : Hp} {h : Heap} {a : Addr} {L : List Str} (R : SetSR P w h a L) : ObjOk P w H h a (SetSO P w a L) := by
  refine ⟨R, ?_, ?_⟩
  · obtain ⟨o, es, ep, t, ks, ho, _⟩ := R
    exact ⟨o, ho⟩
  · rintro h1 h2 ⟨o, es, ep, t, ks, ho, r⟩ k
    exact ⟨o, es, ep, t, ks, k o ho, r⟩
def rSetD (P : Program) (w : World) : List V → Hp → VK → Prop := fun xs H Q => ∃ (d : Addr) (kvs : List (Key × V)) (ks : List Str), xs = [.ref d] ∧ H d = some (.dK kvs) ∧ kvs.map (·.1) = ks.map Sum.inr ∧ kvs.length ≤ 30 ∧ ∀ a, H a = none → Q (.ref a) (upd H a (SetSO P w a ks))
theorem kv_keys {κ : Type} : ∀ {kvs : List (κ × V)} {vs : List (κ × Value)}, KV kvs vs → vs.map (·.1) = kvs.map (·.1)
  | _, _, .nil => rfl
  | _, _, .cons h r => by
    rw [List.map_cons, List.map_cons, kv_keys r, h.1]
theorem cr_setD {X : Cx} : CallR X (.type "set") (rSetD X.prog X.w) := by
  intro pins s σ H xs us Q I r h
  obtain ⟨d, kvs, ks, rfl, hd, hk, hn, q⟩ := h
  obtain ⟨u, rfl, ru⟩ := vals1 r
  cases ru
  obtain ⟨hz, hs, vs, kv, dof⟩ := (show kvs.length ≤ sizeLine ∧ (d == sysModules) = false ∧ ∃ vs, KV kvs vs ∧ Heap.DictOf (mixKind X.prog X.w) s.heap d vs from I.hok d _ hd)
  have e1 := kv_keys kv
  have e2 : vs.length = kvs.length := by
    have := congrArg List.length e1
    rwa [List.length_map, List.length_map] at this
  refine call_set_dict dof (e1.trans hk) (by omega) hs fun h' k R => ?_
  have hnw := HOk.fresh I.hok (Nat.le_refl s.heap.objs.size)
  exact ⟨.ref s.heap.objs.size, _, Inv.laid I k (Nat.le_refl _) (setSO_new R), rfl, q _ hnw⟩
def rSortedSet' (P : Program) (w : World) : List V → Hp → VK → Prop := fun xs H Q => ∃ (a : Addr) (L : List Str), xs = [.ref a] ∧ H a = some (SetSO P w a L) ∧ L.length < 64 ∧ ∀ (ys : List Str) (p : Addr), ys.Perm L → PyProof.Rows.sortedS ys = true → H p = none → Q (.ref p) (upd H p (.lst (ys.map V.str)))
theorem cr_sortedSO {X : Cx} (hc : X.calm = true) : CallR X (.builtin "sorted") (rSortedSet' X.prog X.w) := by
  intro pins s σ H xs us Q I r h
  obtain ⟨a, L, rfl, ha, hn, q⟩ := h
  obtain ⟨u, rfl, ru⟩ := vals1 r
  cases ru
  have R : SetSR X.prog X.w s.heap a L := (I.hok a _ ha).1
  refine sorted_setS R (I.ok.hd hc) hn fun s' p out c ys k g o hp hg hv pm so => ?_
  have hnp := HOk.fresh I.hok hp
  have hlen : (ys.map V.str).length ≤ sizeLine := by
    rw [List.length_map, pm.length_eq]
    exact sz (by omega)
  have J : Inv X pins σ (upd H p (.lst (ys.map V.str))) { heap := s'.heap, gens := s'.gens, drawn := s'.drawn, toks := s'.toks, os := s.os } :=
    Inv.call (ch := []) I (Un.laid k hp hnp) (HOk.laid I.hok k hp ⟨hlen, out.toList, c, hv, hg⟩) (by rw [g]; exact I.bare) fun x z => by cases z
  have e : s' = { heap := s'.heap, gens := s'.gens, drawn := s'.drawn, toks := s'.toks, os := s.os } := by rw [← o]
  rw [e]
  exact ⟨.ref p, _, J, rfl, q ys p pm so hnp⟩
end My

namespace My
open PySem L2
/-! a Lot: an instance with a dict of numbers above 0 -/
structure LoA (C : Addr) (H : Hp) (a : Addr) (m : AL) : Prop where
  ex : ∃ d dx, H a = some (.ins C dx [("_many", .ref d)]) ∧ H d = some (.dK (enc m))
  nd : (keys m).Nodup
  ps : ∀ p ∈ m, 0 < p.2
  ln : m.length ≤ 30
theorem LoA.same {C : Addr} {H H' : Hp} {a : Addr} {m : AL} (h : LoA C H a m) (s : Same H H') : LoA C H' a m := by
  obtain ⟨⟨d, dx, h1, h2⟩, nd, ps, ln⟩ := h
  exact ⟨⟨d, dx, s _ _ h1, s _ _ h2⟩, nd, ps, ln⟩
theorem LoA.upd {C : Addr} {H : Hp} {a p : Addr} {m : AL} {o : HO} (h : LoA C H a m) (hp : H p = none) : LoA C (L2.upd H p o) a m := h.same fun _ _ e => upd_at e (ne_of_none e hp)
theorem pos_all {m : AL} (h : ∀ p ∈ m, 0 < p.2) : pos m = m := List.filter_eq_self.mpr fun p hp => decide_eq_true (h p hp)
theorem LoA.pos {C : Addr} {H : Hp} {a : Addr} {m : AL} (h : LoA C H a m) : My.pos m = m := pos_all h.ps
theorem get_pos {m : AL} (h : ∀ p ∈ m, 0 < p.2) (nd : (keys m).Nodup) {k : Str} (hk : k ∈ keys m) : 0 < get m k := by
  obtain ⟨p, hp, rfl⟩ := List.mem_map.mp hk
  have e : look m p.1 = some p.2 := (look_mem nd).mpr hp
  unfold get
  rw [e]
  exact h p hp
theorem get_none {m : AL} {k : Str} (hk : k ∉ keys m) : get m k = 0 := by
  unfold get
  rw [look_none.mpr hk]
  rfl
theorem get_nn {m : AL} (h : ∀ p ∈ m, 0 < p.2) (nd : (keys m).Nodup) (k : Str) : 0 ≤ get m k := by
  by_cases c : k ∈ keys m
  · exact Int.le_of_lt (get_pos h nd c)
  · rw [get_none c]
    exact Int.le_refl _
theorem enc_keys (m : AL) : (enc m).map (·.1) = (keys m).map Sum.inr := by
  unfold enc keys
  rw [List.map_map, List.map_map]
  rfl
section
variable {X : Cx} {CX : CXT} {k : Nat} {C : Addr} {m : Str} {ps : List Str} {sp : Sp} {E : XK}
theorem pe_methO {o e : Expr} {es : List Expr} {ta : TE} {t : TA} {pos apos : Pos} {pl : Sem Bool} (O : OCal X.prog X.w X.K X.mg X.base CX k C m ps sp) (c : Cls X.K C) (hr : Room k X.A) (hx : Passes CX X E) (ho : PE X o ta) (ha : PA X (e :: es) t)
    (h1 : starEach (e :: es) X.env = (false, eval e X.env) :: starEach es X.env := by rfl) (h2 : (backTo pos (starEach es X.env)).any (·.1) = false := by rfl)
    (h3 : eval (.Call (.Attribute o m apos) (e :: es) [] pos) X.env = (do
      let ov ← eval o X.env
      standAt apos.atName
      let __x ← holding [ov] (getMethod ov m pl)
      match __x with
      | (f, first) => callWith pos f first (backTo pos (starEach (e :: es) X.env)) (backToKw pos (keywordEach [] X.env))) := by with_unfolding_all rfl) :
    PE X (.Call (.Attribute o m apos) (e :: es) [] pos) (tMeth C m sp [] E ta t) := by
  obtain ⟨f, fd, F, hs, hf, hk, _, hb⟩ := O.ex
  exact pe_meth (pl := pl) ho c ⟨hs, hf, hk⟩ F hr hb .nil hx ha h1 h2 h3
theorem pe_methO0 {o : Expr} {ta : TE} {pos apos : Pos} {pl : Sem Bool} (O : OCal X.prog X.w X.K X.mg X.base CX k C m ps sp) (c : Cls X.K C) (hr : Room k X.A) (hx : Passes CX X E) (ho : PE X o ta)
    (h3 : eval (.Call (.Attribute o m apos) [] [] pos) X.env = (do
      let ov ← eval o X.env
      standAt apos.atName
      let __x ← holding [ov] (getMethod ov m pl)
      match __x with
      | (f, first) => callWith pos f first (backTo pos (starEach [] X.env)) (backToKw pos (keywordEach [] X.env))) := by with_unfolding_all rfl) :
    PE X (.Call (.Attribute o m apos) [] [] pos) (tMeth C m sp [] E ta tNil) := by
  obtain ⟨f, fd, F, hs, hf, hk, _, hb⟩ := O.ex
  exact pe_meth0 (pl := pl) ho c ⟨hs, hf, hk⟩ F hr hb .nil hx h3
theorem r_meth0 {σ : L2.St} {H : Hp} {Q : VK} {ta : TE} (h : ta σ H fun x H1 => ∃ a dx fs, x = .ref a ∧ H1 a = some (.ins C dx fs) ∧ fs.lookup m = none ∧ sp [x] H1 Q E) : tMeth C m sp [] E ta tNil σ H Q := h
/-- C(e): a new instance by __init__ -/
structure OMk (P : Program) (w : World) (K : PySem.W.Frag) (mg : Str → Option Value) (base : Heap) (CX : CXT) (k : Nat) (C : Addr) (x : Str) (ps : List Str) (sp : Sp) : Prop where
  ex : ∃ (f : Addr) (fd : FuncData), Mk K C f ∧ FnOk P w K mg base CX k f fd ps sp ∧ mg x = some (.ref C) ∧ Binds K fd ps []
def tMk (C : Addr) (sp : Sp) (E : XK) (t : TA) : TE := fun σ H Q => t σ H fun vs H1 => ∀ x dx, H1 x = none → H1 dx = none → dx ≠ x → sp (.ref x :: vs) (upd (upd H1 dx (.own x)) x (.ins C dx [])) (fun v H2 => v = .non ∧ Q (.ref x) H2) E
theorem pe_makeO {x : Str} {e : Expr} {es : List Expr} {t : TA} {p pos : Pos} (O : OMk X.prog X.w X.K X.mg X.base CX k C x ps sp) (hr : Room (k + 1) X.A) (hx : Passes CX X E) (ha : PA X (e :: es) t) (hg : Gl X x := by rfl)
    (hdb : (x == ("__debug__" : Str)) = false := by decide) (he : starEach (e :: es) X.env = (false, eval e X.env) :: starEach es X.env := by rfl) (hpl : (backTo pos (starEach es X.env)).any (·.1) = false := by rfl) : PE X (.Call (.Name x p) (e :: es) [] pos) (tMk C sp E t) := by
  obtain ⟨f, fd, M, F, hm, hb⟩ := O.ex
  have h := pe_make (p := p) (pos := pos) M F hr hg hm hb (dvs := []) .nil hx ha hdb he hpl
  refine ⟨fun pins s σ H Q I q => h.run pins s σ H Q I ?_⟩
  have e : (fun vs H1 => ∀ x dx, H1 x = none → H1 dx = none → dx ≠ x → sp (.ref x :: (vs ++ [])) (upd (upd H1 dx (.own x)) x (.ins C dx [])) (fun v H2 => v = .non ∧ Q (.ref x) H2) E) = fun vs H1 => ∀ x dx, H1 x = none → H1 dx = none → dx ≠ x → sp (.ref x :: vs) (upd (upd H1 dx (.own x)) x (.ins C dx [])) (fun v H2 => v = .non ∧ Q (.ref x) H2) E := by
    funext vs H1
    rw [List.append_nil]
  show t σ H _
  rw [e]
  exact q
end
theorem fldK {X : Cx} {e : Expr} {f : Str} {pos : Pos} {ta : TE} (K : PySem.W.Frag) (h : PE X e ta) (hb : attributeBase e f X.env (eval e X.env) = eval e X.env) (eK : X.K = K := by rfl) : PE X (.Attribute e f pos) (tFld K ta f) := by
  subst eK
  exact pe_fld h hb
theorem rising_sle : ∀ {r : List Str} {x : Str}, PyProof.Rows.risingS x r = true → (x :: r).Pairwise (fun a b => sle a b = true)
  | [], x, _ => List.pairwise_singleton _ _
  | y :: r, x, h => by
    unfold PyProof.Rows.risingS at h
    rw [Bool.and_eq_true, PyProof.Rows.ltCps_eq] at h
    have ih := rising_sle h.2
    have h1 : sle x y = true := h.1
    refine List.pairwise_cons.mpr ⟨fun b hb => ?_, ih⟩
    rcases List.mem_cons.mp hb with z | z
    · rw [z]
      exact h1
    · exact sle_trans h1 ((List.pairwise_cons.mp ih).1 b z)
theorem sorted_sle : ∀ {ys : List Str}, PyProof.Rows.sortedS ys = true → ys.Pairwise (fun a b => sle a b = true)
  | [], _ => List.Pairwise.nil
  | _ :: _, h => rising_sle h
theorem cn_of {m : AL} {ys : List Str} (h : ∀ p ∈ m, 0 < p.2) (nd : (keys m).Nodup) (hp : ys.Perm (keys m)) (hs : PyProof.Rows.sortedS ys = true) : Cn m (ys.map fun k => (k, get m k)) := by
  constructor
  · rw [pos_all h]
    refine (hp.map _).trans (List.Perm.of_eq ?_)
    unfold keys
    rw [List.map_map]
    refine (List.map_congr_left fun p hp => ?_).trans (List.map_id m)
    show (p.1, get m p.1) = p
    unfold get
    rw [(look_mem nd).mpr (show (p.1, p.2) ∈ m from hp)]
    rfl
  · rw [List.pairwise_map]
    refine List.Pairwise.imp (fun {a b} z => ?_) (List.Pairwise.and (sorted_sle hs) (hp.nodup_iff.mpr nd))
    show (if a = b then _ else sle a b) = true
    rw [if_neg z.2]
    exact z.1
theorem keys_map (m : AL) (f : Str → Int → Int) : keys (m.map fun p => (p.1, f p.1 p.2)) = keys m := by
  unfold keys
  rw [List.map_map]
  rfl
theorem look_mapf : ∀ (m : AL) (f : Str → Int → Int) (k : Str), look (m.map fun p => (p.1, f p.1 p.2)) k = (look m k).map (f k)
  | [], _, _ => rfl
  | p :: r, f, k => by
    rw [List.map_cons, look_cons, look_cons, look_mapf r f k]
    by_cases e : p.1 = k
    · rw [if_pos e, if_pos e, ← e]
      rfl
    · rw [if_neg e, if_neg e]
theorem tot_mapf {m : AL} (f : Str → Int → Int) (nd : (keys m).Nodup) (k : Str) : tot (m.map fun p => (p.1, f p.1 p.2)) k = if k ∈ keys m then f k (get m k) else 0 := by
  rw [tot_nodup k (by rw [keys_map]; exact nd)]
  unfold get
  rw [look_mapf]
  by_cases h : k ∈ keys m
  · rw [if_pos h]
    cases e : look m k with
    | none => exact absurd h (look_none.mp e)
    | some v => rfl
  · rw [if_neg h, look_none.mpr h]
    rfl
theorem Cn.mem {m qs : AL} (h : Cn m qs) (mp : ∀ p ∈ m, 0 < p.2) (p : Str × Int) : p ∈ qs ↔ p ∈ m := by
  have := h.1.mem_iff (a := p)
  rwa [pos_all mp] at this
theorem Cn.len {m qs : AL} (h : Cn m qs) (mp : ∀ p ∈ m, 0 < p.2) : qs.length = m.length := by
  have := h.1.length_eq
  rwa [pos_all mp] at this
theorem Cn.totf {m qs : AL} (h : Cn m qs) (mp : ∀ p ∈ m, 0 < p.2) (nd : (keys m).Nodup) (f : Str → Int → Int) (k : Str) : tot (qs.map fun p => (p.1, f p.1 p.2)) k = if k ∈ keys m then f k (get m k) else 0 := by
  have e := h.1
  rw [pos_all mp] at e
  rw [tot_perm (e.map _), tot_mapf f nd]
theorem r_mk {C : Addr} {sp : Sp} {E : XK} {σ : L2.St} {H : Hp} {Q : VK} {t : TA} (h : t σ H fun vs H1 => ∀ x dx, H1 x = none → H1 dx = none → dx ≠ x → sp (.ref x :: vs) (L2.upd (L2.upd H1 dx (.own x)) x (.ins C dx [])) (fun v H2 => v = .non ∧ Q (.ref x) H2) E) : tMk C sp E t σ H Q := h
/-- facts of the class Lot -/
structure TxL (K : PySem.W.Frag) (C : Addr) : Prop where
  oc : OCls K C
  nM : NoAttr K C "_many"
theorem r_many {σ : L2.St} {H : Hp} {Q : VK} {K : PySem.W.Frag} {C a d dx : Addr} {i : Nat} (L : TxL K C) (h : H a = some (.ins C dx [("_many", .ref d)])) (q : Q (.ref d) H) (e : σ[i]? = some (some (.ref a)) := by rfl) : tFld K (tVar i) "_many" σ H Q :=
  ⟨_, e, a, C, dx, _, _, rfl, h, L.oc.cl, L.nM, List.lookup_cons_self, q⟩
theorem look1 {m : Str} {v : V} (h : (m == ("_many" : Str)) = false := by decide +kernel) : List.lookup m [(("_many" : Str), v)] = none := by
  rw [List.lookup_cons, h]
  rfl
theorem r_isD {H : Hp} {d : Addr} {m : AL} {R : Prop} (h : H d = some (.dK (enc m))) (q : R) : IsD H d ∧ R := ⟨Or.inl ⟨enc m, Or.inl h⟩, q⟩
theorem r_setMany {σ : L2.St} {H : Hp} {D : Ends} {K : PySem.W.Frag} {C a dx : Addr} {tv : TE} {i : Nat} (L : TxL K C) (e : σ[i]? = some (some (.ref a))) (h : tv σ H fun y H1 => ∃ fs, H1 a = some (.ins C dx fs) ∧ fs.length < 1000 ∧ D.nx σ (L2.upd H1 a (.ins C dx (putF "_many" y fs)))) (mono : ∀ f g : VK, (∀ x H, f x H → g x H) → tv σ H f → tv σ H g) : sFld K (tVar i) tv "_many" D σ H :=
  mono _ _ (fun _ _ ⟨fs, h1, h2, h3⟩ => ⟨_, e, a, C, dx, fs, rfl, h1, L.oc.cl, L.nM, h2, h3⟩) h
theorem r_setD {P : Program} {w : World} {H : Hp} {Q : VK} {d : Addr} {m : AL} (h : H d = some (.dK (enc m))) (hn : m.length ≤ 30) (q : ∀ a, H a = none → Q (.ref a) (L2.upd H a (SetSO P w a (keys m)))) : rSetD P w [.ref d] H Q := ⟨d, enc m, keys m, rfl, h, enc_keys m, by rw [enc_len]; exact hn, q⟩
theorem r_sortedSO {P : Program} {w : World} {H : Hp} {Q : VK} {a : Addr} {L : List Str} (h : H a = some (SetSO P w a L)) (hn : L.length < 64) (q : ∀ (ys : List Str) (p : Addr), ys.Perm L → PyProof.Rows.sortedS ys = true → H p = none → Q (.ref p) (L2.upd H p (.lst (ys.map V.str)))) : rSortedSet' P w [.ref a] H Q := ⟨a, L, rfl, h, hn, q⟩
end My

namespace My
open PySem L2
theorem r_ixO {C : Addr} {sp : Sp} {E : XK} {ta tb : TE} {σ : L2.St} {H : Hp} {Q : VK} (h : ta σ H fun x H1 => tb σ H1 fun y H2 => ∃ a dx fs, x = .ref a ∧ H2 a = some (.ins C dx fs) ∧ sp [x, y] H2 Q E) : tIxO C sp E ta tb σ H Q := h
end My

namespace My
open PySem L2
/-- X(): an own class of errors without __init__, made of nothing -/
theorem pmk_own0 {X : Cx} {C : Addr} {bmB : List Value} {B newId initId : String} {x : Str} {p pos : Pos} (F : ExcBaseFacts B newId initId bmB) (q : PySem.W.excIn X.K C bmB newId = true) (gC : X.mg x = some (.ref C)) (kC : PySem.W.keepIn X.K (.ref C) = true) (r : Raises X (.ref C)) (hg : Gl X x) (hdb : (x == ("__debug__" : Str)) = false := by decide) :
    PMk X (.Call (.Name x p) [] [] pos) (fun _ H Q => Q (.ref C) none H) := by
  intro pins s σ H Q I h
  refine wpAny_Call_Name_kw (ld_glob I hg gC ?_ hdb)
  refine PySem.W.callWith_K0 I.kIn kC ?_
  obtain ⟨bm, N, nm, qn, bs, hdct, sn, sub, ab, col, dd, k0, k1, k2, k3, k5, mN, hC, hN, hni, T⟩ := exc_obj I.kIn q
  exact wpAny_call_exc_subT F T hC hN hni (fun h' e hm => mk_of I hm r h (HOk.gone I.hok hm.new)) (Nat.zero_le _)
theorem passE0 {X : Cx} : PassS CX0 X (fun _ => E0) := fun _ _ _ _ _ _ _ h => h.elim
theorem r_opS {r : L2.St → R2} {ta tb : TE} {σ : L2.St} {H : Hp} {Q : VK} (h : ta σ H fun x H1 => tb σ H1 fun y H2 => r σ x y H2 Q) : tOpS r ta tb σ H Q := h
theorem r_catA {K : PySem.W.Frag} {H : Hp} {Q : VK} {a b : Addr} {xs ys : List V} (h1 : SqT K H a xs) (h2 : SqT K H b ys) (hl : xs.length + ys.length ≤ sizeLine) (q : ∀ c H', SqT K H' c (xs ++ ys) → Same H H' → Q (.ref c) H') : rCatA K (.ref a) (.ref b) H Q := by
  refine ⟨a, b, xs, ys, rfl, rfl, h1, h2, hl, fun e => ?_, fun _ e => ?_, fun _ _ p hp => ?_⟩
  · refine q b H ?_ fun _ _ z => z
    rw [e]
    exact h2
  · refine q a H ?_ fun _ _ z => z
    rw [e, List.append_nil]
    exact h1
  · exact q p _ (SqT.of upd_same) fun c o z => upd_at z (ne_of_none z hp)
end My

namespace My
open PySem L2
theorem hu64 {k : Nat} {A : Around} (h : Room k A) : A.units + 64 < cLine := by
  have := h.un
  omega
def pd1 (p : Str × Int) : PyData := .tuple [.str p.1, .int p.2]
def pd (qs : AL) : PyData := .tuple (qs.map pd1)
theorem dp_all {K : PySem.W.Frag} {H : Hp} : ∀ {xs : List V} {qs : AL}, Paired (PrA H) xs qs → DpAll K H xs (qs.map pd1)
  | _, _, .nil => .nil
  | _, _, .cons h r => by
    obtain ⟨t, e, ht⟩ := h
    subst e
    exact .cons (.tup (SqT.of ht) (.cons (.str _) (.cons (.int _) .nil))) (dp_all r)
theorem dp_pairs {K : PySem.W.Frag} {H : Hp} {a : Addr} {xs : List V} {qs : AL} (h : H a = some (.tup xs)) (hp : Paired (PrA H) xs qs) : Dp K H (.ref a) (pd qs) := .tup (SqT.of h) (dp_all hp)
theorem eqv_nil (qs : AL) : (pd qs).eqv (.tuple []) = qs.isEmpty := by
  cases qs with
  | nil => rfl
  | cons p r => rfl
theorem strOk_kind {z : Str} (h : KindS z) : PyData.strOk z = true := by
  show z.cps.all (fun c => decide (c < 0x110000)) = true
  rw [← Array.all_toList, List.all_eq_true]
  intro c hc
  have := h.2.2 c hc
  exact decide_eq_true (by omega)
theorem can_pd {qs : AL} (h : ∀ p ∈ qs, KindS p.1) : (pd qs).canLay0 = true := by
  unfold pd
  unfold PyData.canLay0
  induction qs with
  | nil => rfl
  | cons p r ih =>
    rw [List.map_cons]
    show (PyData.canLay0 (pd1 p) && PyData.canLayAll0 (List.map pd1 r)) = true
    rw [ih fun q hq => h q (List.mem_cons_of_mem _ hq), Bool.and_true]
    show (PyData.strOk p.1 && (true && true)) = true
    rw [strOk_kind (h p List.mem_cons_self)]
    rfl
theorem depth_pd (qs : AL) : PyData.depthAll (qs.map pd1) ≤ 1 := by
  induction qs with
  | nil => exact Nat.zero_le _
  | cons p r ih =>
    rw [List.map_cons]
    show max (PyData.depth (pd1 p)) (PyData.depthAll (List.map pd1 r)) ≤ 1
    exact Nat.max_le.mpr ⟨by show max 0 (max 0 0) + 1 ≤ 1; decide, ih⟩
theorem shaped_pd {qs : AL} (h : ∀ p ∈ qs, KindS p.1) : SeqAt.shaped (pd qs) = true := by
  unfold SeqAt.shaped
  rw [can_pd h, Bool.true_and]
  refine decide_eq_true ?_
  show PyData.depthAll (qs.map pd1) + 1 ≤ 64
  have := depth_pd qs
  omega
end My

namespace My
open PySem L2
/-- an error of the class cls, without a dict of its own -/
def ExT (cls : Value) (a : Addr) : HO := .ext fun h => ∃ oe vs, h.get? a = some oe ∧ Zc cls none oe ∧ oe.data = Data.fields vs
theorem extT_ok {P : Program} {w : World} {H : Hp} {h : Heap} {a : Addr} {cls : Value} {oe : Obj} {vs : Array Value} (h1 : h.get? a = some oe) (h2 : Zc cls none oe) (h3 : oe.data = Data.fields vs) : ObjOk P w H h a (ExT cls a) := by
  refine ⟨⟨oe, vs, h1, h2, h3⟩, ⟨oe, h1⟩, ?_⟩
  rintro g1 g2 ⟨o, v, e1, e2, e3⟩ k
  exact ⟨o, v, k o e1, e2, e3⟩
theorem track {X : Cx} {pins : List (Addr × Obj)} {σ : L2.St} {H : Hp} {s : Shared} {a : Addr} {oe : Obj} {cls : Value} {vs : Array Value} (I : Inv X ((a, oe) :: pins) σ H s) (h0 : X.s_0.heap.get? a = none) (hz : Zc cls none oe) (hd : oe.data = Data.fields vs) (hne : ∀ p ∈ X.pn ++ pins, p.1 ≠ a) : Inv X pins σ (upd H a (ExT cls a)) s := by
  have hp := I.pin (a, oe) (List.mem_append_right _ List.mem_cons_self)
  obtain ⟨ha, hn, hl, hf, hc⟩ := hp
  have hn : H a = none := hn
  have ha : s.heap.get? a = some oe := ha
  refine ⟨I.ok, I.os, I.bare, ?_, I.loc, I.cell, ?_, ?_, ?_, ?_, I.len⟩
  · obtain ⟨k1, k2, k3, k4, k5, k6, k7⟩ := I.base
    refine ⟨k1, k2, fun b o e n hb => ?_, k4, fun b xs e => ?_, fun b o u e => ?_, fun b ps e => ?_⟩
    · rw [upd_ne (fun z => by rw [z, h0] at e; cases e)]
      exact k3 b o e n hb
    · exact upd_at (k5 b xs e) (ne_of_none (k5 b xs e) hn)
    · exact upd_at (k6 b o u e) (ne_of_none (k6 b o u e) hn)
    · obtain ⟨m, e2⟩ := k7 b ps e
      exact ⟨m, upd_at e2 (ne_of_none e2 hn)⟩
  · rw [upd_ne (Ne.symm hl)]
    exact I.free
  · intro x c e
    obtain ⟨v, o, ho, hd2⟩ := I.cell x c e
    have : c ≠ a := fun z => by
      rw [z, ha] at ho
      cases ho
      exact hc v hd2
    rw [upd_ne this]
    exact I.freeC x c e
  · intro p hp
    obtain ⟨q1, q2, q3, q4, q5⟩ := I.pin p (by
      rcases List.mem_append.mp hp with z | z
      · exact List.mem_append_left _ z
      · exact List.mem_append_right _ (List.mem_cons_of_mem _ z))
    exact ⟨q1, by rw [upd_ne (hne p hp)]; exact q2, q3, q4, q5⟩
  · intro b u e
    by_cases hb : b = a
    · subst hb
      rw [upd_same] at e
      cases e
      exact extT_ok ha hz hd
    · rw [upd_ne hb] at e
      exact ObjOk.stay (I.hok b u e) (fun _ _ _ z => z) (fun c z => upd_at z (ne_of_none z hn)) fun c xs z => upd_at z (ne_of_none z hn)
end My

namespace My
open PySem L2
def rIsT (K : PySem.W.Frag) (D : Addr) : List V → Hp → VK → Prop := fun xs H Q => ∃ (a : Addr) (c : V) (cv : Value) (b : Bool), xs = [.ref a, c] ∧ H a = some (ExT (.ref D) a) ∧ (∀ u, RelV c u → u = cv) ∧ PySem.W.kitOne K (.ref D) cv = some b ∧ Q (.bl b) H
/-- isinstance of a tracked error -/
theorem call_isT {X : Cx} {D : Addr} (C : ExcC X.K D) : CallR X (.builtin "isinstance") (rIsT X.K D) := by
  intro pins s σ H xs us Q I r h
  obtain ⟨a, c, cv, b, rfl, ha, hcv, e, q⟩ := h
  match us, r with
  | [u, u2], .cons rx (.cons rt .nil) =>
    have e1 : u = .ref a := rx
    have e2 := hcv u2 rt
    subst e1 e2
    obtain ⟨oe, vs, h1, h2, h3⟩ := (I.hok a _ ha).1
    have J : PySem.W.InstAt s.heap a oe D none := ⟨h1, h2.1, by unfold PySem.W.notCls; rw [h3], by rw [show oe.dict = none from h2.2]; trivial⟩
    exact PySem.W.kia_one (PySem.W.handS_kitx_exc C.hg C.hk C.hs C.hd C.ha C.hn C.ht C.hm) I.kIn J e (fun z => nomatch z) fun tk => ⟨.bl b, H, I.kept fun _ _ z => z, rfl, q⟩
theorem unsuite2 {X : Cx} {pins : List (Addr × Obj)} {σ : L2.St} {H : Hp} {s : Shared} {a : Addr} {q : Addr × Obj} {pn' : List (Addr × Obj)} (I : Inv (X.suite a (q :: (X.pn ++ pins))) pn' σ H s) (ok : X.Ok) : Inv X (q :: pins) σ H s :=
  ⟨ok, I.os, I.bare, I.base, I.loc, I.cell, I.free, I.freeC, fun p hp => I.pin p (by
    rcases List.mem_append.mp hp with z | z
    · exact List.mem_append_left _ (List.mem_cons_of_mem _ (List.mem_append_left _ z))
    · rcases List.mem_cons.mp z with z | z
      · rw [z]
        exact List.mem_append_left _ List.mem_cons_self
      · exact List.mem_append_left _ (List.mem_cons_of_mem _ (List.mem_append_right _ z))), I.hok, I.len⟩
def wT (cls : Value) (i : Nat) (ts : Addr → TS) (D : Ends) : WX := fun cls' d σ H => cls' = cls ∧ d = none ∧ ∀ a, H a = none → ts a { nx := fun σ' H' => H' a = none → D.nx (σ'.set i none) (upd H' a (ExT cls a)), rt := D.rt, bk := fun σ' H' => D.bk (σ'.set i none) H', ct := fun σ' H' => D.ct (σ'.set i none) H' } (σ.set i (some (.ref a))) H
/-- try: .. except x as n: ..; the error is tracked behind the suite -/
theorem ps_try_asT {X : Cx} {x n : Str} {c cls : Value} {i : Nat} {body suite : List Stmt} {b₀ : Stmt} {np pos pos' : Pos} {tb : WX → TS} {ts : Addr → TS} (hs : X.stack = X.env :: X.outer) (hf : X.env.frame = some X.env.locals) (hN : X.N.Nodup) (hi : X.N[i]? = some n) (hln : X.env.kindOf n = some NameKind.local) (hg : Gl X x) (hdb : (x == ("__debug__" : Str)) = false) (hmg : X.mg x = some c) (hex : X.ex = []) (hm : PySem.W.exmOne X.K cls c = some true)
    (hb : ∀ (W : WX) (pn : List (Addr × Obj)) (xe : Value → Shared → Prop), Takes (X.tr pn xe) W → PassesOwn (model X.prog X.w) X.A X.env xe → PSs (X.tr pn xe) body (tb W))
    (hsu : ∀ (a : Addr) (oe : Obj) (pn : List (Addr × Obj)), Zc cls none oe → (∃ vs, oe.data = Data.fields vs) → PSs (X.suite a ((a, oe) :: pn)) (b₀ :: suite) (ts a)) :
    PS X (.Try body [.ExceptHandler (some (.Name x np)) (some n) (b₀ :: suite) pos'] [] [] pos) (fun D σ H => tb (wT cls i ts D) D σ H) := by
  refine ⟨fun pins s σ H D I h => ?_⟩
  have ok := I.ok
  have hfr : X.A.frames = some (X.env :: X.outer) := by rw [ok.frames, hs]
  refine wpAny_Try_except (wpAny_mono ((hb (wT cls i ts D) (X.pn ++ pins) _ ?_ PassesOwn.looking).run [] s σ H D (Inv.toTry I _) h) ?_ fun e s1 he => he)
  · rintro u s' ⟨a, B, sI, pins', σ', H', cls', d, rfl, J', nb, up, sky, na, os, ag, rfl, rfl, hy⟩
    have J := Inv.ofTry J' ok
    have sky' : Sky B (X.env :: X.outer) a (Zc cls' none) X.env.locals s'.heap := by rw [← hs]; exact sky
    refine Sky.land Zc.steady hfr hf sky' fun h3 fl3 up3 => ?_
    have J3 := Inv.landed (s' := { s' with heap := h3 }) J nb fl3.1 (up.trans up3) os ag
    obtain ⟨oe3, vs3, he3, hz3, hd3⟩ := HandSPX.FlyingZ.there fl3
    have nfr : a ∉ List.filterMap (fun x => x.frame) (X.env :: X.outer) := fun hm' => by
      obtain ⟨_, o', e', hnf⟩ := Heap.FunFrames.mem fl3.2.2.1 hm'
      rw [he3] at e'
      cases e'
      exact hnf vs3 hd3
    have nL : a ≠ X.env.locals := fun z => nfr (List.mem_filterMap.mpr ⟨X.env, List.mem_cons_self, by rw [hf, z]⟩)
    have nF : a ∉ X.fs := fun hm' => by
      obtain ⟨e, he, q⟩ := List.mem_filterMap.mp hm'
      exact nfr (List.mem_filterMap.mpr ⟨e, List.mem_cons_of_mem _ he, q⟩)
    have S3 := Inv.suite J3 he3 hd3 na nL nF
    have aB : B.get? a = none := fl3.2.1
    have fra : a ∉ frs X.stack := by rw [hs]; exact nfr
    have aI : sI.heap.get? a = none := by
      cases e : sI.heap.get? a with
      | none => rfl
      | some o => rw [nb a o e fra] at aB; cases aB
    have h0 : X.s_0.heap.get? a = none := by
      cases e : X.s_0.heap.get? a with
      | none => rfl
      | some o =>
        by_cases hx : a ∈ X.ex
        · rw [hex] at hx; cases hx
        · obtain ⟨o', e'⟩ := J.base.there a o e hx
          rw [aI] at e'
          cases e'
    have hne : ∀ p ∈ X.pn ++ pins, p.1 ≠ a := fun p hp z => by
      have := (J.pin p hp).1
      rw [z, aI] at this
      cases this
    refine wpAny_handleBy_cons (codeAny_handlers_test ?_) (by intro z; cases z)
    refine ld_glob (X := X.suite a ((a, oe3) :: (X.pn ++ pins))) S3 hg hmg ?_ hdb
    have LT : PySem.W.Looks (model X.prog X.w) h3 (typeOf (.ref a)) cls' := fun A Q E s hk hq => by
      refine wpAny_typeOf_ref (hk a oe3 he3) ?_
      rw [hz3.1]
      exact hq
    refine PySem.W.Looks.here (PySem.W.exm_one S3.kIn LT hm) ?_
    refine codeAny_handlers_suite_as (HandSPX.lands_againZ fl3 fun h4 fl4 up4 => ?_)
    have J4 := Inv.landed (s' := { s' with heap := h4 }) J nb fl4.1 ((up.trans up3).trans up4) os ag
    obtain ⟨oe4, vs4, he4, hz4, hd4⟩ := HandSPX.FlyingZ.there fl4
    have S4 := Inv.suite J4 he4 hd4 na nL nF
    refine store_ok (X := X.suite a ((a, oe4) :: (X.pn ++ pins))) (v := .ref a) S4 hN hi (Or.inl hln) rfl (fun s5 S5 => ?_) (Or.inr hln)
    refine wpAny_mono ((hsu a oe4 (X.pn ++ pins) hz4 ⟨vs4, hd4⟩).run [] s5 _ H' _ S5 (hy a na)) ?_ fun e s he => he.elim
    intro f s6 hsp
    cases f with
    | next =>
      obtain ⟨σ6, H6, S6, hq⟩ := hsp
      have S6' := unsuite2 S6 ok
      refine gone_ok S6' hN hi hln fun s7 S7 => ⟨_, _, track S7 h0 hz4 hd4 hne, hq ?_⟩
      exact (S7.pin (a, oe4) (List.mem_append_right _ List.mem_cons_self)).2.1
    | brk =>
      obtain ⟨σ6, H6, S6, hq⟩ := hsp
      exact gone_ok (Inv.unsuite S6 ok) hN hi hln fun s7 S7 => ⟨_, _, S7, hq⟩
    | cont =>
      obtain ⟨σ6, H6, S6, hq⟩ := hsp
      exact gone_ok (Inv.unsuite S6 ok) hN hi hln fun s7 S7 => ⟨_, _, S7, hq⟩
    | ret v =>
      obtain ⟨v', σ6, H6, S6, r, hq⟩ := hsp
      exact gone_ok (Inv.unsuite S6 ok) hN hi hln fun s7 S7 => ⟨v', _, _, S7, r, hq⟩
  · intro f s1 hsp
    cases f with
    | next =>
      obtain ⟨σ', H', J', q⟩ := hsp
      exact wpAny_execs_nil ⟨σ', H', Inv.ofTry J' ok, q⟩
    | brk =>
      obtain ⟨σ', H', J', q⟩ := hsp
      exact ⟨σ', H', Inv.ofTry J' ok, q⟩
    | cont =>
      obtain ⟨σ', H', J', q⟩ := hsp
      exact ⟨σ', H', Inv.ofTry J' ok, q⟩
    | ret v =>
      obtain ⟨v', σ', H', J', r, q⟩ := hsp
      exact ⟨v', σ', H', Inv.ofTry J' ok, r, q⟩
end My

/-! own errors with fields, made, raised, caught and kept as values -/
namespace My
open PySem L2
/-- an error of the class cls with the dict d -/
def ExD (cls : Value) (d : Option Addr) (a : Addr) : HO := .ext fun h => ∃ (oe : Obj) (vs : Array Value), h.get? a = some oe ∧ Zc cls d oe ∧ oe.data = Data.fields vs
theorem exD_ok {P : Program} {w : World} {H : Hp} {h : Heap} {a : Addr} {cls : Value} {d : Option Addr} {oe : Obj} {vs : Array Value} (h1 : h.get? a = some oe) (h2 : Zc cls d oe) (h3 : oe.data = Data.fields vs) : ObjOk P w H h a (ExD cls d a) :=
  ⟨⟨oe, vs, h1, h2, h3⟩, ⟨oe, h1⟩, fun _ _ ⟨o, v, e1, e2, e3⟩ k => ⟨o, v, k o e1, e2, e3⟩⟩
theorem exD_at {P : Program} {w : World} {H : Hp} {h : Heap} {a : Addr} {cls : Value} {d : Option Addr} (hok : HOk P w H h) (e : H a = some (ExD cls d a)) : ∃ (oe : Obj) (vs : Array Value), h.get? a = some oe ∧ Zc cls d oe ∧ oe.data = Data.fields vs := by
  have x : ObjOk P w H h a (.ext fun h => ∃ (oe : Obj) (vs : Array Value), h.get? a = some oe ∧ Zc cls d oe ∧ oe.data = Data.fields vs) := hok a _ e
  exact x.1
/-- at a an error of the class C with the fields fs -/
def Er (H : Hp) (a C : Addr) (fs : List (Str × V)) : Prop := ∃ d, H a = some (ExD (.ref C) d a) ∧ ((d = none ∧ fs = []) ∨ ∃ dd, d = some dd ∧ H dd = some (.xd fs))
theorem Er.same {H H' : Hp} {a C : Addr} {fs : List (Str × V)} (h : Er H a C fs) (s : ∀ c o, H c = some o → H' c = some o) : Er H' a C fs := by
  obtain ⟨d, h1, h2⟩ := h
  refine ⟨d, s _ _ h1, ?_⟩
  rcases h2 with z | ⟨dd, z1, z2⟩
  · exact .inl z
  · exact .inr ⟨dd, z1, s _ _ z2⟩
/-- the object with its dict, in the heap -/
theorem Er.inst {P : Program} {w : World} {H : Hp} {h : Heap} {a C : Addr} {fs : List (Str × V)} (hok : HOk P w H h) (e : Er H a C fs) : ∃ (oe : Obj) (od : Option Obj), PySem.W.InstAt h a oe C od ∧ (fs ≠ [] → ∃ (mA : Str → Option Value) (o : Obj), od = some o ∧ (∀ f, RelO (fs.lookup f) (mA f)) ∧ ∀ f, PySem.W.lookIn f o = some (mA f)) := by
  obtain ⟨d, h1, h2⟩ := e
  obtain ⟨oe, vs, g1, g2, g3⟩ := exD_at hok h1
  rcases h2 with ⟨rfl, rfl⟩ | ⟨dd, rfl, h2⟩
  · exact ⟨oe, none, ⟨g1, g2.1, by unfold PySem.W.notCls; rw [g3], by rw [g2.2]; trivial⟩, fun z => absurd rfl z⟩
  · have hx : ObjOk P w H h dd (.xd fs) := hok dd _ h2
    obtain ⟨mA, hns, hr⟩ := hx
    obtain ⟨od, ho, hl⟩ := lookIn_ns hns
    exact ⟨oe, some od, ⟨g1, g2.1, by unfold PySem.W.notCls; rw [g3], by rw [g2.2]; exact ho⟩, fun _ => ⟨mA, od, rfl, hr, hl⟩⟩
/-! ### e.f -/
def tXd (K : PySem.W.Frag) (f : Str) (te : TE) : TE := fun σ H Q => te σ H fun x H1 => ∃ (a C : Addr) (fs : List (Str × V)) (v : V), x = .ref a ∧ Er H1 a C fs ∧ XfC K C ∧ PySem.W.findIn K (.ref C) f = some none ∧ fs.lookup f = some v ∧ Q v H1
theorem pe_xd {X : Cx} {e : Expr} {te : TE} {pos : Pos} {n : Str} (K : PySem.W.Frag) (he : PE X e te) (hb : attributeBase e n X.env (eval e X.env) = eval e X.env := by rfl) (eK : X.K = K := by rfl) : PE X (.Attribute e n pos) (tXd K n te) := by
  subst eK
  refine ⟨fun pins s σ H Q I h => ?_⟩
  refine attr_of hb (thn (he.run pins s σ H _ I h) fun u s1 hh => ?_)
  obtain ⟨x, H1, I1, rx, a, C, fs, v, ex, ea, T, hno, l, q⟩ := hh
  subst ex
  obtain rfl : u = Value.ref a := rx
  obtain ⟨oe, od, J, hd⟩ := ea.inst I1.hok
  have hne : fs ≠ [] := fun z => by rw [z] at l; cases l
  obtain ⟨mA, o, rfl, hr, hl⟩ := hd hne
  obtain ⟨u, hu, ru⟩ := RelO.some_of (v := v) (o := mA n) (by rw [← l]; exact hr n)
  exact HandSPX.exc_get I1.kIn J T.ga T.gg T.exC (PySem.W.findObj_own T.hdC hno rfl (by rw [hl, hu])) (handed_of ru) ⟨v, H1, I1.tok _, ru, q⟩
end My
namespace PySem.W
open PySem PySem.Spec PySem.Calls PyProof.Rows
section
variable {prog : Program} {w : World} {A : Around} {E : Value → Shared → Prop} {s : Shared} {K : Frag} {x D : Addr} {ox : Obj} {od : Option Obj}
theorem my_findObj_data {C : Addr} {name : Str} {a g : Value} (hc : (clsIn K C).isSome = true) (ha : findIn K (.ref C) name = some (some a)) (hg : specialIn K a "__get__" = some (some g)) (ht : takesIn K a = some true) : findObj K C od name = some (.bind g a) := by
  obtain ⟨cd, hc⟩ := Option.isSome_iff_exists.mp hc
  unfold findObj
  rw [hc, Option.bind_some, ha, Option.bind_some]
  simp [hg, ht]
theorem my_kin_class {Q : Option Value → Shared → Prop} (C : L2.ExcC K D)
    (X : K.In s.heap) (I : InstAt s.heap x ox D od) (h : Q (some (.ref D)) { s with toks := s.toks + 1 }) : wpAny (model prog w) A (getAttr? (.ref x) "__class__") Q E s := by
  have hf : findObj K D od "__class__" = some (.bind (.builtin "getset_descriptor.__get__") (.builtin "object.__class__")) := my_findObj_data (by obtain ⟨cd, hc, _⟩ := any_some C.hd; rw [hc]; rfl) C.ha C.hn C.ht
  obtain ⟨hp, g, d, t, os⟩ := s
  have L0 := I.type (M := model prog w)
  have L1 := looks_findIn (M := model prog w) X C.hg
  have L2 := looks_findIn (M := model prog w) X C.hk
  have L3 := looks_find (M := model prog w) X I hf
  have sub : Looks (model prog w) hp (isInstance (.ref x) (.type "BaseException")) true := L0.andThen (looks_subIn X C.hs)
  have hx0 : (false && onTheHeap (Value.builtin "BaseException.__getattribute__")) = false := rfl
  have hx2 : (Value.builtin "BaseException.__getattribute__" == Value.builtin "object.__getattribute__") = false := by decide +kernel
  have hx1 : (onTheHeap (Value.ref D) && Value.builtin "BaseException.__getattribute__" == Value.builtin "object.__getattribute__") = false := by rw [hx2]; rfl
  unfold getAttr? getAttrBy? getAttrBy
  refine wpAny_bind (wpAny_mkText (wpAny_bind (wpAny_attempt (wpAny_holding (wpAny_bind (L0.at (wpAny_bind (L1.at ?_))))))))
  show wpAny _ _ (if (onTheHeap (Value.ref D) && Value.builtin "BaseException.__getattribute__" == Value.builtin "object.__getattribute__") = true then _ else _) _ _ _
  rw [hx1, if_neg Bool.false_ne_true]
  unfold getAttrByItsOwn hookBefore
  refine wpAny_bind ?_
  rw [if_pos (show onTheHeap (Value.ref D) = true from rfl)]
  refine L2.at ?_
  refine wpAny_bind (wpAny_attempt (wpAny_holding ?_))
  unfold callGetattribute
  rw [hx0, if_neg Bool.false_ne_true]
  unfold boundAndCalled
  rw [PySem.F.excAttr_ValueError.ga.bind (.ref x)]
  refine wpAny_bind (wpAny_pure ?_)
  show wpAny _ _ (call (.builtin "BaseException.__getattribute__") [.ref x, .str "__class__" t]) _ _ _
  refine wpAny_call (codeAny_call_builtin PySem.F.excAttr_ValueError.ga.plain PySem.F.entry_bexc_ga ?_)
  refine @check_slot (model prog w) _ _ ⟨hp, g, d, t + 1, os⟩ "BaseException.__getattribute__" "BaseException" "__getattribute__" (.ref x) [.str "__class__" t] [] _ (by decide +kernel) (by decide +kernel) sub (PySem.F.args_bexc_ga (.ref x) (.str "__class__" t)) ?_
  unfold Builtin.«object.__getattribute__»
  refine wpAny_bind (wpAny_of_eq (a := ((Value.ref x : Value), [Value.str "__class__" t])) (by first | rfl | (simp only [slotArgs]; rfl)) ?_)
  refine wpAny_bind (wpAny_pure (wpAny_bind (L0.at (wpAny_bind (L3.at ?_)))))
  show wpAny _ _ (holding [Value.builtin "object.__class__"] (call (.builtin "getset_descriptor.__get__") [.builtin "object.__class__", .ref x, .ref D]) >>= ret) _ _ _
  refine wpAny_bind (wpAny_holding (wpAny_call (class_get (s := ⟨hp, g, d, t + 1, os⟩) (ox := ox) (od := od) X I C.hm ?_)))
  refine wpAny_pure ?_
  show wpAny _ _ (handedOut (.ref D)) _ _ _
  rw [handedOut_of (v := .ref D) rfl]
  first
    | exact wpAny_pure (wpAny_pure h)
    | exact wpAny_pure h
    | exact wpAny_pure (wpAny_bind (wpAny_pure (wpAny_pure h)))
theorem my_kitx (C : L2.ExcC K D) : KitX K (.ref x) (.ref D) (fun h => InstAt h x ox D od) where
  ty := fun _ _ _ I => I.type
  it := fun _ _ X _ => by
    obtain ⟨cdD, hcD, _⟩ := any_some C.hd
    unfold clsIn at hcD
    split at hcD
    · rename_i c' d' cd' sl' ho
      intro A' Q' E' s' k q
      unfold isType loadHead
      exact wpAny_bind (wpAny_loadPart (k _ _ (X _ _ ho)) (wpAny_pure q))
    · cases hcD
  ne := fun h tp dd its n sl X htp => by
    obtain ⟨cdD, hcD, _⟩ := any_some C.hd
    refine Bool.eq_false_iff.mpr fun q => ?_
    have e : D = tp := Value.ref.inj (beq_iff_eq.mp q)
    subst e
    unfold clsIn at hcD
    split at hcD
    · rename_i c' d' cd' sl' ho
      have z := (X _ _ ho).symm.trans htp
      cases z
    · cases hcD
  ca := fun X I k => my_kin_class C X I k
end
end PySem.W
namespace My
open PySem L2
/-! ### isinstance -/
def rIsD (K : PySem.W.Frag) : List V → Hp → VK → Prop := fun xs H Q => ∃ (a D : Addr) (fs : List (Str × V)) (c : V) (cv : Value) (b : Bool), xs = [.ref a, c] ∧ Er H a D fs ∧ ExcC K D ∧ (∀ u, RelV c u → u = cv) ∧ PySem.W.kitOne K (.ref D) cv = some b ∧ Q (.bl b) H
theorem call_isD {X : Cx} (K : PySem.W.Frag) (eK : X.K = K := by rfl) : CallR X (.builtin "isinstance") (rIsD K) := by
  subst eK
  intro pins s σ H xs us Q I r h
  obtain ⟨a, D, fs, c, cv, b, rfl, ha, C, hcv, e, q⟩ := h
  match us, r with
  | [u, u2], .cons rx (.cons rt .nil) =>
    have e1 : u = .ref a := rx
    have e2 := hcv u2 rt
    subst e1 e2
    obtain ⟨oe, od, J, _⟩ := ha.inst I.hok
    exact PySem.W.kia_one (PySem.W.my_kitx C) I.kIn J e (fun z => nomatch z) fun tk => ⟨.bl b, H, I.kept fun _ _ z => z, rfl, q⟩
/-! ### a value of an error: C(..) -/
end My
namespace PySem
namespace HandSPX
open Builtin Builtin.ObjectAttr
section
variable {M : Model} {A : Around} {E : Value → Shared → Prop} {h : Heap} {g : Array GenState} {d : Drawn} {t : Nat} {os : OsState}
variable {nm q : Str} {C N : Addr} {bs bm bmB : List Value} {hdct : Bool} {sn : List Str} {sub : List Value} {ab : Bool} {col : Option Bool} {dd : Option Addr} {k0 k1 k2 k3 k5 : Option Value} {B newId initId : String} {kw : List (Str × Value)}
theorem my_check_new (F : ExcBaseFacts B newId initId bmB) (hT : ∀ X : String, bm.contains (.type X) = bmB.contains (.type X)) {rest : List Value} {Q : Unit → Shared → Prop}
    (hC : h.get? C = some (excClassObj nm q C N bs bm hdct sn sub ab col dd k0 k1 k2 k3 k5 newId)) (hq : Q () ⟨h, g, d, t, os⟩) : wpAny M A (checkBuiltinCall newId ⟨.ref C :: rest, kw⟩) Q E ⟨h, g, d, t, os⟩ := by
  have hcont : (Value.ref C :: bm).contains (.type B) = true := by rw [List.contains_cons, hT, F.hasB, Bool.or_true]
  have hstar := F.noStar
  simp only [checkBuiltinCall, F.newKind, F.newSplit, F.newRow]
  repeat (first | refine wpAny_loadPart_at hC ?_ | (refine wpAny_isSubtype_exc hC ?_; rw [hcont]) | refine wpAny_staticBase_exc hC ?_ | refine wpAny_madeBy_exc hC ?_ | simp only [bne_self_eq_false, Bool.false_eq_true, if_false] | wp_step)
  exact hq
end
section
variable {prog : Program} {w : World} {A : Around} {E : Value → Shared → Prop} {R : Result → Shared → Prop} {h : Heap} {g : Array GenState} {d : Drawn} {t : Nat} {os : OsState}
variable {nm q : Str} {C N : Addr} {bs bm bmB : List Value} {hdct : Bool} {sn : List Str} {sub : List Value} {ab : Bool} {col : Option Bool} {dd : Option Addr} {k0 k1 k2 k3 k5 : Option Value} {B newId initId : String} {kw : List (Str × Value)}
theorem my_new (F : ExcBaseFacts B newId initId bmB) (hT : ∀ X : String, bm.contains (.type X) = bmB.contains (.type X)) {rest : List Value}
    (hC : h.get? C = some (excClassObj nm q C N bs bm hdct sn sub ab col dd k0 k1 k2 k3 k5 newId))
    (hq : R (.ok (.ret (.ref (h.objs.size + 1)))) ⟨(h.push { cls := .type "tuple", data := .seq rest.toArray }).push
      { cls := .ref C, data := .fields #[.ref h.objs.size, .none, .none, .none, .bool false, .none] }, g, d, t, os⟩) (hrest : rest.length ≤ sizeLine) :
    codeAny (model prog w) A (.builtin newId ⟨.ref C :: rest, kw⟩) R ⟨h, g, d, t, os⟩ := by
  have hends := F.ends
  have hcB : (Value.ref C :: bm).contains (.type B) = true := by rw [List.contains_cons, hT, F.hasB, Bool.or_true]
  have hcA : (Value.ref C :: bm).contains (.type "AttributeError") = false := by rw [List.contains_cons, hT, F.noAttr]; rfl
  have hcN : (Value.ref C :: bm).contains (.type "NameError") = false := by rw [List.contains_cons, hT, F.noName]; rfl
  refine codeAny_builtinAt F.entry ?_
  unfold Builtin.«BaseException.__new__»
  refine wpAt_bind ?_
  show wpAt _ _ _ (stack >>= _) _ _ _
  refine wpAt_bind (wpAt_stack fun p below => wpAt_of_wpAny ?_)
  wp_walk
  refine wpAt_of_wpAny ?_
  rw [F.owner]
  repeat (first | with_reducible refine wpAny_madeHere_exc F.canon hC ?_ | with_reducible refine wpAny_loadPart_at hC ?_ | (with_reducible refine wpAny_isSubtype_exc hC ?_; first | rw [hcB] | rw [hcA] | rw [hcN]) | wp_step)
  show R _ _
  rw [Heap.size_push]
  exact hq
theorem my_type_call (F : ExcBaseFacts B newId initId bmB) (hT : ∀ X : String, bm.contains (.type X) = bmB.contains (.type X)) {rest : List Value} {fI : Addr} {Q : Fin → Shared → Prop}
    (hC : h.get? C = some (excClassObj nm q C N bs bm hdct sn sub ab col dd k0 k1 k2 k3 k5 newId))
    (hi : W.Looks (model prog w) h (typeLookup (.ref C) "__init__") (some (.ref fI))) (hb : ∀ self, W.Looks (model prog w) h (bindSpecial (.ref fI) self) (.ref fI, [self])) (hrest : rest.length ≤ sizeLine)
    (hq : codeAny (model prog w) A (.call (.ref fI) ⟨.ref (h.objs.size + 1) :: rest, kw⟩)
      (fun r s' => match r with | .ok (.ret v) => v = .none ∧ Q (.done (.ret (.ref (h.objs.size + 1)))) s' | .ok _ => False | .error e => E e s')
      ⟨(h.push (W.kdv_tup rest)).push (excO C h.objs.size), g, d, t, os⟩) :
    wpAny (model prog w) A (Builtin.«type.__call__» ⟨.ref C :: rest, kw⟩) Q E ⟨h, g, d, t, os⟩ := by
  repeat (first | with_reducible refine wpAny_loadPart_at hC ?_ | with_reducible refine wpAny_madeBy_exc hC ?_ | wp_step)
  refine codeAny_call_builtin_code (Code.quiet_builtin _ F.quiet) (my_check_new F hT hC ?_)
  refine my_new F hT hC ?_ hrest
  show wpAny _ _ _ _ _ _
  have k : ∀ b o, h.get? b = some o → ((h.push (W.kdv_tup rest)).push (excO C h.objs.size)).get? b = some o := fun b o e => Heap.get?_push_of_some _ (Heap.get?_push_of_some _ e)
  have hC₁ := k _ _ hC
  have hget : ((h.push (W.kdv_tup rest)).push (excO C h.objs.size)).get? (h.objs.size + 1) = some (excO C h.objs.size) := by heap_get
  have hcC : (Value.ref C :: bm).contains (.ref C) = true := by simp
  have i1 := hi.keeps k
  have b1 := (hb (.ref (h.objs.size + 1))).keeps k
  unfold isInstance
  repeat (first | with_reducible refine wpAny_loadPart_at hget ?_ | (with_reducible refine wpAny_isSubtype_exc hC₁ ?_; rw [hcC]) | wp_step)
  show wpAny _ _ (typeLookup (.ref C) _) _ _ _
  refine i1.at ?_
  refine wpAny_holding (wpAny_bind (b1.at ?_))
  refine wpAny_bind (wpAny_call (codeAny_mono hq fun r s' z => ?_))
  rcases r with e | (v | _ | _ | _) <;> first | exact z | exact z.elim | skip
  obtain ⟨rfl, z⟩ := z
  first
    | exact wpAny_pure (wpAny_pure z)
    | (wp_walk; exact z)
theorem my_check_type_call {M : Model} {rest : List Value} {Q : Unit → Shared → Prop} (hC : h.get? C = some (excClassObj nm q C N bs bm hdct sn sub ab col dd k0 k1 k2 k3 k5 newId))
    (hq : Q () ⟨h, g, d, t, os⟩) : wpAny M A (checkBuiltinCall "type.__call__" ⟨.ref C :: rest, kw⟩) Q E ⟨h, g, d, t, os⟩ := by
  have f3 := tc_sub
  have hT : (⟨h, g, d, t, os⟩ : Shared).TypeIs (.ref C) "type" := ⟨_, hC, rfl⟩
  simp only [checkBuiltinCall, tc_kind, tc_split]
  repeat (any_goals (first | assumption | with_reducible refine wpAny_loadPart_at hC ?_ | with_reducible refine wpAny_onRaise ?_ | with_reducible refine wpAny_map ?_ | wp_step))
theorem my_call_own (F : ExcBaseFacts B newId initId bmB) (hT : ∀ X : String, bm.contains (.type X) = bmB.contains (.type X)) {rest : List Value} {fI : Addr}
    (hC : h.get? C = some (excClassObj nm q C N bs bm hdct sn sub ab col dd k0 k1 k2 k3 k5 newId))
    (hi : W.Looks (model prog w) h (typeLookup (.ref C) "__init__") (some (.ref fI))) (hb : ∀ self, W.Looks (model prog w) h (bindSpecial (.ref fI) self) (.ref fI, [self])) (hrest : rest.length ≤ sizeLine)
    (hq : codeAny (model prog w) (A.under (.builtin "type.__call__" ⟨.ref C :: rest, kw⟩)) (.call (.ref fI) ⟨.ref (h.objs.size + 1) :: rest, kw⟩) (W.InitBack (h.objs.size + 1) R)
      ⟨(h.push (W.kdv_tup rest)).push (excO C h.objs.size), g, d, t, os⟩) :
    codeAny (model prog w) A (.call (.ref C) ⟨rest, kw⟩) R ⟨h, g, d, t, os⟩ := by
  have f1 := tc_lookup
  have f2 := tc_bind (.ref C)
  have hTy : (⟨h, g, d, t, os⟩ : Shared).TypeIs (.ref C) "type" := ⟨_, hC, rfl⟩
  refine codeAny_of_tree ?_
  show wpAny _ _ (callAny (.ref C) _) _ _ _
  repeat (any_goals (first | assumption | with_reducible refine wpAny_loadPart_at hC ?_ | wp_step))
  refine ⟨rfl, ?_⟩
  refine codeAny_call_builtin_at (Code.quiet_builtin _ (by decide +kernel)) entry_typeCall (my_check_type_call hC (my_type_call F hT hC hi hb hrest ?_))
  refine codeAny_mono hq fun r s' z => ?_
  rcases r with e | (v | _ | _ | _) <;> exact z
end
end HandSPX
end PySem
namespace My
open PySem L2
section
variable {X : Cx} {pins : List (Addr × Obj)} {σ : L2.St} {H : Hp} {s : Shared} {a C d : Addr} {fs : List (Str × V)}
/-- an error that is made stands as a value -/
theorem retrack (I : Inv X pins σ H s) (ea : H a = some (exo a C (some d))) (ed : H d = some (exd d fs)) : Inv X pins σ (upd (upd H a (ExD (.ref C) (some d) a)) d (.xd fs)) s := by
  obtain ⟨hp, g, dr, tk, os⟩ := s
  obtain ⟨t1, ho⟩ := exo_at I.hok ea
  obtain ⟨mA, hns, rel⟩ := exd_at I.hok ed
  have hda : d ≠ a := fun z => by
    obtain ⟨o, es, ep, e1, e2, _⟩ := hns
    rw [z, ho] at e1
    have z2 := Option.some.inj e1
    subst z2
    cases e2
  have hd : ∃ o, hp.get? d = some o := by
    obtain ⟨o, _, _, e', _⟩ := hns
    exact ⟨o, e'⟩
  have I1 : Inv X pins σ (upd H a (ExD (.ref C) (some d) a)) ⟨hp, g, dr, tk, os⟩ := I.write (h' := hp) (t' := tk) (x := a) (e := a) (o := ExD (.ref C) (some d) a) (by rw [ea]; exact True.intro) (.inl rfl) (fun b u _ z => z) ⟨_, ho⟩ (exD_ok ho ⟨rfl, rfl⟩ rfl)
  exact I1.write (h' := hp) (t' := tk) (x := d) (e := d) (o := .xd fs) (by rw [upd_ne hda, ed]; exact True.intro) (.inl rfl) (fun b u _ z => z) hd ⟨mA, hns, rel⟩
end
def spI1 (C : Addr) (f : Str) : Sp := fun vs H Q _ => ∃ (a : Addr) (y : V), vs = [.ref a, y] ∧ H a = some (exo a C none) ∧ ∀ d, H d = none → d ≠ a → Q .non (upd (upd H d (exd d [(f, y)])) a (exo a C (some d)))
def spI2 (C : Addr) (f g : Str) : Sp := fun vs H Q _ => ∃ (a : Addr) (y z : V), vs = [.ref a, y, z] ∧ H a = some (exo a C none) ∧ ∀ d, H d = none → d ≠ a → Q .non (upd (upd (upd H d (exd d [(f, y)])) a (exo a C (some d))) d (exd d [(g, z), (f, y)]))
/-- what is asked of __init__ of an error that is made as a value -/
def EQ (a C : Addr) (Q : VK) : VK := fun v H2 => v = .non ∧ ∃ (d : Addr) (fs : List (Str × V)), H2 a = some (exo a C (some d)) ∧ H2 d = some (exd d fs) ∧ Q (.ref a) (upd (upd H2 a (ExD (.ref C) (some d) a)) d (.xd fs))
section
variable {X : Cx} {CX : CXT} {k n : Nat} {fI C : Addr} {fd : FuncData} {ps ks : List Str} {sp : Sp} {x : Str} {p pos : Pos} {e : Expr} {es : List Expr} {kws : List Keyword} {t tk : TA} {g : List Value → List Value → List Value} {gV : List V → List V → List V}
theorem run_mkE {pins : List (Addr × Obj)} {σ : L2.St} {H : Hp} {s : Shared} {Q : VK} {us ws : List Value} {vs zs : List V} (T : OexC X.K C) (iC : PySem.W.findIn X.K (.ref C) "__init__" = some (some (.ref fI))) (tI : PySem.W.typeIn X.K (.ref fI) = some (.type "function"))
    (Fk : FnOk X.prog X.w X.K X.mg X.base CX k fI fd ps sp) (hr : Room (k + 1) X.A) (hb : KBn X.K fd ps (n + 1) ks g gV) (hx : Passes CX X E0) (I : Inv X pins σ H s) (r : Vals vs us) (rz : Vals zs ws) (l1 : vs.length = n) (l2 : zs.length = ks.length) (hn : n ≤ 1000)
    (h : ∀ a, H a = none → sp (gV (.ref a :: vs) zs) (upd H a (exo a C none)) (EQ a C Q) E0) : wpAny (model X.prog X.w) X.A (call (.ref C) us (ks.zip ws)) (EP X pins σ Q) X.xe s := by
  obtain ⟨nm, q, N, bs, bm, sn, sub, ab, col, dd, k0, k1, k2, k3, k5, hC, hbm⟩ := T.cls
  obtain ⟨hp, g0, dr, tk0, os⟩ := s
  have hsz : hp.objs.size ≤ hp.objs.size + 1 := Nat.le_succ _
  have hn1 : H (hp.objs.size + 1) = none := I.hok.fresh hsz
  have hq := h (hp.objs.size + 1) hn1
  have kk : ∀ b o, hp.get? b = some o → ((hp.push (PySem.W.kdv_tup us)).push (PySem.HandSPX.excO C hp.objs.size)).get? b = some o := fun b o e => PySem.Heap.get?_push_of_some _ (PySem.Heap.get?_push_of_some _ e)
  have hget : ((hp.push (PySem.W.kdv_tup us)).push (PySem.HandSPX.excO C hp.objs.size)).get? (hp.objs.size + 1) = some (PySem.HandSPX.excO C hp.objs.size) := by heap_get
  have I2 : Inv X pins σ (upd H (hp.objs.size + 1) (exo (hp.objs.size + 1) C none)) ⟨(hp.push (PySem.W.kdv_tup us)).push (PySem.HandSPX.excO C hp.objs.size), g0, dr, tk0, os⟩ :=
    I.laid (t' := tk0) (a := hp.objs.size + 1) (o := exo (hp.objs.size + 1) C none) (h' := (hp.push (PySem.W.kdv_tup us)).push (PySem.HandSPX.excO C hp.objs.size)) kk hsz (exo_ok hget)
  have r1 : Vals (V.ref (hp.objs.size + 1) :: vs) (Value.ref (hp.objs.size + 1) :: us) := .cons rfl r
  have r2 := hb.rel r1 rz
  have e1 : (Value.ref (hp.objs.size + 1) :: us).length = n + 1 := r1.length.symm.trans (congrArg Nat.succ l1)
  have e2 : ws.length = ks.length := rz.length.symm.trans l2
  have hus : us.length ≤ sizeLine := by
    rw [← Paired.length r, sizeLine_eq]
    omega
  refine wpAny_call (PySem.HandSPX.my_call_own F.excBase_ValueError (fun Y => PySem.HandSPX.refsVE_contains Y bm hbm) (I.kIn _ _ hC) (PySem.W.looks_findIn I.kIn iC) (fun self => PySem.W.bind_fn I.kIn self tI) hus
    (codeAny_mono (FnOk.run Fk _ X.stack _ _ ⟨Value.ref (hp.objs.size + 1) :: us, ks.zip ws⟩ (g (Value.ref (hp.objs.size + 1) :: us) ws) _ _ E0 (hr.make C us (ks.zip ws)) (I2.env0.make C us (ks.zip ws)) (hb.to _ (Value.ref (hp.objs.size + 1) :: us) ws I2.kIn e1 e2) r2 hq) fun r s' hq' => ?_))
  cases r with
  | error er => exact hx pins σ _ _ er s' I2 hq'
  | ok fl =>
    cases fl with
    | ret u =>
      obtain ⟨v, H2, I3, rv, ev, d, fs, ea, ed, q2⟩ := I2.after hq'
      subst ev
      exact ⟨rv, ⟨V.ref (hp.objs.size + 1), _, retrack I3 ea ed, rfl, q2⟩⟩
    | next => exact False.elim hq'
    | brk => exact False.elim hq'
    | cont => exact False.elim hq'
def tMkE (C : Addr) (n : Nat) (sp : Sp) (t : TA) : TE := fun σ H Q => t σ H fun vs H1 => vs.length = n ∧ ∀ a, H1 a = none → sp (.ref a :: vs) (upd H1 a (exo a C none)) (EQ a C Q) E0
/-- C(e, ..) -/
theorem pe_mkE (T : OexC X.K C) (iC : PySem.W.findIn X.K (.ref C) "__init__" = some (some (.ref fI))) (tI : PySem.W.typeIn X.K (.ref fI) = some (.type "function")) (F : FnOk X.prog X.w X.K X.mg X.base CX k fI fd ps sp) (hr : Room (k + 1) X.A) (hb : KBn X.K fd ps (n + 1) [] (fun us _ => us) (fun vs _ => vs)) (hx : Passes CX X E0) (hn : n ≤ 1000)
    (hg : Gl X x) (hm : X.mg x = some (.ref C)) (ha : PA X (e :: es) t) (hdb : (x == ("__debug__" : Str)) = false := by decide) (he : starEach (e :: es) X.env = (false, eval e X.env) :: starEach es X.env := by rfl) (hpl : (backTo pos (starEach es X.env)).any (·.1) = false := by rfl) :
    PE X (.Call (.Name x p) (e :: es) [] pos) (tMkE C n sp t) := by
  refine ⟨fun pins s σ H Q I h => ?_⟩
  refine wpAny_Call_Name_kw (ld_glob I hg hm ?_ hdb)
  refine PySem.W.callWith_K (h₀ := X.base) I.ok.mod.kin T.kC (thn (ha.run pos pins s σ H _ I h) fun us s1 ⟨vs, H1, I1, r, l1, q⟩ => ⟨I1.kIn, ?_⟩) he hpl
  exact run_mkE (ks := []) (ws := []) (zs := []) T iC tI F hr hb hx I1 r .nil l1 rfl hn q
def tMkEK (C : Addr) (n : Nat) (sp : Sp) (gV : List V → List V → List V) (t : TA) : TE := fun σ H Q => t σ H fun zs H1 => zs.length = n ∧ ∀ a, H1 a = none → sp (gV [.ref a] zs) (upd H1 a (exo a C none)) (EQ a C Q) E0
/-- C(k = e, ..) -/
theorem pe_mkEK (T : OexC X.K C) (iC : PySem.W.findIn X.K (.ref C) "__init__" = some (some (.ref fI))) (tI : PySem.W.typeIn X.K (.ref fI) = some (.type "function")) (F : FnOk X.prog X.w X.K X.mg X.base CX k fI fd ps sp) (hr : Room (k + 1) X.A) (hb : KBn X.K fd ps 1 ks g gV) (hx : Passes CX X E0)
    (hg : Gl X x) (hm : X.mg x = some (.ref C)) (hkw : PK X kws tk)
    (hall : (backToKw pos (keywordEach kws X.env)).all (·.1.isSome) = true := by rfl) (hks : (backToKw pos (keywordEach kws X.env)).filterMap (·.1) = ks := by rfl) (hdb : (x == ("__debug__" : Str)) = false := by decide)
    (hpl : ((backTo pos (starEach [] X.env)).any (·.1) || (backToKw pos (keywordEach kws X.env)).any (·.1.isNone)) = false := by rfl) :
    PE X (.Call (.Name x p) [] kws pos) (tMkEK C ks.length sp gV tk) := by
  refine ⟨fun pins s σ H Q I h => ?_⟩
  refine wpAny_Call_Name_kw (ld_glob I hg hm ?_ hdb)
  refine PySem.W.callWith_KW0 (h₀ := X.base) I.ok.mod.kin T.kC hall ?_ hpl
  refine thn (hkw.run pos pins s σ H _ I h) fun ws s2 ⟨zs, H2, I2, rz, l2, q2⟩ => ⟨I2.kIn, ?_⟩
  rw [hks]
  exact run_mkE (us := []) (vs := []) (n := 0) T iC tI F hr hb hx I2 .nil rz rfl l2 (Nat.zero_le _) q2
/-- C(), no __init__ of its own -/
theorem pe_mk0 {bmB : List Value} {B newId initId : String} (F : ExcBaseFacts B newId initId bmB) (q : PySem.W.excIn X.K C bmB newId = true) (gC : X.mg x = some (.ref C)) (kC : PySem.W.keepIn X.K (.ref C) = true) (hg : Gl X x) (hdb : (x == ("__debug__" : Str)) = false := by decide) :
    PE X (.Call (.Name x p) [] [] pos) (fun _ H Q => ∀ a, H a = none → Q (.ref a) (upd H a (ExD (.ref C) none a))) := by
  refine ⟨fun pins s σ H Q I h => ?_⟩
  refine wpAny_Call_Name_kw (ld_glob I hg gC ?_ hdb)
  refine PySem.W.callWith_K0 I.kIn kC ?_
  obtain ⟨bm, N, nm, qn, bs, hdct, sn, sub, ab, col, dd, k0, k1, k2, k3, k5, mN, hC, hN, hni, T⟩ := exc_obj I.kIn q
  refine wpAny_call_exc_subT F T hC hN hni (fun h' a hm => ?_) (Nat.zero_le _)
  have hn : H a = none := I.hok.gone hm.new
  obtain ⟨t, ht, _, _⟩ := hm.there
  exact ⟨.ref a, upd H a (ExD (.ref C) none a), I.laidN hm.keeps hm.new hn (exD_ok ht ⟨rfl, rfl⟩ rfl), rfl, h a hn⟩
end
/-! ### the fields as a caller sees them -/
/-- one field -/
structure E1 (P : Program) (w : World) (K : PySem.W.Frag) (mg : Str → Option Value) (base : Heap) (C : Addr) (x f : Str) : Prop where
  T : OexC K C
  gC : mg x = some (.ref C)
  ex : ∃ (fI : Addr) (fd : FuncData), PySem.W.findIn K (.ref C) "__init__" = some (some (.ref fI)) ∧ PySem.W.typeIn K (.ref fI) = some (.type "function") ∧ FnOk P w K mg base CX0 1 fI fd ["self", f] (spI1 C f) ∧
    KBn K fd ["self", f] 2 [] (fun us _ => us) (fun vs _ => vs) ∧ KBn K fd ["self", f] 1 [f] (fun us ws => us ++ ws) (fun vs zs => vs ++ zs) ∧ Binds K fd ["self", f] []
structure E2 (P : Program) (w : World) (K : PySem.W.Frag) (mg : Str → Option Value) (base : Heap) (C : Addr) (x f g : Str) : Prop where
  T : OexC K C
  gC : mg x = some (.ref C)
  ex : ∃ (fI : Addr) (fd : FuncData), PySem.W.findIn K (.ref C) "__init__" = some (some (.ref fI)) ∧ PySem.W.typeIn K (.ref fI) = some (.type "function") ∧ FnOk P w K mg base CX0 1 fI fd ["self", f, g] (spI2 C f g) ∧
    KBn K fd ["self", f, g] 3 [] (fun us _ => us) (fun vs _ => vs) ∧ KBn K fd ["self", f, g] 1 [g, f] (fun us ws => us ++ ws.reverse) (fun vs zs => vs ++ zs.reverse) ∧ Binds K fd ["self", f, g] []
def tE1 (C : Addr) (f : Str) (t : TA) : TE := fun σ H Q => t σ H fun vs H1 => ∃ y, vs = [y] ∧ ∀ a, H1 a = none → ∀ H', Same H1 H' → Er H' a C [(f, y)] → Q (.ref a) H'
def tE2 (C : Addr) (f g : Str) (t : TA) : TE := fun σ H Q => t σ H fun vs H1 => ∃ y z, vs = [y, z] ∧ ∀ a, H1 a = none → ∀ H', Same H1 H' → Er H' a C [(g, z), (f, y)] → Q (.ref a) H'
def tE2R (C : Addr) (f g : Str) (t : TA) : TE := fun σ H Q => t σ H fun vs H1 => ∃ y z, vs = [z, y] ∧ ∀ a, H1 a = none → ∀ H', Same H1 H' → Er H' a C [(g, z), (f, y)] → Q (.ref a) H'
section
variable {X : Cx} {C : Addr} {x f g : Str} {p pos : Pos} {e e' : Expr} {kws : List Keyword} {t tk : TA}
theorem end1 {H1 : Hp} {a : Addr} {y : V} {Q : VK} (ha : H1 a = none) (q : ∀ H', Same H1 H' → Er H' a C [(f, y)] → Q (.ref a) H') :
    ∀ d, (upd H1 a (exo a C none)) d = none → d ≠ a → (EQ a C Q) .non (upd (upd (upd H1 a (exo a C none)) d (exd d [(f, y)])) a (exo a C (some d))) := by
  intro d hd nda
  have hd1 : H1 d = none := by rw [upd_ne nda] at hd; exact hd
  refine ⟨rfl, d, [(f, y)], upd_same, by rw [upd_ne nda]; exact upd_same, q _ (fun c o z => ?_) ⟨some d, by rw [upd_ne (Ne.symm nda)]; exact upd_same, .inr ⟨d, rfl, upd_same⟩⟩⟩
  have n1 : c ≠ a := ne_of_none z ha
  have n2 : c ≠ d := ne_of_none z hd1
  rw [upd_ne n2, upd_ne n1, upd_ne n1, upd_ne n2, upd_ne n1]
  exact z
theorem end2 {H1 : Hp} {a : Addr} {y z : V} {Q : VK} (ha : H1 a = none) (q : ∀ H', Same H1 H' → Er H' a C [(g, z), (f, y)] → Q (.ref a) H') :
    ∀ d, (upd H1 a (exo a C none)) d = none → d ≠ a → (EQ a C Q) .non (upd (upd (upd (upd H1 a (exo a C none)) d (exd d [(f, y)])) a (exo a C (some d))) d (exd d [(g, z), (f, y)])) := by
  intro d hd nda
  have hd1 : H1 d = none := by rw [upd_ne nda] at hd; exact hd
  refine ⟨rfl, d, [(g, z), (f, y)], by rw [upd_ne (Ne.symm nda)]; exact upd_same, upd_same, q _ (fun c o z => ?_) ⟨some d, by rw [upd_ne (Ne.symm nda)]; exact upd_same, .inr ⟨d, rfl, upd_same⟩⟩⟩
  have n1 : c ≠ a := ne_of_none z ha
  have n2 : c ≠ d := ne_of_none z hd1
  rw [upd_ne n2, upd_ne n1, upd_ne n2, upd_ne n1, upd_ne n2, upd_ne n1]
  exact z
/-- C(e) -/
theorem pe_e1 (O : E1 X.prog X.w X.K X.mg X.base C x f) (hr : Room 2 X.A) (ha : PA X [e] t) (hg : Gl X x := by rfl) (hdb : (x == ("__debug__" : Str)) = false := by decide) (he : starEach [e] X.env = (false, eval e X.env) :: starEach [] X.env := by rfl) :
    PE X (.Call (.Name x p) [e] [] pos) (tE1 C f t) := by
  obtain ⟨fI, fd, iC, tI, F, b, _⟩ := O.ex
  refine ⟨fun pins s σ H Q I h => ?_⟩
  refine wpAny_Call_Name_kw (ld_glob I hg O.gC ?_ hdb)
  refine PySem.W.callWith_K (h₀ := X.base) I.ok.mod.kin O.T.kC (thn (ha.run pos pins s σ H _ I h) fun us s1 ⟨vs, H1, I1, r, y, ev, q⟩ => ⟨I1.kIn, ?_⟩) he (by rfl)
  subst ev
  exact run_mkE (n := 1) (ks := []) (ws := []) (zs := []) O.T iC tI F hr b pass0 I1 r .nil rfl rfl (by decide) fun a ha' => ⟨a, y, rfl, upd_same, end1 ha' (q a ha')⟩
/-- C(f = e) -/
theorem pe_e1K (O : E1 X.prog X.w X.K X.mg X.base C x f) (hr : Room 2 X.A) (hkw : PK X kws t) (hks : (backToKw pos (keywordEach kws X.env)).filterMap (·.1) = [f] := by rfl) (hg : Gl X x := by rfl) (hall : (backToKw pos (keywordEach kws X.env)).all (·.1.isSome) = true := by rfl) (hdb : (x == ("__debug__" : Str)) = false := by decide)
    (hpl : ((backTo pos (starEach [] X.env)).any (·.1) || (backToKw pos (keywordEach kws X.env)).any (·.1.isNone)) = false := by rfl) : PE X (.Call (.Name x p) [] kws pos) (tE1 C f t) := by
  obtain ⟨fI, fd, iC, tI, F, _, b, _⟩ := O.ex
  refine ⟨fun pins s σ H Q I h => ?_⟩
  refine wpAny_Call_Name_kw (ld_glob I hg O.gC ?_ hdb)
  refine PySem.W.callWith_KW0 (h₀ := X.base) I.ok.mod.kin O.T.kC hall ?_ hpl
  refine thn (hkw.run pos pins s σ H _ I h) fun ws s2 ⟨zs, H1, I1, r, y, ev, q⟩ => ⟨I1.kIn, ?_⟩
  subst ev
  rw [hks]
  exact run_mkE (us := []) (vs := []) (n := 0) O.T iC tI F hr b pass0 I1 .nil r rfl rfl (Nat.zero_le _) fun a ha' => ⟨a, y, rfl, upd_same, end1 ha' (q a ha')⟩
/-- C(e, e') -/
theorem pe_e2 (O : E2 X.prog X.w X.K X.mg X.base C x f g) (hr : Room 2 X.A) (ha : PA X [e, e'] t) (hg : Gl X x := by rfl) (hdb : (x == ("__debug__" : Str)) = false := by decide) (he : starEach [e, e'] X.env = (false, eval e X.env) :: starEach [e'] X.env := by rfl) (hpl : (backTo pos (starEach [e'] X.env)).any (·.1) = false := by rfl) :
    PE X (.Call (.Name x p) [e, e'] [] pos) (tE2 C f g t) := by
  obtain ⟨fI, fd, iC, tI, F, b, _⟩ := O.ex
  refine ⟨fun pins s σ H Q I h => ?_⟩
  refine wpAny_Call_Name_kw (ld_glob I hg O.gC ?_ hdb)
  refine PySem.W.callWith_K (h₀ := X.base) I.ok.mod.kin O.T.kC (thn (ha.run pos pins s σ H _ I h) fun us s1 ⟨vs, H1, I1, r, y, z, ev, q⟩ => ⟨I1.kIn, ?_⟩) he hpl
  subst ev
  exact run_mkE (n := 2) (ks := []) (ws := []) (zs := []) O.T iC tI F hr b pass0 I1 r .nil rfl rfl (by decide) fun a ha' => ⟨a, y, z, rfl, upd_same, end2 ha' (q a ha')⟩
/-- C(g = e', f = e) -/
theorem pe_e2K (O : E2 X.prog X.w X.K X.mg X.base C x f g) (hr : Room 2 X.A) (hkw : PK X kws t) (hks : (backToKw pos (keywordEach kws X.env)).filterMap (·.1) = [g, f] := by rfl) (hg : Gl X x := by rfl) (hall : (backToKw pos (keywordEach kws X.env)).all (·.1.isSome) = true := by rfl) (hdb : (x == ("__debug__" : Str)) = false := by decide)
    (hpl : ((backTo pos (starEach [] X.env)).any (·.1) || (backToKw pos (keywordEach kws X.env)).any (·.1.isNone)) = false := by rfl) : PE X (.Call (.Name x p) [] kws pos) (tE2R C f g t) := by
  obtain ⟨fI, fd, iC, tI, F, _, b, _⟩ := O.ex
  refine ⟨fun pins s σ H Q I h => ?_⟩
  refine wpAny_Call_Name_kw (ld_glob I hg O.gC ?_ hdb)
  refine PySem.W.callWith_KW0 (h₀ := X.base) I.ok.mod.kin O.T.kC hall ?_ hpl
  refine thn (hkw.run pos pins s σ H _ I h) fun ws s2 ⟨zs, H1, I1, r, y, z, ev, q⟩ => ⟨I1.kIn, ?_⟩
  subst ev
  rw [hks]
  exact run_mkE (us := []) (vs := []) (n := 0) O.T iC tI F hr b pass0 I1 .nil r rfl rfl (Nat.zero_le _) fun a ha' => ⟨a, y, z, rfl, upd_same, end2 ha' (q a ha')⟩
end
/-- what raise C(e, e') asks at its end -/
theorem end2X {f g : Str} {C : Addr} {H1 : Hp} {a : Addr} {y z : V} {Q : XK} (ha : H1 a = none) (q : ∀ d H', H1 d = none → Same H1 H' → H' d = some (.xd [(g, z), (f, y)]) → Q (.ref C) (some d) H') :
    spI2 C f g [.ref a, y, z] (upd H1 a (exo a C none)) (fun v H2 => v = .non ∧ ∃ (d : Addr) (fs : List (Str × V)), H2 a = some (exo a C (some d)) ∧ H2 d = some (exd d fs) ∧ H1 d = none ∧ Q (.ref C) (some d) (upd (del H2 a) d (.xd fs))) (fun _ _ _ => False) := by
  refine ⟨a, y, z, rfl, upd_same, fun d hd nda => ?_⟩
  have hd1 : H1 d = none := by rw [upd_ne nda] at hd; exact hd
  refine ⟨rfl, d, [(g, z), (f, y)], by rw [upd_ne (Ne.symm nda)]; exact upd_same, upd_same, hd1, q d _ hd1 (fun c o w => ?_) upd_same⟩
  have n1 : c ≠ a := ne_of_none w ha
  have n2 : c ≠ d := ne_of_none w hd1
  rw [upd_ne n2, L2.del_ne n1, upd_ne n2, upd_ne n1, upd_ne n2, upd_ne n1]
  exact w
theorem end1X {f : Str} {C : Addr} {H1 : Hp} {a : Addr} {y : V} {Q : XK} (ha : H1 a = none) (q : ∀ d H', H1 d = none → Same H1 H' → H' d = some (.xd [(f, y)]) → Q (.ref C) (some d) H') :
    spI1 C f [.ref a, y] (upd H1 a (exo a C none)) (fun v H2 => v = .non ∧ ∃ (d : Addr) (fs : List (Str × V)), H2 a = some (exo a C (some d)) ∧ H2 d = some (exd d fs) ∧ H1 d = none ∧ Q (.ref C) (some d) (upd (del H2 a) d (.xd fs))) (fun _ _ _ => False) := by
  refine ⟨a, y, rfl, upd_same, fun d hd nda => ?_⟩
  have hd1 : H1 d = none := by rw [upd_ne nda] at hd; exact hd
  refine ⟨rfl, d, [(f, y)], upd_same, by rw [upd_ne nda]; exact upd_same, hd1, q d _ hd1 (fun c o w => ?_) upd_same⟩
  have n1 : c ≠ a := ne_of_none w ha
  have n2 : c ≠ d := ne_of_none w hd1
  rw [upd_ne n2, L2.del_ne n1, upd_ne n1, upd_ne n2, upd_ne n1]
  exact w
/-! ### try: .. except x as n: .., the error kept -/
theorem trackD {X : Cx} {pins : List (Addr × Obj)} {σ : L2.St} {H : Hp} {s : Shared} {a : Addr} {oe : Obj} {cls : Value} {d : Option Addr} {vs : Array Value} (I : Inv X ((a, oe) :: pins) σ H s) (h0 : X.s_0.heap.get? a = none) (hz : Zc cls d oe) (hd : oe.data = Data.fields vs) (hne : ∀ p ∈ X.pn ++ pins, p.1 ≠ a) : Inv X pins σ (upd H a (ExD cls d a)) s := by
  have hp := I.pin (a, oe) (List.mem_append_right _ List.mem_cons_self)
  obtain ⟨ha, hn, hl, hf, hc⟩ := hp
  have hn : H a = none := hn
  have ha : s.heap.get? a = some oe := ha
  refine ⟨I.ok, I.os, I.bare, ?_, I.loc, I.cell, ?_, ?_, ?_, ?_, I.len⟩
  · obtain ⟨k1, k2, k3, k4, k5, k6, k7⟩ := I.base
    refine ⟨k1, k2, fun b o e n hb => ?_, k4, fun b xs e => ?_, fun b o u e => ?_, fun b ps e => ?_⟩
    · rw [upd_ne (fun z => by rw [z, h0] at e; cases e)]
      exact k3 b o e n hb
    · exact upd_at (k5 b xs e) (ne_of_none (k5 b xs e) hn)
    · exact upd_at (k6 b o u e) (ne_of_none (k6 b o u e) hn)
    · obtain ⟨m, e2⟩ := k7 b ps e
      exact ⟨m, upd_at e2 (ne_of_none e2 hn)⟩
  · rw [upd_ne (Ne.symm hl)]
    exact I.free
  · intro x c e
    obtain ⟨v, o, ho, hd2⟩ := I.cell x c e
    have : c ≠ a := fun z => by
      rw [z, ha] at ho
      cases ho
      exact hc v hd2
    rw [upd_ne this]
    exact I.freeC x c e
  · intro p hp
    obtain ⟨q1, q2, q3, q4, q5⟩ := I.pin p (by
      rcases List.mem_append.mp hp with z | z
      · exact List.mem_append_left _ z
      · exact List.mem_append_right _ (List.mem_cons_of_mem _ z))
    exact ⟨q1, by rw [upd_ne (hne p hp)]; exact q2, q3, q4, q5⟩
  · intro b u e
    by_cases hb : b = a
    · subst hb
      rw [upd_same] at e
      cases e
      exact exD_ok ha hz hd
    · rw [upd_ne hb] at e
      exact ObjOk.stay (I.hok b u e) (fun _ _ _ z => z) (fun c z => upd_at z (ne_of_none z hn)) fun c xs z => upd_at z (ne_of_none z hn)
def wD (cls : Value) (i : Nat) (ts : Addr → TS) (D : Ends) : WX := fun cls' d σ H => cls' = cls ∧ ∀ a, H a = none → ts a { nx := fun σ' H' => H' a = none → D.nx (σ'.set i none) (upd H' a (ExD cls d a)), rt := D.rt, bk := fun σ' H' => D.bk (σ'.set i none) H', ct := fun σ' H' => D.ct (σ'.set i none) H' } (σ.set i (some (.ref a))) H
/-- try: .. except x as n: ..; the error with its dict is tracked behind the suite -/
theorem ps_try_asD {X : Cx} {x n : Str} {c cls : Value} {i : Nat} {body suite : List Stmt} {b₀ : Stmt} {np pos pos' : Pos} {tb : WX → TS} {ts : Addr → TS} (hs : X.stack = X.env :: X.outer) (hf : X.env.frame = some X.env.locals) (hN : X.N.Nodup) (hi : X.N[i]? = some n) (hln : X.env.kindOf n = some NameKind.local) (hg : Gl X x) (hdb : (x == ("__debug__" : Str)) = false) (hmg : X.mg x = some c) (hex : X.ex = []) (hm : PySem.W.exmOne X.K cls c = some true)
    (hb : ∀ (W : WX) (pn : List (Addr × Obj)) (xe : Value → Shared → Prop), Takes (X.tr pn xe) W → PassesOwn (model X.prog X.w) X.A X.env xe → PSs (X.tr pn xe) body (tb W))
    (hsu : ∀ (a : Addr) (oe : Obj) (d : Option Addr) (pn : List (Addr × Obj)), Zc cls d oe → (∃ vs, oe.data = Data.fields vs) → PSs (X.suite a ((a, oe) :: pn)) (b₀ :: suite) (ts a)) :
    PS X (.Try body [.ExceptHandler (some (.Name x np)) (some n) (b₀ :: suite) pos'] [] [] pos) (fun D σ H => tb (wD cls i ts D) D σ H) := by
  refine ⟨fun pins s σ H D I h => ?_⟩
  have ok := I.ok
  have hfr : X.A.frames = some (X.env :: X.outer) := by rw [ok.frames, hs]
  refine wpAny_Try_except (wpAny_mono ((hb (wD cls i ts D) (X.pn ++ pins) _ ?_ PassesOwn.looking).run [] s σ H D (Inv.toTry I _) h) ?_ fun e s1 he => he)
  · rintro u s' ⟨a, B, sI, pins', σ', H', cls', d, rfl, J', nb, up, sky, na, os, ag, rfl, hy⟩
    have J := Inv.ofTry J' ok
    have sky' : Sky B (X.env :: X.outer) a (Zc cls' d) X.env.locals s'.heap := by rw [← hs]; exact sky
    refine Sky.land Zc.steady hfr hf sky' fun h3 fl3 up3 => ?_
    have J3 := Inv.landed (s' := { s' with heap := h3 }) J nb fl3.1 (up.trans up3) os ag
    obtain ⟨oe3, vs3, he3, hz3, hd3⟩ := HandSPX.FlyingZ.there fl3
    have nfr : a ∉ List.filterMap (fun x => x.frame) (X.env :: X.outer) := fun hm' => by
      obtain ⟨_, o', e', hnf⟩ := Heap.FunFrames.mem fl3.2.2.1 hm'
      rw [he3] at e'
      cases e'
      exact hnf vs3 hd3
    have nL : a ≠ X.env.locals := fun z => nfr (List.mem_filterMap.mpr ⟨X.env, List.mem_cons_self, by rw [hf, z]⟩)
    have nF : a ∉ X.fs := fun hm' => by
      obtain ⟨e, he, q⟩ := List.mem_filterMap.mp hm'
      exact nfr (List.mem_filterMap.mpr ⟨e, List.mem_cons_of_mem _ he, q⟩)
    have S3 := Inv.suite J3 he3 hd3 na nL nF
    have aB : B.get? a = none := fl3.2.1
    have fra : a ∉ frs X.stack := by rw [hs]; exact nfr
    have aI : sI.heap.get? a = none := by
      cases e : sI.heap.get? a with
      | none => rfl
      | some o => rw [nb a o e fra] at aB; cases aB
    have h0 : X.s_0.heap.get? a = none := by
      cases e : X.s_0.heap.get? a with
      | none => rfl
      | some o =>
        by_cases hx : a ∈ X.ex
        · rw [hex] at hx; cases hx
        · obtain ⟨o', e'⟩ := J.base.there a o e hx
          rw [aI] at e'
          cases e'
    have hne : ∀ p ∈ X.pn ++ pins, p.1 ≠ a := fun p hp z => by
      have := (J.pin p hp).1
      rw [z, aI] at this
      cases this
    refine wpAny_handleBy_cons (codeAny_handlers_test ?_) (by intro z; cases z)
    refine ld_glob (X := X.suite a ((a, oe3) :: (X.pn ++ pins))) S3 hg hmg ?_ hdb
    have LT : PySem.W.Looks (model X.prog X.w) h3 (typeOf (.ref a)) cls' := fun A Q E s hk hq => by
      refine wpAny_typeOf_ref (hk a oe3 he3) ?_
      rw [hz3.1]
      exact hq
    refine PySem.W.Looks.here (PySem.W.exm_one S3.kIn LT hm) ?_
    refine codeAny_handlers_suite_as (HandSPX.lands_againZ fl3 fun h4 fl4 up4 => ?_)
    have J4 := Inv.landed (s' := { s' with heap := h4 }) J nb fl4.1 ((up.trans up3).trans up4) os ag
    obtain ⟨oe4, vs4, he4, hz4, hd4⟩ := HandSPX.FlyingZ.there fl4
    have S4 := Inv.suite J4 he4 hd4 na nL nF
    refine store_ok (X := X.suite a ((a, oe4) :: (X.pn ++ pins))) (v := .ref a) S4 hN hi (Or.inl hln) rfl (fun s5 S5 => ?_) (Or.inr hln)
    refine wpAny_mono ((hsu a oe4 d (X.pn ++ pins) hz4 ⟨vs4, hd4⟩).run [] s5 _ H' _ S5 (hy a na)) ?_ fun e s he => he.elim
    intro f s6 hsp
    cases f with
    | next =>
      obtain ⟨σ6, H6, S6, hq⟩ := hsp
      have S6' := unsuite2 S6 ok
      refine gone_ok S6' hN hi hln fun s7 S7 => ⟨_, _, trackD S7 h0 hz4 hd4 hne, hq ?_⟩
      exact (S7.pin (a, oe4) (List.mem_append_right _ List.mem_cons_self)).2.1
    | brk =>
      obtain ⟨σ6, H6, S6, hq⟩ := hsp
      exact gone_ok (Inv.unsuite S6 ok) hN hi hln fun s7 S7 => ⟨_, _, S7, hq⟩
    | cont =>
      obtain ⟨σ6, H6, S6, hq⟩ := hsp
      exact gone_ok (Inv.unsuite S6 ok) hN hi hln fun s7 S7 => ⟨_, _, S7, hq⟩
    | ret v =>
      obtain ⟨v', σ6, H6, S6, r, hq⟩ := hsp
      exact gone_ok (Inv.unsuite S6 ok) hN hi hln fun s7 S7 => ⟨v', _, _, S7, r, hq⟩
  · intro f s1 hsp
    cases f with
    | next =>
      obtain ⟨σ', H', J', q⟩ := hsp
      exact wpAny_execs_nil ⟨σ', H', Inv.ofTry J' ok, q⟩
    | brk =>
      obtain ⟨σ', H', J', q⟩ := hsp
      exact ⟨σ', H', Inv.ofTry J' ok, q⟩
    | cont =>
      obtain ⟨σ', H', J', q⟩ := hsp
      exact ⟨σ', H', Inv.ofTry J' ok, q⟩
    | ret v =>
      obtain ⟨v', σ', H', J', r, q⟩ := hsp
      exact ⟨v', σ', H', Inv.ofTry J' ok, r, q⟩
/-! ### lists of unlike lengths -/
def rEqLen : R2 := fun x y H Q => ∃ (a b : Addr) (xs ys : List V), x = .ref a ∧ y = .ref b ∧ H a = some (.lst xs) ∧ H b = some (.lst ys) ∧ xs.length ≠ ys.length ∧ Q (.bl false) H
theorem op_eqLen {X : Cx} (hu : X.A.units < cLine) : OpR X (compareOp .Eq) rEqLen := by
  intro pins s σ H x y v u Q I rx ry h
  obtain ⟨a, b, xs, ys, rfl, rfl, ha, hb, hl, q⟩ := h
  obtain rfl : v = Value.ref a := rx
  obtain rfl : u = Value.ref b := ry
  obtain ⟨_, is, n, vi, ei⟩ := (show ObjOk X.prog X.w H s.heap a (.lst xs) from I.hok a _ ha)
  obtain ⟨_, js, m, vj, ej⟩ := (show ObjOk X.prog X.w H s.heap b (.lst ys) from I.hok b _ hb)
  refine SeqAt.eq_list_lengthsAt (items := is.toArray) (items2 := js.toArray) ⟨_, ei, rfl, n, rfl⟩ ⟨_, ej, rfl, m, rfl⟩ ?_ hu ⟨.bl false, H, I, rfl, q⟩
  rw [bne_iff_ne]
  intro z
  simp only [List.size_toArray] at z
  exact hl (by rw [vi.length, vj.length, z])
end My

namespace My
open PySem L2
local macro_rules | `(tactic| walk_at "bx1") => `(tactic| first | with_reducible assumption | ((with_reducible refine' Bx.upd ?h1 ?h2); (case h1 => walk_at "bx1"); (case h2 => walk_at "ne")) | ((with_reducible refine' Bx.same ?h1 (by with_reducible assumption)); (case h1 => walk_at "bx1")))
local macro_rules | `(tactic| walk_at "bx") => `(tactic| (refine' Bx.mono ?h1 ?h2; (case h1 => walk_at "bx1"); (case h2 => omega)))
local macro_rules | `(tactic| walk_at "ne") => `(tactic| first | with_reducible assumption | exact Ne.symm (by with_reducible assumption) | ((with_reducible refine' ne_of_none ?h1 (by with_reducible assumption)); (case h1 => walk_at "hp")) | ((with_reducible refine' Ne.symm (ne_of_none ?h1 (by with_reducible assumption))); (case h1 => walk_at "hp")) | ((with_reducible refine' Bx.ne ?h1 (by with_reducible assumption)); (case h1 => walk_at "bx1")) | ((with_reducible refine' Ne.symm (Bx.ne ?h1 (by with_reducible assumption))); (case h1 => walk_at "bx1")))
local macro_rules | `(tactic| walk_at "hp") => `(tactic| first | with_reducible assumption | ((with_reducible refine' (upd_same.trans ?h1)); (case h1 => rfl)) | ((with_reducible refine' My.upd_at ?h1 ?h2); (case h1 => walk_at "hp"); (case h2 => walk_at "ne")) | ((with_reducible refine' My.Kp.at (by with_reducible assumption) ?h1 ?h2); (case h1 => walk_at "hp"); (case h2 => walk_at "ne")) | ((with_reducible refine' My.Same.at (by with_reducible assumption) ?h1); (case h1 => walk_at "hp")))
local macro_rules | `(tactic| walk_at "sq") => `(tactic| first | with_reducible assumption | exact SqL.of (by walk_at "hp") | exact SqT.of (by walk_at "hp") | ((with_reducible refine' My.SqT.upd ?h1 (by with_reducible assumption)); (case h1 => walk_at "sq")) | ((with_reducible refine' My.SqL.upd ?h1 (by with_reducible assumption)); (case h1 => walk_at "sq")) | ((with_reducible refine' Same.seq (by with_reducible assumption) ?h1); (case h1 => walk_at "sq")) | ((with_reducible refine' My.SqT.same ?h1 (by with_reducible assumption)); (case h1 => walk_at "sq")) | ((with_reducible refine' My.SqT.kp ?h1 (by with_reducible assumption) ?h2); (case h1 => walk_at "sq"); (case h2 => walk_at "bx1")) | ((with_reducible refine' My.SqL.kp ?h1 (by with_reducible assumption) ?h2); (case h1 => walk_at "sq"); (case h2 => walk_at "ne")))
local macro_rules | `(tactic| walk_at "sd") => `(tactic| first | assumption | omega | decide | (refine ⟨?_, ?_⟩ <;> (first | omega | decide)) | (refine Or.inl ⟨?_, ?_⟩ <;> (first | omega | decide)) | (refine Or.inr ⟨?_, ?_⟩ <;> (first | omega | decide)) | (refine ⟨?_, ?_, ?_⟩ <;> (first | omega | decide)))
local macro_rules | `(tactic| walk_at "ps") => `(tactic| first
  | with_reducible refine r_seq ?_ | with_reducible refine r_asg ?_ | with_reducible refine r_op ?_ | with_reducible refine r_cons ?_ | with_reducible refine r_nil ?_ | with_reducible refine r_c ?_
  | with_reducible refine' r_var rfl ?_ | with_reducible refine r_gname ?_ | with_reducible refine r_cb ?_ | with_reducible refine r_I0 ?_ | with_reducible refine r_ret ?_ | with_reducible refine r_ifS ?_ | with_reducible refine r_test ?_ | with_reducible refine r_B ?_
  | with_reducible refine r_next ?_ | with_reducible refine r_drop ?_ | with_reducible refine r_if ?_ | with_reducible refine r_un ?_ | with_reducible refine r_U ?_ | with_reducible refine r_gsub ?_ | with_reducible refine r_tup ?_ | with_reducible refine r_lst ?_ | with_reducible refine r_bm ?_
  | with_reducible refine r_cal ?_ | with_reducible refine r_not ?_ | with_reducible refine r_and ?_ | with_reducible refine r_or ?_ | with_reducible refine r_andV ?_ | with_reducible refine r_orV ?_ | with_reducible refine r_notV ?_
  | with_reducible refine r_abs ?_ | with_reducible refine r_intI ?_ | with_reducible refine r_intB ?_ | with_reducible refine r_m1 ?_ | with_reducible refine r_slice ?_ | with_reducible refine r_part ?_ | with_reducible refine r_nopart ?_
  | with_reducible refine r_gcons ?_ | with_reducible refine r_gnil ?_
  | with_reducible refine r_par ?_ | with_reducible refine r_par3 ?_ | with_reducible refine r_ex2 ?_ | with_reducible refine r_ex3 ?_
  | with_reducible refine r_isN ?_ | with_reducible refine r_notN ?_
  | with_reducible refine r_iZipA ?_
  | with_reducible refine r_dget ?_ | with_reducible refine r_dget2 ?_ | with_reducible refine r_iKeys ?_ | with_reducible refine r_dput ?_
  | with_reducible refine r_for ?_ | with_reducible refine r_lc ?_ | with_reducible refine r_iList ?_ | with_reducible refine r_iTup ?_ | with_reducible refine r_iRng1 ?_ | with_reducible refine r_iEnum ?_ | with_reducible refine r_orT ?_ | with_reducible refine r_yes ?_ | with_reducible refine r_ixSl ?_)
local macro_rules | `(tactic| walk_at "st") => `(tactic| first
  | walk_at "ps"
  | ((with_reducible refine' r_ixL ?h1 ?h2 ?_); (case h1 => walk_at "sq"); (case h2 => rfl))
  | ((with_reducible refine' r_setL ?h1 ?h2 ?_); (case h1 => walk_at "hp"); (case h2 => rfl))
  | ((with_reducible refine' r_I ?h1 ?_); (case h1 => walk_at "sd"))
  | ((with_reducible refine' r_eq ?h1 ?_); (case h1 => rfl)) | ((with_reducible refine' r_ne ?h1 ?_); (case h1 => rfl))
  | ((with_reducible refine' r_lenL ?h1 ?_); (case h1 => walk_at "sq")) | ((with_reducible refine' r_lenT ?h1 ?_); (case h1 => walk_at "sq")) | ((with_reducible refine' r_lenD ?h1 ?_); (case h1 => walk_at "hp"))
  | ((with_reducible refine' r_slL ?h1 ?_); (case h1 => walk_at "sq"); intro _ _)
  | ((with_reducible refine' r_append ?h1 ?h2 ?_); (case h1 => walk_at "hp"); (case h2 => exact szl (by first | omega | (simp; omega))))
  | ((with_reducible refine' r_gtup ?h1 ?h2 ?_); (case h1 => walk_at "sq"); (case h2 => rfl))
  | ((with_reducible refine' r_cat ?h1 ?h2 ?h3 ?_); (case h1 => walk_at "hp"); (case h2 => walk_at "hp"); (case h3 => exact sz (by first | omega | (simp; omega))); intro _ _)
  | ((with_reducible refine' r_wLst ?h1 ?_); (case h1 => walk_at "sq")) | ((with_reducible refine' r_wTup ?h1 ?_); (case h1 => walk_at "sq"))
  | ((with_reducible refine' r_wRng ?h1 ?_); (case h1 => walk_at "sd"))
  | ((with_reducible refine' r_truL ?h1 ?_); (case h1 => walk_at "sq"))
  | ((with_reducible refine' r_list (Or.inl ?h1) ?_); (case h1 => walk_at "sq"); intro _ _) | ((with_reducible refine' r_list (Or.inr ?h1) ?_); (case h1 => walk_at "sq"); intro _ _)
  | ((with_reducible refine' r_tupL ?h1 ?_); (case h1 => walk_at "sq"); intro _ _) | ((with_reducible refine' r_tupT ?h1 ?_); (case h1 => walk_at "sq"))
  | ((with_reducible refine' r_disp ?h1 ?_); (case h1 => exact Nat.le_of_ble_eq_true rfl); intro _ _)
  | ((with_reducible refine r_dnewK ?_); intro _ _)
  | ((with_reducible refine' r_tyL ?h1 ?_); (case h1 => walk_at "sq")) | with_reducible refine r_strV ?_
  | with_reducible refine r_exb ?_ | with_reducible refine r_exi ?_ | with_reducible refine r_exr ?_ | with_reducible refine r_exs ?_ | with_reducible refine r_exli ?_)
local macro_rules | `(tactic| walk_at "go") => `(tactic| repeat walk_at "st")
local macro_rules | `(tactic| walk_at "in") => `(tactic| dsimp only [noxK, cxK, L2.start, List.map_cons, List.map_nil, List.length_cons, List.length_nil, Nat.reduceAdd, Nat.reduceSub, List.replicate, List.cons_append, List.nil_append])

def top (i : Nat) : Stmt := PySem.Challenge.pw_onceopened_k59_errors_made_by_hand.main.body.getD i (.Pass ⟨0, 0, 0, 0⟩)
structure Txt (K : PySem.W.Frag) (mg : Str → Option Value) : Prop where
  int : mg "int" = none
  len : mg "len" = none
  abs : mg "abs" = none
  list : mg "list" = none
  tuple : mg "tuple" = none
  range : mg "range" = none
  enumerate : mg "enumerate" = none
  isinstance : mg "isinstance" = none
  all : mg "all" = none
  zip : mg "zip" = none
  dict : mg "dict" = none
  bool : mg "bool" = none
  str : mg "str" = none
  set : mg "set" = none
  sorted : mg "sorted" = none
  min : mg "min" = none
section
variable {P : Program} {w : World} {K : PySem.W.Frag} {mg : Str → Option Value} {base : Heap}
abbrev sTake : Stmt := top 19
theorem scTake : FnScope ["_law_box_here", "_law_below", "_law_once", "_law_far", "_law_twice", "_law_drawn"] ["_law_box_here", "_law_below"] (defScope sTake) := ⟨rfl, rfl, rfl, by decide +kernel, rfl, by decide +kernel, by decide +kernel⟩
def spTake : Sp := fun vs H Q _ => ∃ (a : Addr) (b : Nat) (n : Int), vs = [.ref a, .int n] ∧ Bx H a (b + 1) ∧ 0 < n ∧ n < 2 ^ 100 ∧
  ∀ (d : Int) H', 0 ≤ d → d < n → Bx H' a b → Kp a H H' → Q (.int d) H'
theorem ok_take {f : Addr} {fd : FuncData} (F : Fun K "_law_take" "_law_take" sTake f fd) (T : Txt K mg) : FnOk P w K mg base CX0 1 f fd ["_law_box_here", "_law_below"] spTake := by
  refine F.ok scTake (fun vs H Q E h => ?_) (fun cdv A outer s H vs Q E hr h => ?_)
  · obtain ⟨a, b, n, rfl, _⟩ := h
    rfl
  · obtain ⟨a, b, n, rfl, ⟨x, y, z, hx, x0, y0, y1, z0, z1⟩, n0, n1, k⟩ := h
    refine ⟨_, (pss_cons (ps_if (pt_cmpR op_gt (pe_ix ix_list (pv 0) pe_int (fun _ _ => rfl)) pe_int (nomark _))
  (pss_cons (ps_set (i := 5) scTake.nd rfl (Or.inl rfl) (pe_op op_mod (pe_callTy c_int (by rfl) T.int (by decide +kernel) (pa_cons (pe_ix ix_list (pv 0) pe_int (fun _ _ => rfl)) pa_nil)) (pv 1)))
  (pss_cons (ps_asg (pe_op op_fdivW (pe_ix ix_list (pv 0) pe_int (fun _ _ => rfl)) (pv 1)) (pg_sub (pv 0) pe_int set_list))
  (pss_one (ps_ret (pv 5)))))
  pss_nil)
  (pss_cons (ps_asg (pe_op op_add (pe_ix ix_list (pv 0) pe_int (fun _ _ => rfl)) pe_int) (pg_sub (pv 0) pe_int set_list))
  (pss_cons (ps_set (i := 2) scTake.nd rfl (Or.inl rfl) (pe_op op_mod (pe_callTy c_int (by rfl) T.int (by decide +kernel) (pa_cons (pe_op op_mul (pe_op op_add (pe_ix ix_list (pv 0) pe_int (fun _ _ => rfl)) (pe_op op_mul pe_int (pe_ix ix_list (pv 0) pe_int (fun _ _ => rfl)))) (pe_op op_add pe_int (pe_ix ix_list (pv 0) pe_int (fun _ _ => rfl)))) pa_nil)) pe_int))
  (pss_cons (ps_set (i := 3) scTake.nd rfl (Or.inl rfl) (pe_op op_add (pe_op op_mod (pe_callTy c_int (by rfl) T.int (by decide +kernel) (pa_cons (pv 2) pa_nil)) pe_int) pe_int))
  (pss_cons (ps_set (i := 4) scTake.nd rfl (Or.inl rfl) (pe_op op_mod (pe_callTy c_int (by rfl) T.int (by decide +kernel) (pa_cons (pe_op op_mul (pe_op op_add (pe_op op_add (pv 2) (pe_ix ix_list (pv 0) pe_int (fun _ _ => rfl))) (pe_op op_fdiv (pe_ix ix_list (pv 0) pe_int (fun _ _ => rfl)) pe_int)) (pv 3)) pa_nil)) pe_int))
  (pss_one (ps_ret (pe_op op_mod (pe_callTy c_int (by rfl) T.int (by decide +kernel) (pa_cons (pe_op op_fdiv (pe_op op_mod (pe_callTy c_int (by rfl) T.int (by decide +kernel) (pa_cons (pe_op op_add (pe_op op_mul (pv 4) pe_int) (pv 2)) pa_nil)) pe_int) pe_int) pa_nil)) (pv 1))))))))), ?_⟩
    walk_at "in"
    walk_at "go"
    refine ite_d (fun c => ?_) (fun c => ?_)
    · walk_at "go"
      refine r_I (wide_div n0 (b := 100) (by omega) (by decide) (by decide)) ?_
      walk_at "go"
      exact k _ _ (Int.emod_nonneg _ (by omega)) (Int.emod_lt_of_pos _ n0) ⟨_, y, z, upd_same, Int.ediv_nonneg x0 (by omega), y0, y1, z0, by omega⟩ fun c o e h => by walk_at "hp"
    walk_at "go"
    exact k _ _ (Int.emod_nonneg _ (by omega)) (Int.emod_lt_of_pos _ n0) ⟨x, y, z + 1, upd_same, x0, y0, y1, by omega, by omega⟩ fun c o e h => by walk_at "hp"
abbrev sBox : Stmt := top 18
theorem scBox : FnScope ["_law_script", "_law_k", "_law_cell"] ["_law_script", "_law_k"] (defScope sBox) := ⟨rfl, rfl, rfl, by decide +kernel, rfl, by decide +kernel, by decide +kernel⟩
def spBox (K : PySem.W.Frag) : Sp := fun vs H Q _ => ∃ (a : Addr) (ns : List Int) (k : Nat), vs = [.ref a, .int k] ∧ SqL K H a (ns.map V.int) ∧ k < ns.length ∧ ns.length ≤ 63 ∧
  ∀ p H', H p = none → Bx H' p 900000000 → Same H H' → Q (.ref p) H'
theorem ok_box {f : Addr} {fd : FuncData} (F : Fun K "_law_box" "_law_box" sBox f fd) (T : Txt K mg) : FnOk P w K mg base CX0 1 f fd ["_law_script", "_law_k"] (spBox K) := by
  refine F.ok scBox (fun vs H Q E h => ?_) (fun cdv A outer s H vs Q E hr h => ?_)
  · obtain ⟨a, ns, k, rfl, _⟩ := h
    rfl
  · obtain ⟨a, ns, k, rfl, hx, h1, h2, q⟩ := h
    refine ⟨_, (pss_cons (ps_set (i := 2) scBox.nd rfl (Or.inl rfl) (pe_ifExp (pt_cmpR op_lt (pv 1) (pe_callB c_lenL (by rfl) T.len (by decide +kernel) (pa_cons (pv 0) pa_nil)) (nomark _)) (pe_ix ix_list (pv 0) (pv 1) (fun _ _ => rfl)) pe_int))
  (pss_one (ps_ret (pe_lst (pa_cons (pe_op op_mul (pe_callB c_abs (by rfl) T.abs (by decide +kernel) (pa_cons (pv 2) pa_nil)) (pe_callTy c_int (by rfl) T.int (by decide +kernel) (pa_cons (pe_cmpR op_ge (pe_callB c_abs (by rfl) T.abs (by decide +kernel) (pa_cons (pv 2) pa_nil)) (pe_op op_pow pe_int pe_int) (nomark _)) pa_nil))) (pa_cons (pe_op op_add (pe_op op_add (pe_op op_mod (pe_callTy c_int (by rfl) T.int (by decide +kernel) (pa_cons (pv 2) pa_nil)) pe_int) (pe_op op_mul pe_int (pv 1))) pe_int) (pa_cons pe_int pa_nil))))))), ?_⟩
    walk_at "in"
    walk_at "go"
    refine ite_dT (by rw [List.length_map]; omega) ?_
    walk_at "go"
    refine r_ixL (by walk_at "sq") (atI_nat (map_get h1)) ?_
    generalize ns[k] = c
    walk_at "go"
    rename_i p hp
    refine q p _ hp ⟨_, _, 0, upd_same, ?_, ?_, ?_, by decide, by decide⟩ fun c o e => by walk_at "hp"
    · refine Int.mul_nonneg ?_ ?_
      · split <;> omega
      · exact ite01 _
    · have := Int.emod_nonneg c (show (2305843009213693951 : Int) ≠ 0 by decide)
      omega
    · have := Int.emod_lt_of_pos c (show (0 : Int) < 2305843009213693951 by decide)
      omega
abbrev sCells : Stmt := top 20
theorem scCells : FnScope ["_law_script", "_law_most_so", "_law_cells_here", "_law_k", "_law_cell", "_law_at_so"] ["_law_script", "_law_most_so"] (defScope sCells) := ⟨rfl, rfl, rfl, by decide +kernel, rfl, by decide +kernel, by decide +kernel⟩
def spCells (K : PySem.W.Frag) : Sp := fun vs H Q _ => ∃ (a : Addr) (ns : List Int), vs = [.ref a, .int 3] ∧ SqL K H a (ns.map V.int) ∧ ns.length ≤ 63 ∧
  ∀ (p : Addr) (ms : List Int) (H' : Hp), H p = none → 1 ≤ ms.length → ms.length ≤ 3 → H' p = some (.lst (ms.map V.int)) → Same H H' → Q (.ref p) H'
theorem ok_cells {f : Addr} {fd : FuncData} (F : Fun K "_law_cells" "_law_cells" sCells f fd) (T : Txt K mg) : FnOk P w K mg base CX0 1 f fd ["_law_script", "_law_most_so"] (spCells K) := by
  refine F.ok scCells (fun vs H Q E h => ?_) (fun cdv A outer s H vs Q E hr h => ?_)
  · obtain ⟨a, ns, rfl, _⟩ := h
    rfl
  · obtain ⟨a, ns, rfl, hx, h1, q⟩ := h
    refine ⟨_, (Evl.pss_cut (ps_set (i := 2) scCells.nd rfl (Or.inl rfl) (pe_orT (pe_callTy c_list (by rfl) T.list (by decide +kernel) (pa_cons (pe_slice sl_list (pv 0) po_none (po_some (pv 1))) pa_nil)) (pe_one (pe_lst (pa_cons pe_int pa_nil)))))
  (pss_cons (ps_for PassesOwn.never rfl (pi_enum (by rfl) T.enumerate (pa_cons (pe_slice sl_list (pv 0) (po_some (pv 1)) (po_some pe_int)) pa_nil)) (pg_tup rfl (pgs_cons (pg_name (i := 3) scCells.nd rfl (Or.inl rfl)) (pgs_cons (pg_name (i := 4) scCells.nd rfl (Or.inl rfl)) pgs_nil)))
  (pss_cons (ps_set (i := 5) scCells.nd rfl (Or.inl rfl) (pe_op op_mod (pe_callTy c_int (by rfl) T.int (by decide +kernel) (pa_cons (pv 3) pa_nil)) (pv 1)))
  (pss_one (ps_asg (pe_op op_add (pe_ix ix_list (pv 2) (pv 5) (fun _ _ => rfl)) (pe_op op_mul (pv 4) (pe_op op_add (pv 3) pe_int))) (pg_sub (pv 2) (pv 5) set_list)))))
  (pss_one (ps_ret (pv 2))))), ?_⟩
    walk_at "in"
    refine ⟨fun σ' H' => ∃ (l : Addr) (ms : List Int), σ' = [some (.ref a), some (.int 3), some (.ref l), none, none, none] ∧ H l = none ∧ 1 ≤ ms.length ∧ ms.length ≤ 3 ∧ (3 < ns.length → ms.length = 3) ∧ H' l = some (.lst (ms.map V.int)) ∧ Same H H', ?_, ?_⟩
    · walk_at "go"
      rename_i p hp l hl
      have e3 : cutV (ns.map V.int) none (some 3) = (ns.take 3).map V.int := by rw [List.map_take]; exact cutV_to _ 3
      rw [e3] at hl ⊢
      have s1 : Same H (upd (upd H p (.lst ((ns.take 3).map V.int))) l (.lst ((ns.take 3).map V.int))) := fun c o e => by walk_at "hp"
      cases e : ns with
      | nil =>
        rw [e] at s1
        refine iteF ?_
        walk_at "go"
        rename_i q2 hq2
        exact ⟨q2, [0], rfl, s1.free hq2, by decide, by decide, fun z => absurd z (by decide), upd_same, fun c o e => by walk_at "hp"⟩
      | cons n r =>
        rw [e] at s1 hl
        refine iteT ?_
        walk_at "go"
        have hl0 : H l = none := Same.free (fun c o e => by walk_at "hp") hl
        exact ⟨l, (n :: r).take 3, rfl, hl0, by rw [List.length_take, List.length_cons]; omega, by rw [List.length_take]; omega, fun z => by rw [List.length_take]; omega, upd_same, s1⟩
    rintro σ1 H1 ⟨l, ms, rfl, hl, m1, m2, m3, hms, s1⟩
    walk_at "go"
    refine ⟨_, _, rfl, by walk_at "sq", ?_⟩
    rename_i p hp
    have e3 : cutV (ns.map V.int) (some 3) (some 63) = ((ns.drop 3).take 60).map V.int := by rw [List.map_take, List.map_drop]; exact cutV_mid _ 3 63
    rw [e3]
    have npl : l ≠ p := ne_of_none hms hp
    refine for_it (walk_enum (xs := ((ns.drop 3).take 60).map V.int)) (fun i σ H' => ∃ (ms : List Int) (x1 x2 x3 : Option V), σ = [some (.ref a), some (.int 3), some (.ref l), x1, x2, x3] ∧ 1 ≤ ms.length ∧ ms.length ≤ 3 ∧ (3 < ns.length → ms.length = 3) ∧ H' l = some (.lst (ms.map V.int)) ∧ Same H H' ∧ H' p = some (.lst (((ns.drop 3).take 60).map V.int))) ?_ ?_ ?_ ?_
    · exact ⟨ms, none, none, none, rfl, m1, m2, m3, by walk_at "hp", fun c o e => by walk_at "hp", by walk_at "hp"⟩
    · rintro i σ H2 _ ⟨_, _, _, _, _, _, _, _, _, _, h⟩
      exact SqL.of h
    · rintro i x σ H2 H3 hi ⟨ms, x1, x2, x3, rfl, m1, m2, m3, hm, s2, hp2⟩ ⟨t, u, v, rfl, ht, rfl, hu, hv⟩
      obtain rfl : V.int (i : Nat) = u := Option.some.inj hu
      rw [List.length_map, List.length_take, List.length_drop] at hi
      have hm3 : ms.length = 3 := m3 (by omega)
      obtain ⟨c, rfl, _⟩ := map_some hv
      walk_at "go"
      obtain ⟨j, hj, hj3⟩ : ∃ j : Nat, ((i : Nat) : Int) % 3 = (j : Int) ∧ j < ms.length := ⟨i % 3, by omega, by omega⟩
      rw [hj]
      refine r_ixL (by walk_at "sq") (atI_nat (j := j) (map_get hj3)) ?_
      walk_at "go"
      refine r_setL (xs := ms.map V.int) (by walk_at "hp") (ixN_lt (by rw [List.length_map]; exact hj3)) ?_
      have npt : p ≠ t := ne_of_none hp2 ht
      have nlt : l ≠ t := ne_of_none hm ht
      refine ⟨ms.set j (ms[j] + c * ((i : Int) + 2)), _, _, _, rfl, by rw [List.length_set]; exact m1, by rw [List.length_set]; exact m2, fun _ => by rw [List.length_set]; exact hm3, by rw [List.map_set]; exact upd_same, fun c o e => ?_, by walk_at "hp"⟩
      have n1 : c ≠ l := ne_of_none e hl
      walk_at "hp"
    · rintro σ H2 ⟨ms, x1, x2, x3, rfl, m1, m2, m3, hm, s2, hp2⟩
      walk_at "go"
      exact q l ms H2 hl m1 m2 hm s2
abbrev sOf : Stmt := top 21
theorem scOf : FnScope ["_law_box_here", "_law_some"] ["_law_box_here", "_law_some"] (defScope sOf) := ⟨rfl, rfl, rfl, by decide +kernel, rfl, by decide +kernel, by decide +kernel⟩
def spOf : Sp := fun vs H Q _ => ∃ (a l : Addr) (b : Nat) (xs : List V), vs = [.ref a, .ref l] ∧ Bx H a (b + 1) ∧ H l = some (.lst xs) ∧ l ≠ a ∧ 0 < xs.length ∧ xs.length ≤ 1000 ∧
  ∀ (x : V) (i : Nat) (H' : Hp), xs[i]? = some x → Bx H' a b → Kp a H H' → Q x H'
theorem ok_of {f : Addr} {fd : FuncData} (F : Fun K "_law_of" "_law_of" sOf f fd) (T : Txt K mg) (Ct : Cal P w K mg base CX0 1 "_law_take" ["_law_box_here", "_law_below"] spTake) : FnOk P w K mg base CX0 2 f fd ["_law_box_here", "_law_some"] spOf := by
  refine F.ok scOf (fun vs H Q E h => ?_) (fun cdv A outer s H vs Q E hr h => ?_)
  · obtain ⟨a, l, b, xs, rfl, _⟩ := h
    rfl
  · obtain ⟨a, l, b, xs, rfl, hb, hl, nla, h0, h1, q⟩ := h
    refine ⟨_, (pss_one (ps_ret (pe_ix ix_list (pv 1) (pe_cal Ct hr pass0 (pa_cons (pv 0) (pa_cons (pe_callB c_lenL (by rfl) T.len (by decide +kernel) (pa_cons (pv 1) pa_nil)) pa_nil))) (fun _ _ => rfl)))), ?_⟩
    walk_at "in"
    walk_at "go"
    refine ⟨a, b, xs.length, rfl, by walk_at "bx", by omega, by omega, fun d H1 d0 d1 bx1 kp1 => ?_⟩
    obtain ⟨j, rfl⟩ : ∃ j : Nat, d = j := ⟨d.toNat, by omega⟩
    have hj : j < xs.length := by omega
    refine r_ixL (by walk_at "sq") (atI_nat (List.getElem?_eq_getElem hj)) ?_
    exact q _ j _ (List.getElem?_eq_getElem hj) bx1 kp1
end
end My

namespace My
open PySem L2
local macro_rules | `(tactic| walk_at "bx1") => `(tactic| first | with_reducible assumption | ((with_reducible refine' Bx.upd ?h1 ?h2); (case h1 => walk_at "bx1"); (case h2 => walk_at "ne")) | ((with_reducible refine' Bx.same ?h1 (by with_reducible assumption)); (case h1 => walk_at "bx1")))
local macro_rules | `(tactic| walk_at "bx") => `(tactic| (refine' Bx.mono ?h1 ?h2; (case h1 => walk_at "bx1"); (case h2 => omega)))
local macro_rules | `(tactic| walk_at "ne") => `(tactic| first | with_reducible assumption | exact Ne.symm (by with_reducible assumption) | ((with_reducible refine' ne_of_none ?h1 (by with_reducible assumption)); (case h1 => walk_at "hp")) | ((with_reducible refine' Ne.symm (ne_of_none ?h1 (by with_reducible assumption))); (case h1 => walk_at "hp")) | ((with_reducible refine' Bx.ne ?h1 (by with_reducible assumption)); (case h1 => walk_at "bx1")) | ((with_reducible refine' Ne.symm (Bx.ne ?h1 (by with_reducible assumption))); (case h1 => walk_at "bx1")))
local macro_rules | `(tactic| walk_at "hp") => `(tactic| first | with_reducible assumption | ((with_reducible refine' (upd_same.trans ?h1)); (case h1 => rfl)) | ((with_reducible refine' My.upd_at ?h1 ?h2); (case h1 => walk_at "hp"); (case h2 => walk_at "ne")) | ((with_reducible refine' My.Kp.at (by with_reducible assumption) ?h1 ?h2); (case h1 => walk_at "hp"); (case h2 => walk_at "ne")) | ((with_reducible refine' My.Same.at (by with_reducible assumption) ?h1); (case h1 => walk_at "hp")))
local macro_rules | `(tactic| walk_at "sq") => `(tactic| first | with_reducible assumption | exact SqL.of (by walk_at "hp") | exact SqT.of (by walk_at "hp") | ((with_reducible refine' My.SqT.upd ?h1 (by with_reducible assumption)); (case h1 => walk_at "sq")) | ((with_reducible refine' My.SqL.upd ?h1 (by with_reducible assumption)); (case h1 => walk_at "sq")) | ((with_reducible refine' Same.seq (by with_reducible assumption) ?h1); (case h1 => walk_at "sq")) | ((with_reducible refine' My.SqT.same ?h1 (by with_reducible assumption)); (case h1 => walk_at "sq")) | ((with_reducible refine' My.SqT.kp ?h1 (by with_reducible assumption) ?h2); (case h1 => walk_at "sq"); (case h2 => walk_at "bx1")) | ((with_reducible refine' My.SqL.kp ?h1 (by with_reducible assumption) ?h2); (case h1 => walk_at "sq"); (case h2 => walk_at "ne")))
local macro_rules | `(tactic| walk_at "sd") => `(tactic| first | assumption | omega | decide | (refine ⟨?_, ?_⟩ <;> (first | omega | decide)) | (refine Or.inl ⟨?_, ?_⟩ <;> (first | omega | decide)) | (refine Or.inr ⟨?_, ?_⟩ <;> (first | omega | decide)) | (refine ⟨?_, ?_, ?_⟩ <;> (first | omega | decide)))
local macro_rules | `(tactic| walk_at "ps") => `(tactic| first
  | with_reducible refine r_seq ?_ | with_reducible refine r_asg ?_ | with_reducible refine r_op ?_ | with_reducible refine r_cons ?_ | with_reducible refine r_nil ?_ | with_reducible refine r_c ?_
  | with_reducible refine' r_var rfl ?_ | with_reducible refine r_gname ?_ | with_reducible refine r_cb ?_ | with_reducible refine r_I0 ?_ | with_reducible refine r_ret ?_ | with_reducible refine r_ifS ?_ | with_reducible refine r_test ?_ | with_reducible refine r_B ?_
  | with_reducible refine r_next ?_ | with_reducible refine r_drop ?_ | with_reducible refine r_if ?_ | with_reducible refine r_un ?_ | with_reducible refine r_U ?_ | with_reducible refine r_gsub ?_ | with_reducible refine r_tup ?_ | with_reducible refine r_lst ?_ | with_reducible refine r_bm ?_
  | with_reducible refine r_cal ?_ | with_reducible refine r_not ?_ | with_reducible refine r_and ?_ | with_reducible refine r_or ?_ | with_reducible refine r_andV ?_ | with_reducible refine r_orV ?_ | with_reducible refine r_notV ?_
  | with_reducible refine r_abs ?_ | with_reducible refine r_intI ?_ | with_reducible refine r_intB ?_ | with_reducible refine r_m1 ?_ | with_reducible refine r_slice ?_ | with_reducible refine r_part ?_ | with_reducible refine r_nopart ?_
  | with_reducible refine r_gcons ?_ | with_reducible refine r_gnil ?_
  | with_reducible refine r_par ?_ | with_reducible refine r_par3 ?_ | with_reducible refine r_ex2 ?_ | with_reducible refine r_ex3 ?_
  | with_reducible refine r_isN ?_ | with_reducible refine r_notN ?_
  | with_reducible refine r_iZipA ?_
  | with_reducible refine r_dget ?_ | with_reducible refine r_dget2 ?_ | with_reducible refine r_iKeys ?_ | with_reducible refine r_dput ?_
  | with_reducible refine r_for ?_ | with_reducible refine r_lc ?_ | with_reducible refine r_iList ?_ | with_reducible refine r_iTup ?_ | with_reducible refine r_iRng1 ?_ | with_reducible refine r_iEnum ?_ | with_reducible refine r_orT ?_ | with_reducible refine r_yes ?_ | with_reducible refine r_ixSl ?_)
local macro_rules | `(tactic| walk_at "st") => `(tactic| first
  | walk_at "ps"
  | ((with_reducible refine' r_ixL ?h1 ?h2 ?_); (case h1 => walk_at "sq"); (case h2 => rfl))
  | ((with_reducible refine' r_setL ?h1 ?h2 ?_); (case h1 => walk_at "hp"); (case h2 => rfl))
  | ((with_reducible refine' r_I ?h1 ?_); (case h1 => walk_at "sd"))
  | ((with_reducible refine' r_eq ?h1 ?_); (case h1 => rfl)) | ((with_reducible refine' r_ne ?h1 ?_); (case h1 => rfl))
  | ((with_reducible refine' r_lenL ?h1 ?_); (case h1 => walk_at "sq")) | ((with_reducible refine' r_lenT ?h1 ?_); (case h1 => walk_at "sq")) | ((with_reducible refine' r_lenD ?h1 ?_); (case h1 => walk_at "hp"))
  | ((with_reducible refine' r_slL ?h1 ?_); (case h1 => walk_at "sq"); intro _ _)
  | ((with_reducible refine' r_append ?h1 ?h2 ?_); (case h1 => walk_at "hp"); (case h2 => exact szl (by first | omega | (simp; omega))))
  | ((with_reducible refine' r_gtup ?h1 ?h2 ?_); (case h1 => walk_at "sq"); (case h2 => rfl))
  | ((with_reducible refine' r_cat ?h1 ?h2 ?h3 ?_); (case h1 => walk_at "hp"); (case h2 => walk_at "hp"); (case h3 => exact sz (by first | omega | (simp; omega))); intro _ _)
  | ((with_reducible refine' r_wLst ?h1 ?_); (case h1 => walk_at "sq")) | ((with_reducible refine' r_wTup ?h1 ?_); (case h1 => walk_at "sq"))
  | ((with_reducible refine' r_wRng ?h1 ?_); (case h1 => walk_at "sd"))
  | ((with_reducible refine' r_truL ?h1 ?_); (case h1 => walk_at "sq"))
  | ((with_reducible refine' r_list (Or.inl ?h1) ?_); (case h1 => walk_at "sq"); intro _ _) | ((with_reducible refine' r_list (Or.inr ?h1) ?_); (case h1 => walk_at "sq"); intro _ _)
  | ((with_reducible refine' r_tupL ?h1 ?_); (case h1 => walk_at "sq"); intro _ _) | ((with_reducible refine' r_tupT ?h1 ?_); (case h1 => walk_at "sq"))
  | ((with_reducible refine' r_disp ?h1 ?_); (case h1 => exact Nat.le_of_ble_eq_true rfl); intro _ _)
  | ((with_reducible refine r_dnewK ?_); intro _ _)
  | ((with_reducible refine' r_tyL ?h1 ?_); (case h1 => walk_at "sq")) | with_reducible refine r_strV ?_
  | with_reducible refine r_exb ?_ | with_reducible refine r_exi ?_ | with_reducible refine r_exr ?_ | with_reducible refine r_exs ?_ | with_reducible refine r_exli ?_)
local macro_rules | `(tactic| walk_at "go") => `(tactic| repeat walk_at "st")
local macro_rules | `(tactic| walk_at "in") => `(tactic| dsimp only [noxK, cxK, L2.start, List.map_cons, List.map_nil, List.length_cons, List.length_nil, Nat.reduceAdd, Nat.reduceSub, List.replicate, List.cons_append, List.nil_append])

section
variable {P : Program} {w : World} {K : PySem.W.Frag} {mg : Str → Option Value} {base : Heap}
abbrev sNames : Stmt := top 23
theorem scNames : FnScope ["_law_box_here", "_law_some", "_law_letters", "_law_base", "_law_first_so", "_law_step", "_law_done", "_law_k", "_law_far", "_law_place_here", "_law_near", "_law_size_so", "_law_word", "_law_at_so", "_law_sign_so", "_law_turn"] ["_law_box_here", "_law_some"] (defScope sNames) := ⟨rfl, rfl, rfl, by decide +kernel, rfl, by decide +kernel, by decide +kernel⟩
def spNames : Sp := fun vs H Q _ => ∃ (a : Addr) (b n : Nat), vs = [.ref a, .int n] ∧ n ≤ 13 ∧ Bx H a (b + (13 + 9 * n)) ∧
  ∀ (p : Addr) (ws : List Str) (H' : Hp), H p = none → ws.length = n → ws.Nodup → (∀ s ∈ ws, KindS s) → H' p = some (.lst (ws.map V.str)) → Bx H' a b → Kp a H H' → Q (.ref p) H'
/-- [letters[take(box, 26)] for .. in range(m)] -/
theorem lc_letters {σ : L2.St} {H : Hp} {Q : VK} {j m b : Nat} {a : Addr} {wi : TI} (hwi : ∀ R : It → Hp → Prop, R (Itr 0 m) H → wi σ H R) (h2 : ∀ v, ((wipe σ [j]).set j v)[2]? = some (some (.str (Str.ofString "abcdefghijklmnopqrstuvwxyz")))) (h0 : ∀ v, ((wipe σ [j]).set j v)[0]? = some (some (.ref a)))
    (hw : ∀ v, wipe ((wipe σ [j]).set j v) [j] = wipe σ [j]) (bx : Bx H a (b + m)) (hm : m ≤ 100)
    (hd : ∀ D H' (acc : List Str), H D = none → H' D = some (.lst (acc.map V.str)) → acc.length = m → (∀ s ∈ acc, Lt1 s) → Bx H' a b → Kp a H H' → Q (.ref D) H') :
    tLc wi (gName j) tYes (tOp rIxS (tVar 2) (tCal spTake E0 (tCons (tVar 0) (tCons (tC (.int 26)) tNil)))) [j] σ H Q := by
  refine r_lc (hwi _ fun D hD => ?_)
  have nDa : a ≠ D := bx.ne hD
  refine lc_it (walk_range (n := m)) (fun i H' => ∃ acc : List Str, H' D = some (.lst (acc.map V.str)) ∧ acc.length = i ∧ (∀ s ∈ acc, Lt1 s) ∧ Bx H' a (b + (m - i)) ∧ Kp a H H') ?_ (fun _ _ _ _ => trivial) ?_ ?_
  · exact ⟨[], upd_same, rfl, fun s h => by simp at h, by walk_at "bx", fun c o e n => by walk_at "hp"⟩
  · rintro i x H1 _ hi ⟨acc, hD1, hl, hacc, bx1, kp1⟩ ⟨rfl, rfl⟩
    refine r_gname ⟨hw _, ?_⟩
    refine r_yes (iteT ?_)
    refine r_op (r_var (h2 _) (r_cal (r_cons (r_var (h0 _) (r_cons (r_c (r_nil ?_)))))))
    refine ⟨a, b + (m - (i + 1)), 26, rfl, by walk_at "bx", by decide, by decide, fun d H2 d0 d1 bx2 kp2 => ?_⟩
    obtain ⟨k, rfl⟩ : ∃ k : Nat, d = k := ⟨d.toNat, by omega⟩
    refine r_ixSl ⟨by omega, ?_⟩
    refine ⟨acc.map V.str, by walk_at "hp", szl (by rw [List.length_map]; omega), acc ++ [⟨#[97 + k]⟩], by rw [List.map_append]; exact upd_same, by rw [List.length_append, hl]; rfl, fun s hs => ?_, by walk_at "bx", fun c o e n => ?_⟩
    · rcases List.mem_append.mp hs with hs | hs
      · exact hacc s hs
      · have : s = ⟨#[97 + k]⟩ := by simpa using hs
        exact ⟨97 + k, this, by omega, by omega⟩
    · have n2 : c ≠ D := ne_of_none e hD
      walk_at "hp"
  · rintro H1 ⟨acc, hD1, hl, hacc, bx1, kp1⟩
    exact hd D H1 acc hD hD1 hl hacc (by walk_at "bx") kp1
theorem ok_names {f : Addr} {fd : FuncData} (F : Fun K "_law_names" "_law_names" sNames f fd) (T : Txt K mg) (Ct : Cal P w K mg base CX0 1 "_law_take" ["_law_box_here", "_law_below"] spTake) (Co : Cal P w K mg base CX0 2 "_law_of" ["_law_box_here", "_law_some"] spOf) : FnOk P w K mg base CX0 3 f fd ["_law_box_here", "_law_some"] spNames := by
  refine F.ok scNames (fun vs H Q E h => ?_) (fun cdv A outer s H vs Q E hr h => ?_)
  · obtain ⟨a, b, n, rfl, _⟩ := h
    rfl
  · obtain ⟨a, b, n, rfl, hn, hb, q⟩ := h
    have hr1 : Room 1 _ := hr.mono (by decide)
    refine ⟨_, (pss_cons (ps_set (i := 2) scNames.nd rfl (Or.inr rfl) pe_str)
  (Evl.pss_cut (ps_set (i := 3) scNames.nd rfl (Or.inl rfl) (pe_joinR pe_str (pe_lc (own := [("_law_k", 7)]) (g := gName 7) (tt := tYes) rfl scNames.nd (pi_range1 rfl T.range (pa_cons pe_int pa_nil)) (blkOk_by (N := ["_law_box_here", "_law_some", "_law_letters", "_law_base", "_law_first_so", "_law_step", "_law_done", "_law_k", "_law_far", "_law_place_here", "_law_near", "_law_size_so", "_law_word", "_law_at_so", "_law_sign_so", "_law_turn"]) (sc := defScope sNames) (by decide +kernel)) (fun _ _ _ _ _ => (pg_name (i := 7) scNames.nd rfl (Or.inl rfl))) (fun _ _ _ _ _ => pts_nil) (fun _ _ _ _ _ => (pe_ix ix_str (pv 2) (pe_cal Ct hr1 pass0 (pa_cons (pv 0) (pa_cons pe_int pa_nil))) (fun _ _ => rfl))))))
  (pss_cons (ps_par3 (i := 8) (j := 9) (l := 10) rfl scNames.nd rfl rfl rfl (by decide) (by decide) (by decide) rfl rfl rfl (pa_cons (pe_op op_add pe_int (pe_cal Ct hr1 pass0 (pa_cons (pv 0) (pa_cons pe_int pa_nil)))) (pa_cons (pe_cal Ct hr1 pass0 (pa_cons (pv 0) (pa_cons pe_int pa_nil))) (pa_cons (pe_cal Ct hr1 pass0 (pa_cons (pv 0) (pa_cons pe_int pa_nil))) pa_nil))) (by rfl))
  (pss_cons (ps_set (i := 4) scNames.nd rfl (Or.inl rfl) (pe_cal Ct hr1 pass0 (pa_cons (pv 0) (pa_cons pe_int pa_nil))))
  (pss_cons (ps_set (i := 5) scNames.nd rfl (Or.inl rfl) (pe_cal Co hr pass0 (pa_cons (pv 0) (pa_cons (pe_lst (pa_cons pe_int (pa_cons pe_int (pa_cons pe_int (pa_cons pe_int (pa_cons pe_int (pa_cons pe_int (pa_cons pe_int (pa_cons pe_int (pa_cons pe_int (pa_cons pe_int (pa_cons pe_int (pa_cons pe_int pa_nil))))))))))))) pa_nil))))
  (pss_cons (ps_set (i := 6) scNames.nd rfl (Or.inl rfl) (pe_lst pa_nil))
  (pss_cons (ps_for PassesOwn.never rfl (pi_range1 rfl T.range (pa_cons (pv 1) pa_nil)) (pg_name (i := 7) scNames.nd rfl (Or.inl rfl))
  (Evl.pss_cut (ps_set (i := 11) scNames.nd rfl (Or.inl rfl) (pe_ifExp (pt_cmpR op_eq (pv 10) pe_int (nomark _)) (pv 8) (pe_op op_add pe_int (pe_cal Ct hr1 pass0 (pa_cons (pv 0) (pa_cons pe_int pa_nil))))))
  (pss_cons (ps_set (i := 12) scNames.nd rfl (Or.inl rfl) (pe_slice sl_str (pv 3) po_none (po_some (pv 11))))
  (Evl.pss_cut (ps_if (pt_cmpR op_gt (pv 10) pe_int (nomark _))
  (pss_one (ps_set (i := 12) scNames.nd rfl (Or.inl rfl) (pe_joinR pe_str (pe_lc (own := [("_law_turn", 15)]) (g := gName 15) (tt := tYes) rfl scNames.nd (pi_range1 rfl T.range (pa_cons (pv 11) pa_nil)) (blkOk_by (N := ["_law_box_here", "_law_some", "_law_letters", "_law_base", "_law_first_so", "_law_step", "_law_done", "_law_k", "_law_far", "_law_place_here", "_law_near", "_law_size_so", "_law_word", "_law_at_so", "_law_sign_so", "_law_turn"]) (sc := defScope sNames) (by decide +kernel)) (fun _ _ _ _ _ => (pg_name (i := 15) scNames.nd rfl (Or.inl rfl))) (fun _ _ _ _ _ => pts_nil) (fun _ _ _ _ _ => (pe_ix ix_str (pv 2) (pe_cal Ct hr1 pass0 (pa_cons (pv 0) (pa_cons pe_int pa_nil))) (fun _ _ => rfl)))))))
  pss_nil)
  (pss_cons (ps_set (i := 13) scNames.nd rfl (Or.inl rfl) (pe_op op_mod (pe_callTy c_int (by rfl) T.int (by decide +kernel) (pa_cons (pv 9) pa_nil)) (pv 11)))
  (pss_cons (ps_set (i := 14) scNames.nd rfl (Or.inl rfl) (pe_ix ix_str (pv 2) (pe_op op_mod (pe_callTy c_int (by rfl) T.int (by decide +kernel) (pa_cons (pe_op op_add (pv 4) (pe_op op_mul (pv 5) (pv 7))) pa_nil)) pe_int) (fun _ _ => rfl)))
  (pss_one (ps_expr (pe_bm PySem.F.plainAttrs_list PySem.F.slot_list_append PySem.F.type_list_append mt_append (pv 6) (pa_cons (pe_op o_catS (pe_op o_catS (pe_slice sl_str (pv 12) po_none (po_some (pv 13))) (pv 14)) (pe_slice sl_str (pv 12) (po_some (pe_op op_add (pv 13) pe_int)) po_none)) pa_nil))))))))))
  (pss_one (ps_ret (pv 6)))))))))), ?_⟩
    walk_at "in"
    walk_at "go"
    refine ⟨fun σ' H' => ∃ (z : Str), σ' = [some (.ref a), some (.int n), some (.str (Str.ofString "abcdefghijklmnopqrstuvwxyz")), some (.str z), none, none, none, none, none, none, none, none, none, none, none, none] ∧ (cds z).length = 8 ∧ AllL (cds z) ∧ Bx H' a (b + (5 + 9 * n)) ∧ Kp a H H', ?_, ?_⟩
    · refine r_asg (r_m1 (r_c (r_strV ?_)))
      refine lc_letters (a := a) (m := 8) (b := b + (5 + 9 * n)) (fun R h => ?_) (fun v => rfl) (fun v => rfl) (fun v => rfl) (by walk_at "bx") (by decide) fun D H1 acc hD hD1 hl hacc bx1 kp1 => ?_
      · walk_at "go"
        exact h
      refine r_join (ys := acc) (by walk_at "sq") (by rw [sum_len acc hacc, hl, empty_len]; omega) ?_
      walk_at "go"
      exact ⟨_, rfl, by rw [cds_join, (flat_len acc hacc).1, hl], by rw [cds_join]; exact (flat_len acc hacc).2, bx1, kp1⟩
    · rintro σ1 H1 ⟨z, rfl, z1, z2, bx1, kp1⟩
      walk_at "go"
      refine ⟨a, b + (4 + 9 * n), 8, rfl, by walk_at "bx", by decide, by decide, fun far H2 f0 f1 bx2 kp2 => ?_⟩
      walk_at "go"
      refine ⟨a, b + (3 + 9 * n), 8, rfl, by walk_at "bx", by decide, by decide, fun place H3 p0 p1 bx3 kp3 => ?_⟩
      walk_at "go"
      refine ⟨a, b + (2 + 9 * n), 2, rfl, by walk_at "bx", by decide, by decide, fun near H4 n0 n1 bx4 kp4 => ?_⟩
      walk_at "go"
      refine ⟨a, b + (1 + 9 * n), 26, rfl, by walk_at "bx", by decide, by decide, fun first H5 g0 g1 bx5 kp5 => ?_⟩
      walk_at "go"
      rename_i pl hpl
      refine ⟨a, pl, b + 9 * n, steps.map (fun (s : Nat) => V.int (s : Int)), rfl, by walk_at "bx", by walk_at "hp", by walk_at "ne", by decide, by decide, fun x i H6 hx bx6 kp6 => ?_⟩
      obtain ⟨st, rfl, hst⟩ := map_some hx
      have hst : st ∈ steps := List.mem_of_getElem? hst
      obtain ⟨far, rfl⟩ : ∃ k : Nat, far = k := ⟨far.toNat, by omega⟩
      obtain ⟨place, rfl⟩ : ∃ k : Nat, place = k := ⟨place.toNat, by omega⟩
      obtain ⟨first, rfl⟩ : ∃ k : Nat, first = k := ⟨first.toNat, by omega⟩
      have kp : Kp a H H6 := fun c o e nc => by walk_at "hp"
      walk_at "go"
      rename_i pd hpd
      have npd : pd ≠ a := by walk_at "ne"
      have hpd0 : H pd = none := kp.free hpd npd
      refine for_it (walk_range (n := n)) (fun i σ H' => ∃ (ws : List Str) (x7 x11 x12 x13 x14 : Option V), σ = [some (.ref a), some (.int n), some (.str (Str.ofString "abcdefghijklmnopqrstuvwxyz")), some (.str z), some (.int first), some (.int st), some (.ref pd), x7, some (.int (1 + far)), some (.int place), some (.int near), x11, x12, x13, x14, none] ∧ ws.length = i ∧ (∀ (k : Nat) (w : Str), ws[k]? = some w → NameAt w place (97 + (first + st * k) % 26 : Nat)) ∧ H' pd = some (.lst (ws.map V.str)) ∧ Bx H' a (b + 9 * (n - i)) ∧ Kp a H H') ?_ (fun _ _ _ _ _ => trivial) ?_ ?_
      · exact ⟨[], none, none, none, none, none, rfl, rfl, fun k w h => by simp at h, by walk_at "hp", by walk_at "bx", fun c o e nc => by walk_at "hp"⟩
      · rintro i x σ H7 _ hi ⟨ws, x7, x11, x12, x13, x14, rfl, wl, hws, hp7, bx7, kp7⟩ ⟨rfl, rfl⟩
        walk_at "go"
        refine ⟨fun σ' H' => ∃ (sz : Nat), σ' = [some (.ref a), some (.int n), some (.str (Str.ofString "abcdefghijklmnopqrstuvwxyz")), some (.str z), some (.int first), some (.int st), some (.ref pd), some (.int (0 + (i : Int))), some (.int (1 + far)), some (.int place), some (.int near), some (.int sz), x12, x13, x14, none] ∧ 1 ≤ sz ∧ sz ≤ 8 ∧ H' pd = some (.lst (ws.map V.str)) ∧ Bx H' a (b + 9 * (n - i - 1) + 8) ∧ Kp a H H', ?_, ?_⟩
        · walk_at "go"
          refine ite_d (fun c => ?_) (fun c => ?_)
          · walk_at "go"
            exact ⟨1 + far, rfl, by omega, by omega, hp7, by walk_at "bx", kp7⟩
          · walk_at "go"
            refine ⟨a, b + 9 * (n - i - 1) + 8, 8, rfl, by walk_at "bx", by decide, by decide, fun d H8 d0 d1 bx8 kp8 => ?_⟩
            obtain ⟨d, rfl⟩ : ∃ k : Nat, d = k := ⟨d.toNat, by omega⟩
            walk_at "go"
            exact ⟨1 + d, rfl, by omega, by omega, by walk_at "hp", by walk_at "bx", kp7.trans kp8⟩
        · rintro σ8 H8 ⟨sz, rfl, s1, s8, hp8, bx8, kp8⟩
          walk_at "go"
          have hk : (sz : Int) ≤ 8 := by omega
          refine r_slS (My.sz (by rw [len_cds, z1]; decide)) ?_
          walk_at "go"
          refine ⟨fun σ' H' => ∃ (wd : Str), σ' = [some (.ref a), some (.int n), some (.str (Str.ofString "abcdefghijklmnopqrstuvwxyz")), some (.str z), some (.int first), some (.int st), some (.ref pd), some (.int (0 + (i : Int))), some (.int (1 + far)), some (.int place), some (.int near), some (.int sz), some (.str wd), x13, x14, none] ∧ (cds wd).length = sz ∧ AllL (cds wd) ∧ H' pd = some (.lst (ws.map V.str)) ∧ Bx H' a (b + 9 * (n - (i + 1))) ∧ Kp a H H', ?_, ?_⟩
          · walk_at "go"
            refine ite_d (fun c => ?_) (fun c => ?_)
            · refine r_asg (r_m1 (r_c (r_strV ?_)))
              refine lc_letters (a := a) (m := sz) (b := b + 9 * (n - (i + 1))) (fun R h => ?_) (fun v => rfl) (fun v => rfl) (fun v => rfl) (by walk_at "bx") (by omega) fun D H9 acc hD hD1 hl hacc bx9 kp9 => ?_
              · walk_at "go"
                exact h
              refine r_join (ys := acc) (by walk_at "sq") (by rw [sum_len acc hacc, hl, empty_len]; omega) ?_
              walk_at "go"
              exact ⟨_, rfl, by rw [cds_join, (flat_len acc hacc).1, hl], by rw [cds_join]; exact (flat_len acc hacc).2, by walk_at "hp", bx9, kp8.trans kp9⟩
            · walk_at "go"
              exact ⟨_, rfl, by rw [cds_to, List.length_take, z1]; omega, by rw [cds_to]; exact fun d hd => z2 d (List.mem_of_mem_take hd), hp8, by walk_at "bx", kp8⟩
          · rintro σ9 H9 ⟨wd, rfl, w1, w2, hp9, bx9, kp9⟩
            walk_at "go"
            have e1 : (((first : Int) + (st : Int) * (0 + (i : Int))) % 26) = (((first + st * i) % 26 : Nat) : Int) := by rw [Int.zero_add]; rfl
            rw [e1]
            refine r_ixSl ⟨Nat.mod_lt _ (by decide), ?_⟩
            walk_at "go"
            have e2 : ((place : Int) % (sz : Int)) = ((place % sz : Nat) : Int) := rfl
            have hp1 : place % sz < sz := Nat.mod_lt _ (by omega)
            refine r_slS (My.sz (by rw [len_cds, w1]; omega)) ?_
            walk_at "go"
            rw [e2]
            refine r_catS (My.sz (by rw [len_cds, cds_to, List.length_take, w1]; show min (place % sz) sz + 1 ≤ 100000; omega)) ?_
            walk_at "go"
            refine r_slS (My.sz (by rw [len_cds, w1]; omega)) ?_
            walk_at "go"
            have e3 : (((place % sz : Nat) : Int) + 1) = ((place % sz + 1 : Nat) : Int) := rfl
            rw [e3]
            have ew : cds (cutS wd none (some ((place % sz : Nat) : Int)) ++ (⟨#[97 + (first + st * i) % 26]⟩ : Str) ++ cutS wd (some ((place % sz + 1 : Nat) : Int)) none) = (cds wd).take (place % sz) ++ [97 + (first + st * i) % 26] ++ (cds wd).drop (place % sz + 1) := by
              rw [cds_app, cds_app, cds_to, cds_from]
            have hw : NameAt (cutS wd none (some ((place % sz : Nat) : Int)) ++ (⟨#[97 + (first + st * i) % 26]⟩ : Str) ++ cutS wd (some ((place % sz + 1 : Nat) : Int)) none) place (97 + (first + st * i) % 26) := put_letter w1 w2 ⟨s1, s8⟩ (by omega) ew
            refine r_catS (My.sz (by rw [len_cds, len_cds, cds_app, cds_to, cds_from, List.length_append, List.length_take, List.length_drop, w1]; show min (place % sz) sz + 1 + (sz - (place % sz + 1)) ≤ 100000; omega)) ?_
            generalize (cutS wd none (some ((place % sz : Nat) : Int)) ++ (⟨#[97 + (first + st * i) % 26]⟩ : Str) ++ cutS wd (some ((place % sz + 1 : Nat) : Int)) none) = w' at hw
            walk_at "go"
            refine ⟨ws ++ [w'], _, _, _, _, _, rfl, by rw [List.length_append, wl]; rfl, fun k w hk => ?_, by rw [List.map_append]; exact upd_same, by walk_at "bx", fun c o e nc => ?_⟩
            · by_cases hk2 : k < ws.length
              · rw [List.getElem?_append_left hk2] at hk
                exact hws k w hk
              · rw [List.getElem?_append_right (by omega)] at hk
                obtain ⟨h1, h2⟩ := List.getElem?_eq_some_iff.mp hk
                have h3 : k = i := by simp at h1; omega
                subst h3
                have h4 : w' = w := by simpa using h2
                rw [← h4]
                exact hw
            · have n2 : c ≠ pd := ne_of_none e hpd0
              walk_at "hp"
      · rintro σ7 H7 ⟨ws, x7, x11, x12, x13, x14, rfl, wl, hws, hp7, bx7, kp7⟩
        walk_at "go"
        exact q pd ws H7 hpd0 wl (names_nodup hst (by omega) hws) (fun s hs => by
          obtain ⟨k, hk, e⟩ := List.getElem_of_mem hs
          exact (hws k s (by rw [List.getElem?_eq_getElem hk, e])).kind) hp7 (by walk_at "bx") kp7
end
end My

namespace My
open PySem L2
local macro_rules | `(tactic| walk_at "bx1") => `(tactic| first | with_reducible assumption | ((with_reducible refine' Bx.upd ?h1 ?h2); (case h1 => walk_at "bx1"); (case h2 => walk_at "ne")) | ((with_reducible refine' Bx.same ?h1 (by with_reducible assumption)); (case h1 => walk_at "bx1")))
local macro_rules | `(tactic| walk_at "bx") => `(tactic| (refine' Bx.mono ?h1 ?h2; (case h1 => walk_at "bx1"); (case h2 => omega)))
local macro_rules | `(tactic| walk_at "ne") => `(tactic| first | with_reducible assumption | exact Ne.symm (by with_reducible assumption) | ((with_reducible refine' ne_of_none ?h1 (by with_reducible assumption)); (case h1 => walk_at "hp")) | ((with_reducible refine' Ne.symm (ne_of_none ?h1 (by with_reducible assumption))); (case h1 => walk_at "hp")) | ((with_reducible refine' Bx.ne ?h1 (by with_reducible assumption)); (case h1 => walk_at "bx1")) | ((with_reducible refine' Ne.symm (Bx.ne ?h1 (by with_reducible assumption))); (case h1 => walk_at "bx1")))
local macro_rules | `(tactic| walk_at "hp") => `(tactic| first | with_reducible assumption | ((with_reducible refine' (upd_same.trans ?h1)); (case h1 => rfl)) | ((with_reducible refine' My.upd_at ?h1 ?h2); (case h1 => walk_at "hp"); (case h2 => walk_at "ne")) | ((with_reducible refine' My.Kp.at (by with_reducible assumption) ?h1 ?h2); (case h1 => walk_at "hp"); (case h2 => walk_at "ne")) | ((with_reducible refine' My.Same.at (by with_reducible assumption) ?h1); (case h1 => walk_at "hp")))
local macro_rules | `(tactic| walk_at "sq") => `(tactic| first | with_reducible assumption | exact SqL.of (by walk_at "hp") | exact SqT.of (by walk_at "hp") | ((with_reducible refine' My.SqT.upd ?h1 (by with_reducible assumption)); (case h1 => walk_at "sq")) | ((with_reducible refine' My.SqL.upd ?h1 (by with_reducible assumption)); (case h1 => walk_at "sq")) | ((with_reducible refine' Same.seq (by with_reducible assumption) ?h1); (case h1 => walk_at "sq")) | ((with_reducible refine' My.SqT.same ?h1 (by with_reducible assumption)); (case h1 => walk_at "sq")) | ((with_reducible refine' My.SqT.kp ?h1 (by with_reducible assumption) ?h2); (case h1 => walk_at "sq"); (case h2 => walk_at "bx1")) | ((with_reducible refine' My.SqL.kp ?h1 (by with_reducible assumption) ?h2); (case h1 => walk_at "sq"); (case h2 => walk_at "ne")))
local macro_rules | `(tactic| walk_at "sd") => `(tactic| first | assumption | omega | decide | (refine ⟨?_, ?_⟩ <;> (first | omega | decide)) | (refine Or.inl ⟨?_, ?_⟩ <;> (first | omega | decide)) | (refine Or.inr ⟨?_, ?_⟩ <;> (first | omega | decide)) | (refine ⟨?_, ?_, ?_⟩ <;> (first | omega | decide)))
local macro_rules | `(tactic| walk_at "ps") => `(tactic| first
  | with_reducible refine r_seq ?_ | with_reducible refine r_asg ?_ | with_reducible refine r_op ?_ | with_reducible refine r_cons ?_ | with_reducible refine r_nil ?_ | with_reducible refine r_c ?_
  | with_reducible refine' r_var rfl ?_ | with_reducible refine r_gname ?_ | with_reducible refine r_cb ?_ | with_reducible refine r_I0 ?_ | with_reducible refine r_ret ?_ | with_reducible refine r_ifS ?_ | with_reducible refine r_test ?_ | with_reducible refine r_B ?_
  | with_reducible refine r_next ?_ | with_reducible refine r_drop ?_ | with_reducible refine r_if ?_ | with_reducible refine r_un ?_ | with_reducible refine r_U ?_ | with_reducible refine r_gsub ?_ | with_reducible refine r_tup ?_ | with_reducible refine r_lst ?_ | with_reducible refine r_bm ?_
  | with_reducible refine r_cal ?_ | with_reducible refine r_not ?_ | with_reducible refine r_and ?_ | with_reducible refine r_or ?_ | with_reducible refine r_andV ?_ | with_reducible refine r_orV ?_ | with_reducible refine r_notV ?_
  | with_reducible refine r_abs ?_ | with_reducible refine r_intI ?_ | with_reducible refine r_intB ?_ | with_reducible refine r_m1 ?_ | with_reducible refine r_slice ?_ | with_reducible refine r_part ?_ | with_reducible refine r_nopart ?_
  | with_reducible refine r_gcons ?_ | with_reducible refine r_gnil ?_
  | with_reducible refine r_par ?_ | with_reducible refine r_par3 ?_ | with_reducible refine r_ex2 ?_ | with_reducible refine r_ex3 ?_
  | with_reducible refine r_isN ?_ | with_reducible refine r_notN ?_
  | with_reducible refine r_iZipA ?_
  | with_reducible refine r_dget ?_ | with_reducible refine r_dget2 ?_ | with_reducible refine r_iKeys ?_ | with_reducible refine r_dput ?_
  | with_reducible refine r_for ?_ | with_reducible refine r_lc ?_ | with_reducible refine r_iList ?_ | with_reducible refine r_iTup ?_ | with_reducible refine r_iRng1 ?_ | with_reducible refine r_iEnum ?_ | with_reducible refine r_orT ?_ | with_reducible refine r_yes ?_ | with_reducible refine r_ixSl ?_)
local macro_rules | `(tactic| walk_at "st") => `(tactic| first
  | walk_at "ps"
  | ((with_reducible refine' r_ixL ?h1 ?h2 ?_); (case h1 => walk_at "sq"); (case h2 => rfl))
  | ((with_reducible refine' r_setL ?h1 ?h2 ?_); (case h1 => walk_at "hp"); (case h2 => rfl))
  | ((with_reducible refine' r_I ?h1 ?_); (case h1 => walk_at "sd"))
  | ((with_reducible refine' r_eq ?h1 ?_); (case h1 => rfl)) | ((with_reducible refine' r_ne ?h1 ?_); (case h1 => rfl))
  | ((with_reducible refine' r_lenL ?h1 ?_); (case h1 => walk_at "sq")) | ((with_reducible refine' r_lenT ?h1 ?_); (case h1 => walk_at "sq")) | ((with_reducible refine' r_lenD ?h1 ?_); (case h1 => walk_at "hp"))
  | ((with_reducible refine' r_slL ?h1 ?_); (case h1 => walk_at "sq"); intro _ _)
  | ((with_reducible refine' r_append ?h1 ?h2 ?_); (case h1 => walk_at "hp"); (case h2 => exact szl (by first | omega | (simp; omega))))
  | ((with_reducible refine' r_gtup ?h1 ?h2 ?_); (case h1 => walk_at "sq"); (case h2 => rfl))
  | ((with_reducible refine' r_cat ?h1 ?h2 ?h3 ?_); (case h1 => walk_at "hp"); (case h2 => walk_at "hp"); (case h3 => exact sz (by first | omega | (simp; omega))); intro _ _)
  | ((with_reducible refine' r_wLst ?h1 ?_); (case h1 => walk_at "sq")) | ((with_reducible refine' r_wTup ?h1 ?_); (case h1 => walk_at "sq"))
  | ((with_reducible refine' r_wRng ?h1 ?_); (case h1 => walk_at "sd"))
  | ((with_reducible refine' r_truL ?h1 ?_); (case h1 => walk_at "sq"))
  | ((with_reducible refine' r_list (Or.inl ?h1) ?_); (case h1 => walk_at "sq"); intro _ _) | ((with_reducible refine' r_list (Or.inr ?h1) ?_); (case h1 => walk_at "sq"); intro _ _)
  | ((with_reducible refine' r_tupL ?h1 ?_); (case h1 => walk_at "sq"); intro _ _) | ((with_reducible refine' r_tupT ?h1 ?_); (case h1 => walk_at "sq"))
  | ((with_reducible refine' r_disp ?h1 ?_); (case h1 => exact Nat.le_of_ble_eq_true rfl); intro _ _)
  | ((with_reducible refine r_dnewK ?_); intro _ _)
  | ((with_reducible refine' r_tyL ?h1 ?_); (case h1 => walk_at "sq")) | with_reducible refine r_strV ?_
  | with_reducible refine r_exb ?_ | with_reducible refine r_exi ?_ | with_reducible refine r_exr ?_ | with_reducible refine r_exs ?_ | with_reducible refine r_exli ?_)
local macro_rules | `(tactic| walk_at "go") => `(tactic| repeat walk_at "st")
local macro_rules | `(tactic| walk_at "in") => `(tactic| dsimp only [noxK, cxK, L2.start, List.map_cons, List.map_nil, List.length_cons, List.length_nil, Nat.reduceAdd, Nat.reduceSub, List.replicate, List.cons_append, List.nil_append])

/-- the same data, to a depth -/
def Sm (K : PySem.W.Frag) : Nat → V → V → Hp → Prop
  | 0, _, _, _ => False
  | n + 1, x, y, H => (x = y ∧ (x = .non ∨ (∃ b, x = .bl b) ∨ (∃ i, x = .int i) ∨ ∃ s, x = .str s)) ∨
    (∃ a b xs ys, x = .ref a ∧ y = .ref b ∧ H a = some (.lst xs) ∧ H b = some (.lst ys) ∧ xs.length = ys.length ∧ xs.length ≤ 1000 ∧ ∀ (i : Nat) (u v : V), xs[i]? = some u → ys[i]? = some v → Sm K n u v H) ∨
    (∃ a b xs ys, x = .ref a ∧ y = .ref b ∧ H a = some (.tup xs) ∧ H b = some (.tup ys) ∧ xs.length = ys.length ∧ xs.length ≤ 1000 ∧ ∀ (i : Nat) (u v : V), xs[i]? = some u → ys[i]? = some v → Sm K n u v H)
theorem walk_zipT {K : PySem.W.Frag} {a b : Addr} {xs ys : List V} {n : Nat} (h1 : n = xs.length) (h2 : n = ys.length) : Walk (RZ.ItzT K a b) n (fun H => SqT K H a xs ∧ SqT K H b ys) (YPair (fun i => xs[i]?) (fun i => ys[i]?)) := by
  refine ⟨fun i _ hi q => ?_, fun _ q => ⟨xs, ys, q.1, q.2, by omega⟩, fun i H v H' _ q y => ?_⟩
  · have h1 : i < xs.length := by omega
    have h2 : i < ys.length := by omega
    exact ⟨xs, ys, xs[i], ys[i], q.1, q.2, by simp [h1], by simp [h2]⟩
  · obtain ⟨T, x, z, h1, h2, h3, h4, h5⟩ := y
    exact ⟨T, x, z, h1, h2, h3, h4 xs q.1, h5 ys q.2⟩
theorem Sm.same {K : PySem.W.Frag} : ∀ {n : Nat} {x y : V} {H H' : Hp}, Sm K n x y H → Same H H' → Sm K n x y H'
  | 0, _, _, _, _, h, _ => h.elim
  | n + 1, x, y, H, H', h, e => by
    rcases h with h | ⟨a, b, xs, ys, h1, h2, h3, h4, h5, h6, h7⟩ | ⟨a, b, xs, ys, h1, h2, h3, h4, h5, h6, h7⟩
    · exact .inl h
    · exact .inr (.inl ⟨a, b, xs, ys, h1, h2, e _ _ h3, e _ _ h4, h5, h6, fun i u v hu hv => (h7 i u v hu hv).same e⟩)
    · exact .inr (.inr ⟨a, b, xs, ys, h1, h2, e _ _ h3, e _ _ h4, h5, h6, fun i u v hu hv => (h7 i u v hu hv).same e⟩)
section
variable {P : Program} {w : World} {K : PySem.W.Frag} {mg : Str → Option Value} {base : Heap}
abbrev sSame : Stmt := top 22
theorem scSame : FnScope ["_law_got", "_law_due", "_law_own", "_law_mine", "_law_its"] ["_law_got", "_law_due"] (defScope sSame) := ⟨rfl, rfl, rfl, by decide +kernel, rfl, by decide +kernel, by decide +kernel⟩
def spSame (K : PySem.W.Frag) (n : Nat) : Sp := fun vs H Q _ => ∃ x y, vs = [x, y] ∧ Sm K n x y H ∧ ∀ H', Same H H' → Q (.bl true) H'
theorem ok_same {f : Addr} {fd : FuncData} (F : Fun K "_law_same" "_law_same" sSame f fd) (T : Txt K mg) (n : Nat) (Cs : Cal P w K mg base CX0 n "_law_same" ["_law_got", "_law_due"] (spSame K n)) : FnOk P w K mg base CX0 (n + 1) f fd ["_law_got", "_law_due"] (spSame K (n + 1)) := by
  refine F.ok scSame (fun vs H Q E h => ?_) (fun cdv A outer s H vs Q E hr h => ?_)
  · obtain ⟨x, y, rfl, _⟩ := h
    rfl
  · obtain ⟨x, y, rfl, hs, q⟩ := h
    refine ⟨_, (pss_cons (ps_if (pt_val (pe_callB call_isiT (by rfl) T.isinstance (by decide +kernel) (pa_cons (pv 1) (pa_cons (pe_tup (pa_cons (pe_bltn (v := .ty "list") (by rfl) T.list (by decide +kernel) rfl) (pa_cons (pe_bltn (v := .ty "tuple") (by rfl) T.tuple (by decide +kernel) rfl) pa_nil))) pa_nil))))
  (pss_cons (ps_if (PW.pt (pw_or (pt_cmpR op_ne (pe_callB call_isi (by rfl) T.isinstance (by decide +kernel) (pa_cons (pv 0) (pa_cons (pe_bltn (v := .ty "list") (by rfl) T.list (by decide +kernel) rfl) pa_nil))) (pe_callB call_isi (by rfl) T.isinstance (by decide +kernel) (pa_cons (pv 1) (pa_cons (pe_bltn (v := .ty "list") (by rfl) T.list (by decide +kernel) rfl) pa_nil))) (nomark _)) (pw_or1 (pt_cmpR op_ne (pe_callB call_isi (by rfl) T.isinstance (by decide +kernel) (pa_cons (pv 0) (pa_cons (pe_bltn (v := .ty "tuple") (by rfl) T.tuple (by decide +kernel) rfl) pa_nil))) (pe_callB call_isi (by rfl) T.isinstance (by decide +kernel) (pa_cons (pv 1) (pa_cons (pe_bltn (v := .ty "tuple") (by rfl) T.tuple (by decide +kernel) rfl) pa_nil))) (nomark _)))))
  (pss_one (ps_ret pe_bl))
  pss_nil)
  (pss_one (ps_ret (pe_and (pe_cmpR op_eq (pe_callB call_len (by rfl) T.len (by decide +kernel) (pa_cons (pv 0) pa_nil)) (pe_callB call_len (by rfl) T.len (by decide +kernel) (pa_cons (pv 1) pa_nil)) (nomark _)) (pe_one (pe_callB (cr_all rfl) (by rfl) T.all (by decide +kernel) (pa_cons (pe_lc (own := [("_law_mine", 3), ("_law_its", 4)]) (g := gTup _ 2 (gCons (gName 3) (gCons (gName 4) gNil))) (tt := tYes) rfl scSame.nd (RZ.pi_zipA (by rfl) T.zip (pa_cons (pv 0) (pa_cons (pv 1) pa_nil))) (blkOk_by (N := ["_law_got", "_law_due", "_law_own", "_law_mine", "_law_its"]) (sc := defScope sSame) (by decide +kernel)) (fun _ _ _ _ _ => (pg_tup rfl (pgs_cons (pg_name (i := 3) scSame.nd rfl (Or.inl rfl)) (pgs_cons (pg_name (i := 4) scSame.nd rfl (Or.inl rfl)) pgs_nil)))) (fun _ _ _ _ _ => pts_nil) (fun _ _ _ _ _ => (pe_cal Cs hr pass0 (pa_cons (pv 3) (pa_cons (pv 4) pa_nil))))) pa_nil)))))))
  pss_nil)
  (pss_cons (ps_if (pt_val (pe_callB call_isi (by rfl) T.isinstance (by decide +kernel) (pa_cons (pv 1) (pa_cons (pe_bltn (v := .ty "dict") (by rfl) T.dict (by decide +kernel) rfl) pa_nil))))
  pss_never
  pss_nil)
  (pss_cons (ps_if (PW.pt (pw_or (pt_cmpR o_isN (pv 1) pe_non (nomark _)) (pw_or1 (pt_val (pe_callB call_isiT (by rfl) T.isinstance (by decide +kernel) (pa_cons (pv 1) (pa_cons (pe_tup (pa_cons (pe_bltn (v := .ty "bool") (by rfl) T.bool (by decide +kernel) rfl) (pa_cons (pe_bltn (v := .ty "str") (by rfl) T.str (by decide +kernel) rfl) pa_nil))) pa_nil)))))))
  (pss_one (ps_ret (pe_and (pe_cmpR op_eq (pv 0) (pv 1) (nomark _)) (pe_and (pe_cmpR op_eq (pe_callB call_isi (by rfl) T.isinstance (by decide +kernel) (pa_cons (pv 0) (pa_cons (pe_bltn (v := .ty "bool") (by rfl) T.bool (by decide +kernel) rfl) pa_nil))) (pe_callB call_isi (by rfl) T.isinstance (by decide +kernel) (pa_cons (pv 1) (pa_cons (pe_bltn (v := .ty "bool") (by rfl) T.bool (by decide +kernel) rfl) pa_nil))) (nomark _)) (pe_one (pe_cmpR op_eq (pe_cmpR o_isN (pv 0) pe_non (nomark _)) (pe_cmpR o_isN (pv 1) pe_non (nomark _)) (nomark _)))))))
  pss_nil)
  (pss_one (ps_ret (pe_and (pe_callB call_isi (by rfl) T.isinstance (by decide +kernel) (pa_cons (pv 0) (pa_cons (pe_bltn (v := .ty "int") (by rfl) T.int (by decide +kernel) rfl) pa_nil))) (pe_and (pe_not (pe_callB call_isi (by rfl) T.isinstance (by decide +kernel) (pa_cons (pv 0) (pa_cons (pe_bltn (v := .ty "bool") (by rfl) T.bool (by decide +kernel) rfl) pa_nil)))) (pe_one (pe_cmpR op_eq (pv 0) (pv 1) (nomark _)))))))))), ?_⟩
    walk_at "in"
    walk_at "go"
    rename_i p hp
    have fin : ∀ (v w : V) (H' : Hp), v = w → Same H H' → Q (V.bl (decide (v = w))) H' := fun v w H' e s => by rw [decide_eq_true e]; exact q H' s
    rcases hs with ⟨rfl, h⟩ | ⟨a, b, xs, ys, rfl, rfl, ha, hb, hl, h1000, hs⟩ | ⟨a, b, xs, ys, rfl, rfl, ha, hb, hl, h1000, hs⟩
    · rcases h with rfl | ⟨b, rfl⟩ | ⟨i, rfl⟩ | ⟨z, rfl⟩
      · refine r_isiT (T := "NoneType") false false (.base .non) upd_same (by decide +kernel) (by decide +kernel) ?_
        walk_at "go"
        refine iteF ?_
        walk_at "go"
        refine r_isi (T := "NoneType") false (.base .non) (by decide +kernel) ?_
        walk_at "go"
        refine iteF ?_
        walk_at "go"
        refine ite_dT rfl ?_
        refine iteT ?_
        walk_at "go"
        refine ite_dT rfl ?_
        walk_at "go"
        refine r_isi (T := "NoneType") false (.base .non) (by decide +kernel) ?_
        walk_at "go"
        refine r_isi (T := "NoneType") false (.base .non) (by decide +kernel) ?_
        walk_at "go"
        refine ite_dT rfl ?_
        walk_at "go"
        exact fin _ _ _ rfl (fun c o e => by walk_at "hp")
      · refine r_isiT (T := "bool") false false (.base (.bl _)) upd_same (by decide +kernel) (by decide +kernel) ?_
        walk_at "go"
        refine iteF ?_
        walk_at "go"
        refine r_isi (T := "bool") false (.base (.bl _)) (by decide +kernel) ?_
        walk_at "go"
        refine iteF ?_
        walk_at "go"
        refine ite_dF (fun z => by cases z) ?_
        walk_at "go"
        rename_i p2 hp2
        refine r_isiT (T := "bool") true false (.base (.bl _)) upd_same (by decide +kernel) (by decide +kernel) ?_
        walk_at "go"
        refine iteT ?_
        walk_at "go"
        refine ite_dT rfl ?_
        walk_at "go"
        refine r_isi (T := "bool") true (.base (.bl _)) (by decide +kernel) ?_
        walk_at "go"
        refine r_isi (T := "bool") true (.base (.bl _)) (by decide +kernel) ?_
        walk_at "go"
        refine ite_dT rfl ?_
        walk_at "go"
        exact fin _ _ _ rfl (fun c o e => by walk_at "hp")
      · refine r_isiT (T := "int") false false (.base (.int _)) upd_same (by decide +kernel) (by decide +kernel) ?_
        walk_at "go"
        refine iteF ?_
        walk_at "go"
        refine r_isi (T := "int") false (.base (.int _)) (by decide +kernel) ?_
        walk_at "go"
        refine iteF ?_
        walk_at "go"
        refine ite_dF (fun z => by cases z) ?_
        walk_at "go"
        rename_i p2 hp2
        refine r_isiT (T := "int") false false (.base (.int _)) upd_same (by decide +kernel) (by decide +kernel) ?_
        walk_at "go"
        refine iteF ?_
        walk_at "go"
        refine r_isi (T := "int") true (.base (.int _)) (by decide +kernel) ?_
        walk_at "go"
        refine iteT ?_
        walk_at "go"
        refine r_isi (T := "int") false (.base (.int _)) (by decide +kernel) ?_
        walk_at "go"
        refine iteT ?_
        walk_at "go"
        exact fin _ _ _ rfl (fun c o e => by walk_at "hp")
      · refine r_isiT (T := "str") false false (.base (.str _)) upd_same (by decide +kernel) (by decide +kernel) ?_
        walk_at "go"
        refine iteF ?_
        walk_at "go"
        refine r_isi (T := "str") false (.base (.str _)) (by decide +kernel) ?_
        walk_at "go"
        refine iteF ?_
        walk_at "go"
        refine ite_dF (fun z => by cases z) ?_
        walk_at "go"
        rename_i p2 hp2
        refine r_isiT (T := "str") false true (.base (.str _)) upd_same (by decide +kernel) (by decide +kernel) ?_
        walk_at "go"
        refine iteT ?_
        walk_at "go"
        refine ite_dT rfl ?_
        walk_at "go"
        refine r_isi (T := "str") false (.base (.str _)) (by decide +kernel) ?_
        walk_at "go"
        refine r_isi (T := "str") false (.base (.str _)) (by decide +kernel) ?_
        walk_at "go"
        refine ite_dT rfl ?_
        walk_at "go"
        exact fin _ _ _ rfl (fun c o e => by walk_at "hp")
    --LISTS
    · refine r_isiT (T := "list") true false (tyL (by walk_at "hp")) upd_same (by decide +kernel) (by decide +kernel) ?_
      walk_at "go"
      refine iteT ?_
      walk_at "go"
      refine r_isi (T := "list") true (tyL (by walk_at "hp")) (by decide +kernel) ?_
      walk_at "go"
      refine r_isi (T := "list") true (tyL (by walk_at "hp")) (by decide +kernel) ?_
      walk_at "go"
      refine ite_ndF rfl ?_
      walk_at "go"
      refine r_isi (T := "list") false (tyL (by walk_at "hp")) (by decide +kernel) ?_
      walk_at "go"
      refine r_isi (T := "list") false (tyL (by walk_at "hp")) (by decide +kernel) ?_
      walk_at "go"
      refine ite_ndF rfl ?_
      walk_at "go"
      refine ⟨_, xs.length, rfl, Or.inl ⟨xs, by walk_at "sq", rfl⟩, ?_⟩
      walk_at "go"
      refine ⟨_, ys.length, rfl, Or.inl ⟨ys, by walk_at "sq", rfl⟩, ?_⟩
      walk_at "go"
      refine ite_dT (by rw [hl]) ?_
      walk_at "go"
      refine ⟨a, b, xs, ys, rfl, Or.inl ⟨by walk_at "sq", by walk_at "sq", ?_⟩⟩
      intro D hD
      have hD0 : H D = none := by rw [upd_ne (by intro z; rw [z, upd_same] at hD; cases hD)] at hD; exact hD
      refine lc_it (walk_zip (xs := xs) (ys := ys) (n := xs.length) (by omega)) (fun i H' => H' D = some (.lst ((List.replicate i true).map V.bl)) ∧ Same H H') ?_ ?_ ?_ ?_
      · exact ⟨upd_same, fun c o e => by walk_at "hp"⟩
      · rintro i H1 _ ⟨_, s1⟩
        exact ⟨SqL.of (s1 _ _ ha), SqL.of (s1 _ _ hb)⟩
      · rintro i _ H1 _ hi ⟨hD1, s1⟩ ⟨t, u, v, rfl, ht, rfl, hu, hv⟩
        walk_at "go"
        refine ⟨rfl, r_yes (iteT ?_)⟩
        walk_at "go"
        refine ⟨u, v, rfl, (hs i u v hu hv).same (fun c o e => by walk_at "hp"), fun H2 s2 => ?_⟩
        have hD2 : H2 D = some (.lst ((List.replicate i true).map V.bl)) := by walk_at "hp"
        refine ⟨_, hD2, szl (by rw [List.length_map, List.length_replicate]; exact Nat.lt_of_lt_of_le hi (by omega)), ?_, fun c o e => ?_⟩
        · rw [List.replicate_succ', List.map_append]
          exact upd_same
        · have n1 : c ≠ D := ne_of_none e hD0
          walk_at "hp"
      · rintro H1 ⟨hD1, s1⟩
        walk_at "go"
        refine r_all (SqL.of hD1) ?_
        have e : (List.replicate xs.length true).all id = true := by rw [List.all_eq_true]; intro b hb; rw [List.eq_of_mem_replicate hb]; rfl
        rw [e]
        exact q _ s1
    · refine r_isiT (T := "tuple") false true (tyT (by walk_at "hp")) upd_same (by decide +kernel) (by decide +kernel) ?_
      walk_at "go"
      refine iteT ?_
      walk_at "go"
      refine r_isi (T := "tuple") false (tyT (by walk_at "hp")) (by decide +kernel) ?_
      walk_at "go"
      refine r_isi (T := "tuple") false (tyT (by walk_at "hp")) (by decide +kernel) ?_
      walk_at "go"
      refine ite_ndF rfl ?_
      walk_at "go"
      refine r_isi (T := "tuple") true (tyT (by walk_at "hp")) (by decide +kernel) ?_
      walk_at "go"
      refine r_isi (T := "tuple") true (tyT (by walk_at "hp")) (by decide +kernel) ?_
      walk_at "go"
      refine ite_ndF rfl ?_
      walk_at "go"
      refine ⟨_, xs.length, rfl, Or.inr ⟨xs, by walk_at "sq", rfl⟩, ?_⟩
      walk_at "go"
      refine ⟨_, ys.length, rfl, Or.inr ⟨ys, by walk_at "sq", rfl⟩, ?_⟩
      walk_at "go"
      refine ite_dT (by rw [hl]) ?_
      walk_at "go"
      refine ⟨a, b, xs, ys, rfl, Or.inr ⟨by walk_at "sq", by walk_at "sq", ?_⟩⟩
      intro D hD
      have hD0 : H D = none := by rw [upd_ne (by intro z; rw [z, upd_same] at hD; cases hD)] at hD; exact hD
      refine lc_it (walk_zipT (xs := xs) (ys := ys) (n := xs.length) rfl hl) (fun i H' => H' D = some (.lst ((List.replicate i true).map V.bl)) ∧ Same H H') ?_ ?_ ?_ ?_
      · exact ⟨upd_same, fun c o e => by walk_at "hp"⟩
      · rintro i H1 _ ⟨_, s1⟩
        exact ⟨SqT.of (s1 _ _ ha), SqT.of (s1 _ _ hb)⟩
      · rintro i _ H1 _ hi ⟨hD1, s1⟩ ⟨t, u, v, rfl, ht, rfl, hu, hv⟩
        walk_at "go"
        refine ⟨rfl, r_yes (iteT ?_)⟩
        walk_at "go"
        refine ⟨u, v, rfl, (hs i u v hu hv).same (fun c o e => by walk_at "hp"), fun H2 s2 => ?_⟩
        have hD2 : H2 D = some (.lst ((List.replicate i true).map V.bl)) := by walk_at "hp"
        refine ⟨_, hD2, szl (by rw [List.length_map, List.length_replicate]; exact Nat.lt_of_lt_of_le hi (by omega)), ?_, fun c o e => ?_⟩
        · rw [List.replicate_succ', List.map_append]
          exact upd_same
        · have n1 : c ≠ D := ne_of_none e hD0
          walk_at "hp"
      · rintro H1 ⟨hD1, s1⟩
        walk_at "go"
        refine r_all (SqL.of hD1) ?_
        have e : (List.replicate xs.length true).all id = true := by rw [List.all_eq_true]; intro b hb; rw [List.eq_of_mem_replicate hb]; rfl
        rw [e]
        exact q _ s1

end
end My

namespace My
open PySem L2
local macro_rules | `(tactic| walk_at "bx1") => `(tactic| first | with_reducible assumption | ((with_reducible refine' Bx.upd ?h1 ?h2); (case h1 => walk_at "bx1"); (case h2 => walk_at "ne")) | ((with_reducible refine' Bx.same ?h1 (by with_reducible assumption)); (case h1 => walk_at "bx1")))
local macro_rules | `(tactic| walk_at "bx") => `(tactic| (refine' Bx.mono ?h1 ?h2; (case h1 => walk_at "bx1"); (case h2 => omega)))
local macro_rules | `(tactic| walk_at "ne") => `(tactic| first | with_reducible assumption | exact Ne.symm (by with_reducible assumption) | ((with_reducible refine' ne_of_none ?h1 (by with_reducible assumption)); (case h1 => walk_at "hp")) | ((with_reducible refine' Ne.symm (ne_of_none ?h1 (by with_reducible assumption))); (case h1 => walk_at "hp")) | ((with_reducible refine' Bx.ne ?h1 (by with_reducible assumption)); (case h1 => walk_at "bx1")) | ((with_reducible refine' Ne.symm (Bx.ne ?h1 (by with_reducible assumption))); (case h1 => walk_at "bx1")))
local macro_rules | `(tactic| walk_at "hp") => `(tactic| first | with_reducible assumption | ((with_reducible refine' (upd_same.trans ?h1)); (case h1 => rfl)) | ((with_reducible refine' My.upd_at ?h1 ?h2); (case h1 => walk_at "hp"); (case h2 => walk_at "ne")) | ((with_reducible refine' My.Kp.at (by with_reducible assumption) ?h1 ?h2); (case h1 => walk_at "hp"); (case h2 => walk_at "ne")) | ((with_reducible refine' My.Same.at (by with_reducible assumption) ?h1); (case h1 => walk_at "hp")))
local macro_rules | `(tactic| walk_at "sq") => `(tactic| first | with_reducible assumption | exact SqL.of (by walk_at "hp") | exact SqT.of (by walk_at "hp") | ((with_reducible refine' My.SqT.upd ?h1 (by with_reducible assumption)); (case h1 => walk_at "sq")) | ((with_reducible refine' My.SqL.upd ?h1 (by with_reducible assumption)); (case h1 => walk_at "sq")) | ((with_reducible refine' Same.seq (by with_reducible assumption) ?h1); (case h1 => walk_at "sq")) | ((with_reducible refine' My.SqT.same ?h1 (by with_reducible assumption)); (case h1 => walk_at "sq")) | ((with_reducible refine' My.SqT.kp ?h1 (by with_reducible assumption) ?h2); (case h1 => walk_at "sq"); (case h2 => walk_at "bx1")) | ((with_reducible refine' My.SqL.kp ?h1 (by with_reducible assumption) ?h2); (case h1 => walk_at "sq"); (case h2 => walk_at "ne")))
local macro_rules | `(tactic| walk_at "sd") => `(tactic| first | assumption | omega | decide | (refine ⟨?_, ?_⟩ <;> (first | omega | decide)) | (refine Or.inl ⟨?_, ?_⟩ <;> (first | omega | decide)) | (refine Or.inr ⟨?_, ?_⟩ <;> (first | omega | decide)) | (refine ⟨?_, ?_, ?_⟩ <;> (first | omega | decide)))
local macro_rules | `(tactic| walk_at "ps") => `(tactic| first
  | with_reducible refine r_seq ?_ | with_reducible refine r_asg ?_ | with_reducible refine r_op ?_ | with_reducible refine r_cons ?_ | with_reducible refine r_nil ?_ | with_reducible refine r_c ?_
  | with_reducible refine' r_var rfl ?_ | with_reducible refine r_gname ?_ | with_reducible refine r_cb ?_ | with_reducible refine r_I0 ?_ | with_reducible refine r_ret ?_ | with_reducible refine r_ifS ?_ | with_reducible refine r_test ?_ | with_reducible refine r_B ?_
  | with_reducible refine r_next ?_ | with_reducible refine r_drop ?_ | with_reducible refine r_if ?_ | with_reducible refine r_un ?_ | with_reducible refine r_U ?_ | with_reducible refine r_gsub ?_ | with_reducible refine r_tup ?_ | with_reducible refine r_lst ?_ | with_reducible refine r_bm ?_
  | with_reducible refine r_cal ?_ | with_reducible refine r_not ?_ | with_reducible refine r_and ?_ | with_reducible refine r_or ?_ | with_reducible refine r_andV ?_ | with_reducible refine r_orV ?_ | with_reducible refine r_notV ?_
  | with_reducible refine r_abs ?_ | with_reducible refine r_intI ?_ | with_reducible refine r_intB ?_ | with_reducible refine r_m1 ?_ | with_reducible refine r_slice ?_ | with_reducible refine r_part ?_ | with_reducible refine r_nopart ?_
  | with_reducible refine r_gcons ?_ | with_reducible refine r_gnil ?_
  | with_reducible refine r_par ?_ | with_reducible refine r_par3 ?_ | with_reducible refine r_ex2 ?_ | with_reducible refine r_ex3 ?_
  | with_reducible refine r_isN ?_ | with_reducible refine r_notN ?_
  | with_reducible refine r_iZipA ?_
  | with_reducible refine r_dget ?_ | with_reducible refine r_dget2 ?_ | with_reducible refine r_iKeys ?_ | with_reducible refine r_dput ?_
  | with_reducible refine r_for ?_ | with_reducible refine r_lc ?_ | with_reducible refine r_iList ?_ | with_reducible refine r_iTup ?_ | with_reducible refine r_iRng1 ?_ | with_reducible refine r_iEnum ?_ | with_reducible refine r_orT ?_ | with_reducible refine r_yes ?_ | with_reducible refine r_ixSl ?_)
local macro_rules | `(tactic| walk_at "st") => `(tactic| first
  | walk_at "ps"
  | ((with_reducible refine' r_ixL ?h1 ?h2 ?_); (case h1 => walk_at "sq"); (case h2 => rfl))
  | ((with_reducible refine' r_setL ?h1 ?h2 ?_); (case h1 => walk_at "hp"); (case h2 => rfl))
  | ((with_reducible refine' r_I ?h1 ?_); (case h1 => walk_at "sd"))
  | ((with_reducible refine' r_eq ?h1 ?_); (case h1 => rfl)) | ((with_reducible refine' r_ne ?h1 ?_); (case h1 => rfl))
  | ((with_reducible refine' r_lenL ?h1 ?_); (case h1 => walk_at "sq")) | ((with_reducible refine' r_lenT ?h1 ?_); (case h1 => walk_at "sq")) | ((with_reducible refine' r_lenD ?h1 ?_); (case h1 => walk_at "hp"))
  | ((with_reducible refine' r_slL ?h1 ?_); (case h1 => walk_at "sq"); intro _ _)
  | ((with_reducible refine' r_append ?h1 ?h2 ?_); (case h1 => walk_at "hp"); (case h2 => exact szl (by first | omega | (simp; omega))))
  | ((with_reducible refine' r_gtup ?h1 ?h2 ?_); (case h1 => walk_at "sq"); (case h2 => rfl))
  | ((with_reducible refine' r_cat ?h1 ?h2 ?h3 ?_); (case h1 => walk_at "hp"); (case h2 => walk_at "hp"); (case h3 => exact sz (by first | omega | (simp; omega))); intro _ _)
  | ((with_reducible refine' r_wLst ?h1 ?_); (case h1 => walk_at "sq")) | ((with_reducible refine' r_wTup ?h1 ?_); (case h1 => walk_at "sq"))
  | ((with_reducible refine' r_wRng ?h1 ?_); (case h1 => walk_at "sd"))
  | ((with_reducible refine' r_truL ?h1 ?_); (case h1 => walk_at "sq"))
  | ((with_reducible refine' r_list (Or.inl ?h1) ?_); (case h1 => walk_at "sq"); intro _ _) | ((with_reducible refine' r_list (Or.inr ?h1) ?_); (case h1 => walk_at "sq"); intro _ _)
  | ((with_reducible refine' r_tupL ?h1 ?_); (case h1 => walk_at "sq"); intro _ _) | ((with_reducible refine' r_tupT ?h1 ?_); (case h1 => walk_at "sq"))
  | ((with_reducible refine' r_disp ?h1 ?_); (case h1 => exact Nat.le_of_ble_eq_true rfl); intro _ _)
  | ((with_reducible refine r_dnewK ?_); intro _ _)
  | ((with_reducible refine' r_tyL ?h1 ?_); (case h1 => walk_at "sq")) | with_reducible refine r_strV ?_
  | with_reducible refine r_exb ?_ | with_reducible refine r_exi ?_ | with_reducible refine r_exr ?_ | with_reducible refine r_exs ?_ | with_reducible refine r_exli ?_)
local macro_rules | `(tactic| walk_at "go") => `(tactic| repeat walk_at "st")
local macro_rules | `(tactic| walk_at "in") => `(tactic| dsimp only [noxK, cxK, L2.start, List.map_cons, List.map_nil, List.length_cons, List.length_nil, Nat.reduceAdd, Nat.reduceSub, List.replicate, List.cons_append, List.nil_append])

theorem r_ost {K : PySem.W.Frag} {f : Str} {to te : TE} {D : Ends} {σ : L2.St} {H : Hp} (h : te σ H fun y H1 => to σ H1 fun x H2 => ∃ a C : Addr, x = .ref a ∧ OexC K C ∧ PySem.W.findIn K (.ref C) f = some none ∧ ((H2 a = some (exo a C none) ∧ ∀ dx, H2 dx = none → dx ≠ a → D.nx σ (upd (upd H2 dx (exd dx [(f, y)])) a (exo a C (some dx)))) ∨ ∃ (dx : Addr) (fs : List (Str × V)), H2 a = some (exo a C (some dx)) ∧ H2 dx = some (exd dx fs) ∧ fs.length ≤ 900 ∧ D.nx σ (upd H2 dx (exd dx ((f, y) :: fs))))) : tOst K f to te D σ H := h
/-- the sixteen errors: L i the class at place i -/
structure EX (K : PySem.W.Frag) (mg : Str → Option Value) (L : Nat → Addr) : Prop where
  g0 : mg "Below" = some (.ref (L 0))
  g1 : mg "Hollow" = some (.ref (L 1))
  g2 : mg "Ringed" = some (.ref (L 2))
  g3 : mg "Short" = some (.ref (L 3))
  g4 : mg "Regretted" = some (.ref (L 4))
  g5 : mg "Forked" = some (.ref (L 5))
  g6 : mg "Uneven" = some (.ref (L 6))
  g7 : mg "NoRegret" = some (.ref (L 7))
  g8 : mg "Taken" = some (.ref (L 8))
  g9 : mg "Unpriced" = some (.ref (L 9))
  g10 : mg "Doubted" = some (.ref (L 10))
  g11 : mg "Unexplained" = some (.ref (L 11))
  g12 : mg "BadText" = some (.ref (L 12))
  g13 : mg "BadLine" = some (.ref (L 13))
  g14 : mg "NoDeed" = some (.ref (L 14))
  g15 : mg "Nothing" = some (.ref (L 15))
  c : ∀ i, i < 16 → ExcC K (L i)
  f : ∀ i, i < 16 → XfC K (L i)
  s : ∀ i j, i < 16 → j < 16 → PySem.W.kitOne K (.ref (L i)) (.ref (L j)) = some (decide (i = j))
  v : ∀ i, i < 16 → PySem.W.kitOne K (.ref (L i)) (.type "ValueError") = some (decide (i < 14))
  l : ∀ i, i < 16 → PySem.W.kitOne K (.ref (L i)) (.type "LookupError") = some (decide (i = 14))
  z : ∀ i, i < 16 → PySem.W.kitOne K (.ref (L i)) (.type "ZeroDivisionError") = some (decide (i = 15))
  n : ∀ i, i < 16 → ∀ x ∈ (["kind", "many", "lacking", "ring", "number"] : List Str), PySem.W.findIn K (.ref (L i)) x = some none
  mv : mg "ValueError" = none
  ml : mg "LookupError" = none
  mz : mg "ZeroDivisionError" = none
section
variable {P : Program} {w : World} {K : PySem.W.Frag} {mg : Str → Option Value} {base : Heap} {C : Addr}
abbrev sBelowInit : Stmt := inClass (top 1) 0
theorem scBelowInit : FnScope ["self", "kind", "many"] ["self", "kind", "many"] (defScope sBelowInit) := ⟨rfl, rfl, rfl, by decide +kernel, rfl, by decide +kernel, by decide +kernel⟩
theorem ok_iBelow {f : Addr} {fd : FuncData} (F : Fun K "__init__" "Below.__init__" sBelowInit f fd) (T : OexC K C) (h1 : PySem.W.findIn K (.ref C) "kind" = some none) (h2 : PySem.W.findIn K (.ref C) "many" = some none) : FnOk P w K mg base CX0 1 f fd ["self", "kind", "many"] (spI2 C "kind" "many") := by
  refine F.ok scBelowInit (fun vs H Q E h => ?_) (fun cdv A outer s H vs Q E hr h => ?_)
  · obtain ⟨a, y, z, rfl, _⟩ := h
    rfl
  · obtain ⟨a, y, z, rfl, ha, q⟩ := h
    refine ⟨_, pss_cons (ps_ost (pv 0) (pv 1)) (pss_one (ps_ost (pv 0) (pv 2))), ?_⟩
    walk_at "in"
    refine r_seq (r_ost (r_var rfl (r_var rfl ⟨a, C, rfl, T, h1, .inl ⟨ha, fun d hd nda => ?_⟩⟩)))
    exact r_ost (r_var rfl (r_var rfl ⟨a, C, rfl, T, h2, .inr ⟨d, [("kind", y)], upd_same, by rw [upd_ne nda]; exact upd_same, by simp, q d hd nda⟩⟩))
abbrev sHollowInit : Stmt := inClass (top 2) 0
theorem scHollowInit : FnScope ["self", "kind"] ["self", "kind"] (defScope sHollowInit) := ⟨rfl, rfl, rfl, by decide +kernel, rfl, by decide +kernel, by decide +kernel⟩
theorem ok_iHollow {f : Addr} {fd : FuncData} (F : Fun K "__init__" "Hollow.__init__" sHollowInit f fd) (T : OexC K C) (h1 : PySem.W.findIn K (.ref C) "kind" = some none) : FnOk P w K mg base CX0 1 f fd ["self", "kind"] (spI1 C "kind") := by
  refine F.ok scHollowInit (fun vs H Q E h => ?_) (fun cdv A outer s H vs Q E hr h => ?_)
  · obtain ⟨a, y, rfl, _⟩ := h
    rfl
  · obtain ⟨a, y, rfl, ha, q⟩ := h
    refine ⟨_, pss_one (ps_ost (pv 0) (pv 1)), ?_⟩
    walk_at "in"
    exact r_ost (r_var rfl (r_var rfl ⟨a, C, rfl, T, h1, .inl ⟨ha, q⟩⟩))
abbrev sRingedInit : Stmt := inClass (top 3) 0
theorem scRingedInit : FnScope ["self", "ring"] ["self", "ring"] (defScope sRingedInit) := ⟨rfl, rfl, rfl, by decide +kernel, rfl, by decide +kernel, by decide +kernel⟩
theorem ok_iRinged {f : Addr} {fd : FuncData} (F : Fun K "__init__" "Ringed.__init__" sRingedInit f fd) (T : OexC K C) (h1 : PySem.W.findIn K (.ref C) "ring" = some none) : FnOk P w K mg base CX0 1 f fd ["self", "ring"] (spI1 C "ring") := by
  refine F.ok scRingedInit (fun vs H Q E h => ?_) (fun cdv A outer s H vs Q E hr h => ?_)
  · obtain ⟨a, y, rfl, _⟩ := h
    rfl
  · obtain ⟨a, y, rfl, ha, q⟩ := h
    refine ⟨_, pss_one (ps_ost (pv 0) (pv 1)), ?_⟩
    walk_at "in"
    exact r_ost (r_var rfl (r_var rfl ⟨a, C, rfl, T, h1, .inl ⟨ha, q⟩⟩))
abbrev sShortInit : Stmt := inClass (top 4) 0
theorem scShortInit : FnScope ["self", "kind", "lacking"] ["self", "kind", "lacking"] (defScope sShortInit) := ⟨rfl, rfl, rfl, by decide +kernel, rfl, by decide +kernel, by decide +kernel⟩
theorem ok_iShort {f : Addr} {fd : FuncData} (F : Fun K "__init__" "Short.__init__" sShortInit f fd) (T : OexC K C) (h1 : PySem.W.findIn K (.ref C) "kind" = some none) (h2 : PySem.W.findIn K (.ref C) "lacking" = some none) : FnOk P w K mg base CX0 1 f fd ["self", "kind", "lacking"] (spI2 C "kind" "lacking") := by
  refine F.ok scShortInit (fun vs H Q E h => ?_) (fun cdv A outer s H vs Q E hr h => ?_)
  · obtain ⟨a, y, z, rfl, _⟩ := h
    rfl
  · obtain ⟨a, y, z, rfl, ha, q⟩ := h
    refine ⟨_, pss_cons (ps_ost (pv 0) (pv 1)) (pss_one (ps_ost (pv 0) (pv 2))), ?_⟩
    walk_at "in"
    refine r_seq (r_ost (r_var rfl (r_var rfl ⟨a, C, rfl, T, h1, .inl ⟨ha, fun d hd nda => ?_⟩⟩)))
    exact r_ost (r_var rfl (r_var rfl ⟨a, C, rfl, T, h2, .inr ⟨d, [("kind", y)], upd_same, by rw [upd_ne nda]; exact upd_same, by simp, q d hd nda⟩⟩))
abbrev sRegrettedInit : Stmt := inClass (top 5) 0
theorem scRegrettedInit : FnScope ["self", "kind"] ["self", "kind"] (defScope sRegrettedInit) := ⟨rfl, rfl, rfl, by decide +kernel, rfl, by decide +kernel, by decide +kernel⟩
theorem ok_iRegretted {f : Addr} {fd : FuncData} (F : Fun K "__init__" "Regretted.__init__" sRegrettedInit f fd) (T : OexC K C) (h1 : PySem.W.findIn K (.ref C) "kind" = some none) : FnOk P w K mg base CX0 1 f fd ["self", "kind"] (spI1 C "kind") := by
  refine F.ok scRegrettedInit (fun vs H Q E h => ?_) (fun cdv A outer s H vs Q E hr h => ?_)
  · obtain ⟨a, y, rfl, _⟩ := h
    rfl
  · obtain ⟨a, y, rfl, ha, q⟩ := h
    refine ⟨_, pss_one (ps_ost (pv 0) (pv 1)), ?_⟩
    walk_at "in"
    exact r_ost (r_var rfl (r_var rfl ⟨a, C, rfl, T, h1, .inl ⟨ha, q⟩⟩))
abbrev sForkedInit : Stmt := inClass (top 6) 0
theorem scForkedInit : FnScope ["self", "kind"] ["self", "kind"] (defScope sForkedInit) := ⟨rfl, rfl, rfl, by decide +kernel, rfl, by decide +kernel, by decide +kernel⟩
theorem ok_iForked {f : Addr} {fd : FuncData} (F : Fun K "__init__" "Forked.__init__" sForkedInit f fd) (T : OexC K C) (h1 : PySem.W.findIn K (.ref C) "kind" = some none) : FnOk P w K mg base CX0 1 f fd ["self", "kind"] (spI1 C "kind") := by
  refine F.ok scForkedInit (fun vs H Q E h => ?_) (fun cdv A outer s H vs Q E hr h => ?_)
  · obtain ⟨a, y, rfl, _⟩ := h
    rfl
  · obtain ⟨a, y, rfl, ha, q⟩ := h
    refine ⟨_, pss_one (ps_ost (pv 0) (pv 1)), ?_⟩
    walk_at "in"
    exact r_ost (r_var rfl (r_var rfl ⟨a, C, rfl, T, h1, .inl ⟨ha, q⟩⟩))
abbrev sUnevenInit : Stmt := inClass (top 7) 0
theorem scUnevenInit : FnScope ["self", "kind"] ["self", "kind"] (defScope sUnevenInit) := ⟨rfl, rfl, rfl, by decide +kernel, rfl, by decide +kernel, by decide +kernel⟩
theorem ok_iUneven {f : Addr} {fd : FuncData} (F : Fun K "__init__" "Uneven.__init__" sUnevenInit f fd) (T : OexC K C) (h1 : PySem.W.findIn K (.ref C) "kind" = some none) : FnOk P w K mg base CX0 1 f fd ["self", "kind"] (spI1 C "kind") := by
  refine F.ok scUnevenInit (fun vs H Q E h => ?_) (fun cdv A outer s H vs Q E hr h => ?_)
  · obtain ⟨a, y, rfl, _⟩ := h
    rfl
  · obtain ⟨a, y, rfl, ha, q⟩ := h
    refine ⟨_, pss_one (ps_ost (pv 0) (pv 1)), ?_⟩
    walk_at "in"
    exact r_ost (r_var rfl (r_var rfl ⟨a, C, rfl, T, h1, .inl ⟨ha, q⟩⟩))
abbrev sTakenInit : Stmt := inClass (top 9) 0
theorem scTakenInit : FnScope ["self", "kind"] ["self", "kind"] (defScope sTakenInit) := ⟨rfl, rfl, rfl, by decide +kernel, rfl, by decide +kernel, by decide +kernel⟩
theorem ok_iTaken {f : Addr} {fd : FuncData} (F : Fun K "__init__" "Taken.__init__" sTakenInit f fd) (T : OexC K C) (h1 : PySem.W.findIn K (.ref C) "kind" = some none) : FnOk P w K mg base CX0 1 f fd ["self", "kind"] (spI1 C "kind") := by
  refine F.ok scTakenInit (fun vs H Q E h => ?_) (fun cdv A outer s H vs Q E hr h => ?_)
  · obtain ⟨a, y, rfl, _⟩ := h
    rfl
  · obtain ⟨a, y, rfl, ha, q⟩ := h
    refine ⟨_, pss_one (ps_ost (pv 0) (pv 1)), ?_⟩
    walk_at "in"
    exact r_ost (r_var rfl (r_var rfl ⟨a, C, rfl, T, h1, .inl ⟨ha, q⟩⟩))
abbrev sUnpricedInit : Stmt := inClass (top 10) 0
theorem scUnpricedInit : FnScope ["self", "kind"] ["self", "kind"] (defScope sUnpricedInit) := ⟨rfl, rfl, rfl, by decide +kernel, rfl, by decide +kernel, by decide +kernel⟩
theorem ok_iUnpriced {f : Addr} {fd : FuncData} (F : Fun K "__init__" "Unpriced.__init__" sUnpricedInit f fd) (T : OexC K C) (h1 : PySem.W.findIn K (.ref C) "kind" = some none) : FnOk P w K mg base CX0 1 f fd ["self", "kind"] (spI1 C "kind") := by
  refine F.ok scUnpricedInit (fun vs H Q E h => ?_) (fun cdv A outer s H vs Q E hr h => ?_)
  · obtain ⟨a, y, rfl, _⟩ := h
    rfl
  · obtain ⟨a, y, rfl, ha, q⟩ := h
    refine ⟨_, pss_one (ps_ost (pv 0) (pv 1)), ?_⟩
    walk_at "in"
    exact r_ost (r_var rfl (r_var rfl ⟨a, C, rfl, T, h1, .inl ⟨ha, q⟩⟩))
abbrev sBadlineInit : Stmt := inClass (top 14) 0
theorem scBadlineInit : FnScope ["self", "number"] ["self", "number"] (defScope sBadlineInit) := ⟨rfl, rfl, rfl, by decide +kernel, rfl, by decide +kernel, by decide +kernel⟩
theorem ok_iBadLine {f : Addr} {fd : FuncData} (F : Fun K "__init__" "BadLine.__init__" sBadlineInit f fd) (T : OexC K C) (h1 : PySem.W.findIn K (.ref C) "number" = some none) : FnOk P w K mg base CX0 1 f fd ["self", "number"] (spI1 C "number") := by
  refine F.ok scBadlineInit (fun vs H Q E h => ?_) (fun cdv A outer s H vs Q E hr h => ?_)
  · obtain ⟨a, y, rfl, _⟩ := h
    rfl
  · obtain ⟨a, y, rfl, ha, q⟩ := h
    refine ⟨_, pss_one (ps_ost (pv 0) (pv 1)), ?_⟩
    walk_at "in"
    exact r_ost (r_var rfl (r_var rfl ⟨a, C, rfl, T, h1, .inl ⟨ha, q⟩⟩))
end
end My

namespace My
open PySem L2
local macro_rules | `(tactic| walk_at "bx1") => `(tactic| first | with_reducible assumption | ((with_reducible refine' Bx.upd ?h1 ?h2); (case h1 => walk_at "bx1"); (case h2 => walk_at "ne")) | ((with_reducible refine' Bx.same ?h1 (by with_reducible assumption)); (case h1 => walk_at "bx1")))
local macro_rules | `(tactic| walk_at "bx") => `(tactic| (refine' Bx.mono ?h1 ?h2; (case h1 => walk_at "bx1"); (case h2 => omega)))
local macro_rules | `(tactic| walk_at "ne") => `(tactic| first | with_reducible assumption | exact Ne.symm (by with_reducible assumption) | ((with_reducible refine' ne_of_none ?h1 (by with_reducible assumption)); (case h1 => walk_at "hp")) | ((with_reducible refine' Ne.symm (ne_of_none ?h1 (by with_reducible assumption))); (case h1 => walk_at "hp")) | ((with_reducible refine' Bx.ne ?h1 (by with_reducible assumption)); (case h1 => walk_at "bx1")) | ((with_reducible refine' Ne.symm (Bx.ne ?h1 (by with_reducible assumption))); (case h1 => walk_at "bx1")))
local macro_rules | `(tactic| walk_at "hp") => `(tactic| first | with_reducible assumption | ((with_reducible refine' (upd_same.trans ?h1)); (case h1 => rfl)) | ((with_reducible refine' My.upd_at ?h1 ?h2); (case h1 => walk_at "hp"); (case h2 => walk_at "ne")) | ((with_reducible refine' My.Kp.at (by with_reducible assumption) ?h1 ?h2); (case h1 => walk_at "hp"); (case h2 => walk_at "ne")) | ((with_reducible refine' My.Same.at (by with_reducible assumption) ?h1); (case h1 => walk_at "hp")))
local macro_rules | `(tactic| walk_at "sq") => `(tactic| first | with_reducible assumption | exact SqL.of (by walk_at "hp") | exact SqT.of (by walk_at "hp") | ((with_reducible refine' My.SqT.upd ?h1 (by with_reducible assumption)); (case h1 => walk_at "sq")) | ((with_reducible refine' My.SqL.upd ?h1 (by with_reducible assumption)); (case h1 => walk_at "sq")) | ((with_reducible refine' Same.seq (by with_reducible assumption) ?h1); (case h1 => walk_at "sq")) | ((with_reducible refine' My.SqT.same ?h1 (by with_reducible assumption)); (case h1 => walk_at "sq")) | ((with_reducible refine' My.SqT.kp ?h1 (by with_reducible assumption) ?h2); (case h1 => walk_at "sq"); (case h2 => walk_at "bx1")) | ((with_reducible refine' My.SqL.kp ?h1 (by with_reducible assumption) ?h2); (case h1 => walk_at "sq"); (case h2 => walk_at "ne")))
local macro_rules | `(tactic| walk_at "sd") => `(tactic| first | assumption | omega | decide | (refine ⟨?_, ?_⟩ <;> (first | omega | decide)) | (refine Or.inl ⟨?_, ?_⟩ <;> (first | omega | decide)) | (refine Or.inr ⟨?_, ?_⟩ <;> (first | omega | decide)) | (refine ⟨?_, ?_, ?_⟩ <;> (first | omega | decide)))
local macro_rules | `(tactic| walk_at "ps") => `(tactic| first
  | with_reducible refine r_seq ?_ | with_reducible refine r_asg ?_ | with_reducible refine r_op ?_ | with_reducible refine r_cons ?_ | with_reducible refine r_nil ?_ | with_reducible refine r_c ?_
  | with_reducible refine' r_var rfl ?_ | with_reducible refine r_gname ?_ | with_reducible refine r_cb ?_ | with_reducible refine r_I0 ?_ | with_reducible refine r_ret ?_ | with_reducible refine r_ifS ?_ | with_reducible refine r_test ?_ | with_reducible refine r_B ?_
  | with_reducible refine r_next ?_ | with_reducible refine r_drop ?_ | with_reducible refine r_if ?_ | with_reducible refine r_un ?_ | with_reducible refine r_U ?_ | with_reducible refine r_gsub ?_ | with_reducible refine r_tup ?_ | with_reducible refine r_lst ?_ | with_reducible refine r_bm ?_
  | with_reducible refine r_cal ?_ | with_reducible refine r_not ?_ | with_reducible refine r_and ?_ | with_reducible refine r_or ?_ | with_reducible refine r_andV ?_ | with_reducible refine r_orV ?_ | with_reducible refine r_notV ?_
  | with_reducible refine r_abs ?_ | with_reducible refine r_intI ?_ | with_reducible refine r_intB ?_ | with_reducible refine r_m1 ?_ | with_reducible refine r_slice ?_ | with_reducible refine r_part ?_ | with_reducible refine r_nopart ?_
  | with_reducible refine r_gcons ?_ | with_reducible refine r_gnil ?_
  | with_reducible refine r_par ?_ | with_reducible refine r_par3 ?_ | with_reducible refine r_ex2 ?_ | with_reducible refine r_ex3 ?_
  | with_reducible refine r_isN ?_ | with_reducible refine r_notN ?_
  | with_reducible refine r_iZipA ?_
  | with_reducible refine r_dget ?_ | with_reducible refine r_dget2 ?_ | with_reducible refine r_iKeys ?_ | with_reducible refine r_dput ?_
  | with_reducible refine r_for ?_ | with_reducible refine r_lc ?_ | with_reducible refine r_iList ?_ | with_reducible refine r_iTup ?_ | with_reducible refine r_iRng1 ?_ | with_reducible refine r_iEnum ?_ | with_reducible refine r_orT ?_ | with_reducible refine r_yes ?_ | with_reducible refine r_ixSl ?_)
local macro_rules | `(tactic| walk_at "st") => `(tactic| first
  | walk_at "ps"
  | ((with_reducible refine' r_ixL ?h1 ?h2 ?_); (case h1 => walk_at "sq"); (case h2 => rfl))
  | ((with_reducible refine' r_setL ?h1 ?h2 ?_); (case h1 => walk_at "hp"); (case h2 => rfl))
  | ((with_reducible refine' r_I ?h1 ?_); (case h1 => walk_at "sd"))
  | ((with_reducible refine' r_eq ?h1 ?_); (case h1 => rfl)) | ((with_reducible refine' r_ne ?h1 ?_); (case h1 => rfl))
  | ((with_reducible refine' r_lenL ?h1 ?_); (case h1 => walk_at "sq")) | ((with_reducible refine' r_lenT ?h1 ?_); (case h1 => walk_at "sq")) | ((with_reducible refine' r_lenD ?h1 ?_); (case h1 => walk_at "hp"))
  | ((with_reducible refine' r_slL ?h1 ?_); (case h1 => walk_at "sq"); intro _ _)
  | ((with_reducible refine' r_append ?h1 ?h2 ?_); (case h1 => walk_at "hp"); (case h2 => exact szl (by first | omega | (simp; omega))))
  | ((with_reducible refine' r_gtup ?h1 ?h2 ?_); (case h1 => walk_at "sq"); (case h2 => rfl))
  | ((with_reducible refine' r_cat ?h1 ?h2 ?h3 ?_); (case h1 => walk_at "hp"); (case h2 => walk_at "hp"); (case h3 => exact sz (by first | omega | (simp; omega))); intro _ _)
  | ((with_reducible refine' r_wLst ?h1 ?_); (case h1 => walk_at "sq")) | ((with_reducible refine' r_wTup ?h1 ?_); (case h1 => walk_at "sq"))
  | ((with_reducible refine' r_wRng ?h1 ?_); (case h1 => walk_at "sd"))
  | ((with_reducible refine' r_truL ?h1 ?_); (case h1 => walk_at "sq"))
  | ((with_reducible refine' r_list (Or.inl ?h1) ?_); (case h1 => walk_at "sq"); intro _ _) | ((with_reducible refine' r_list (Or.inr ?h1) ?_); (case h1 => walk_at "sq"); intro _ _)
  | ((with_reducible refine' r_tupL ?h1 ?_); (case h1 => walk_at "sq"); intro _ _) | ((with_reducible refine' r_tupT ?h1 ?_); (case h1 => walk_at "sq"))
  | ((with_reducible refine' r_disp ?h1 ?_); (case h1 => exact Nat.le_of_ble_eq_true rfl); intro _ _)
  | ((with_reducible refine r_dnewK ?_); intro _ _)
  | ((with_reducible refine' r_tyL ?h1 ?_); (case h1 => walk_at "sq")) | with_reducible refine r_strV ?_
  | with_reducible refine r_exb ?_ | with_reducible refine r_exi ?_ | with_reducible refine r_exr ?_ | with_reducible refine r_exs ?_ | with_reducible refine r_exli ?_)
local macro_rules | `(tactic| walk_at "go") => `(tactic| repeat walk_at "st")
local macro_rules | `(tactic| walk_at "in") => `(tactic| dsimp only [noxK, cxK, L2.start, List.map_cons, List.map_nil, List.length_cons, List.length_nil, Nat.reduceAdd, Nat.reduceSub, List.replicate, List.cons_append, List.nil_append])

section
variable {P : Program} {w : World} {K : PySem.W.Frag} {mg : Str → Option Value} {base : Heap} {L : Nat → Addr}
def spAbove (L : Nat → Addr) : Sp := fun vs H Q _ => ∃ (a : Addr) (i : Nat) (fs : List (Str × V)), vs = [.ref a] ∧ i < 16 ∧ Er H a (L i) fs ∧ ∀ (p : Addr) (H' : Hp), H p = none → H' p = some (.lst ([decide (i < 14), decide (i = 14), decide (i = 15)].map V.bl)) → Same H H' → Q (.ref p) H'
abbrev sAbove : Stmt := top 24
theorem scAbove : FnScope ["_law_made"] ["_law_made"] (defScope sAbove) := ⟨rfl, rfl, rfl, by decide +kernel, rfl, by decide +kernel, by decide +kernel⟩
theorem ok_above {f : Addr} {fd : FuncData} (F : Fun K "_law_above" "_law_above" sAbove f fd) (T : Txt K mg) (Y : EX K mg L) : FnOk P w K mg base CX0 1 f fd ["_law_made"] (spAbove L) := by
  refine F.ok scAbove (fun vs H Q E h => ?_) (fun cdv A outer s H vs Q E hr h => ?_)
  · obtain ⟨a, i, fs, rfl, _⟩ := h
    rfl
  · obtain ⟨a, i, fs, rfl, hi, er, q⟩ := h
    refine ⟨_, (pss_one (ps_ret (pe_lst (pa_cons (pe_callB (call_isD K) (by rfl) T.isinstance (by decide +kernel) (pa_cons (pv 0) (pa_cons (pe_bltn (v := .ty "ValueError") (by rfl) Y.mv (by decide +kernel) rfl) pa_nil))) (pa_cons (pe_callB (call_isD K) (by rfl) T.isinstance (by decide +kernel) (pa_cons (pv 0) (pa_cons (pe_bltn (v := .ty "LookupError") (by rfl) Y.ml (by decide +kernel) rfl) pa_nil))) (pa_cons (pe_callB (call_isD K) (by rfl) T.isinstance (by decide +kernel) (pa_cons (pv 0) (pa_cons (pe_bltn (v := .ty "ZeroDivisionError") (by rfl) Y.mz (by decide +kernel) rfl) pa_nil))) pa_nil)))))), ?_⟩
    walk_at "in"
    walk_at "go"
    refine ⟨a, L i, fs, .ty "ValueError", .type "ValueError", _, rfl, er.same (fun c o e => by walk_at "hp"), Y.c i hi, fun u hu => hu, Y.v i hi, ?_⟩
    walk_at "go"
    refine ⟨a, L i, fs, .ty "LookupError", .type "LookupError", _, rfl, er.same (fun c o e => by walk_at "hp"), Y.c i hi, fun u hu => hu, Y.l i hi, ?_⟩
    walk_at "go"
    refine ⟨a, L i, fs, .ty "ZeroDivisionError", .type "ZeroDivisionError", _, rfl, er.same (fun c o e => by walk_at "hp"), Y.c i hi, fun u hu => hu, Y.z i hi, ?_⟩
    walk_at "go"
    rename_i p hp
    exact q p _ hp upd_same fun c o e => by walk_at "hp"
def spFirst (L : Nat → Addr) : Sp := fun vs H Q _ => ∃ (a : Addr) (i : Nat) (fs : List (Str × V)), vs = [.ref a] ∧ i < 16 ∧ Er H a (L i) fs ∧ ∀ (p : Addr) (H' : Hp), H p = none → H' p = some (.lst ([decide (i = 0), decide (i = 1), decide (i = 2), decide (i = 3), decide (i = 4), decide (i = 5), decide (i = 6), decide (i = 7)].map V.bl)) → Same H H' → Q (.ref p) H'
abbrev sFirstOnes : Stmt := top 25
theorem scFirstOnes : FnScope ["_law_made", "_law_some"] ["_law_made"] (defScope sFirstOnes) := ⟨rfl, rfl, rfl, by decide +kernel, rfl, by decide +kernel, by decide +kernel⟩
theorem ok_first {f : Addr} {fd : FuncData} (F : Fun K "_law_first_ones" "_law_first_ones" sFirstOnes f fd) (T : Txt K mg) (Y : EX K mg L) : FnOk P w K mg base CX0 1 f fd ["_law_made"] (spFirst L) := by
  refine F.ok scFirstOnes (fun vs H Q E h => ?_) (fun cdv A outer s H vs Q E hr h => ?_)
  · obtain ⟨a, i, fs, rfl, _⟩ := h
    rfl
  · obtain ⟨a, i, fs, rfl, hi, er, q⟩ := h
    refine ⟨_, (pss_cons (ps_set (i := 1) scFirstOnes.nd rfl (Or.inl rfl) (pe_lst (pa_cons (pe_callB (call_isD K) (by rfl) T.isinstance (by decide +kernel) (pa_cons (pv 0) (pa_cons (pe_glob (v := .ref (L 0)) (by rfl) Y.g0 rfl) pa_nil))) (pa_cons (pe_callB (call_isD K) (by rfl) T.isinstance (by decide +kernel) (pa_cons (pv 0) (pa_cons (pe_glob (v := .ref (L 1)) (by rfl) Y.g1 rfl) pa_nil))) (pa_cons (pe_callB (call_isD K) (by rfl) T.isinstance (by decide +kernel) (pa_cons (pv 0) (pa_cons (pe_glob (v := .ref (L 2)) (by rfl) Y.g2 rfl) pa_nil))) (pa_cons (pe_callB (call_isD K) (by rfl) T.isinstance (by decide +kernel) (pa_cons (pv 0) (pa_cons (pe_glob (v := .ref (L 3)) (by rfl) Y.g3 rfl) pa_nil))) pa_nil))))))
  (pss_cons (ps_set (i := 1) scFirstOnes.nd rfl (Or.inl rfl) (pe_op op_cat (pv 1) (pe_lst (pa_cons (pe_callB (call_isD K) (by rfl) T.isinstance (by decide +kernel) (pa_cons (pv 0) (pa_cons (pe_glob (v := .ref (L 4)) (by rfl) Y.g4 rfl) pa_nil))) (pa_cons (pe_callB (call_isD K) (by rfl) T.isinstance (by decide +kernel) (pa_cons (pv 0) (pa_cons (pe_glob (v := .ref (L 5)) (by rfl) Y.g5 rfl) pa_nil))) (pa_cons (pe_callB (call_isD K) (by rfl) T.isinstance (by decide +kernel) (pa_cons (pv 0) (pa_cons (pe_glob (v := .ref (L 6)) (by rfl) Y.g6 rfl) pa_nil))) pa_nil))))))
  (pss_one (ps_ret (pe_op op_cat (pv 1) (pe_lst (pa_cons (pe_callB (call_isD K) (by rfl) T.isinstance (by decide +kernel) (pa_cons (pv 0) (pa_cons (pe_glob (v := .ref (L 7)) (by rfl) Y.g7 rfl) pa_nil))) pa_nil))))))), ?_⟩
    walk_at "in"
    walk_at "go"
    refine ⟨a, L i, fs, .ref (L 0), .ref (L 0), _, rfl, er.same (fun c o e => by walk_at "hp"), Y.c i hi, fun u hu => hu, Y.s i 0 hi (by decide), ?_⟩
    walk_at "go"
    refine ⟨a, L i, fs, .ref (L 1), .ref (L 1), _, rfl, er.same (fun c o e => by walk_at "hp"), Y.c i hi, fun u hu => hu, Y.s i 1 hi (by decide), ?_⟩
    walk_at "go"
    refine ⟨a, L i, fs, .ref (L 2), .ref (L 2), _, rfl, er.same (fun c o e => by walk_at "hp"), Y.c i hi, fun u hu => hu, Y.s i 2 hi (by decide), ?_⟩
    walk_at "go"
    refine ⟨a, L i, fs, .ref (L 3), .ref (L 3), _, rfl, er.same (fun c o e => by walk_at "hp"), Y.c i hi, fun u hu => hu, Y.s i 3 hi (by decide), ?_⟩
    walk_at "go"
    refine ⟨a, L i, fs, .ref (L 4), .ref (L 4), _, rfl, er.same (fun c o e => by walk_at "hp"), Y.c i hi, fun u hu => hu, Y.s i 4 hi (by decide), ?_⟩
    walk_at "go"
    refine ⟨a, L i, fs, .ref (L 5), .ref (L 5), _, rfl, er.same (fun c o e => by walk_at "hp"), Y.c i hi, fun u hu => hu, Y.s i 5 hi (by decide), ?_⟩
    walk_at "go"
    refine ⟨a, L i, fs, .ref (L 6), .ref (L 6), _, rfl, er.same (fun c o e => by walk_at "hp"), Y.c i hi, fun u hu => hu, Y.s i 6 hi (by decide), ?_⟩
    walk_at "go"
    refine r_cat (by walk_at "hp") (by walk_at "hp") (sz (by simp)) fun q1 hq1 => ?_
    walk_at "go"
    refine ⟨a, L i, fs, .ref (L 7), .ref (L 7), _, rfl, er.same (fun c o e => by walk_at "hp"), Y.c i hi, fun u hu => hu, Y.s i 7 hi (by decide), ?_⟩
    walk_at "go"
    refine r_cat (by walk_at "hp") (by walk_at "hp") (sz (by simp)) fun q2 hq2 => ?_
    walk_at "go"
    exact q q2 _ (Same.free (fun c o e => by walk_at "hp") hq2) upd_same fun c o e => by walk_at "hp"
def spLast (L : Nat → Addr) : Sp := fun vs H Q _ => ∃ (a : Addr) (i : Nat) (fs : List (Str × V)), vs = [.ref a] ∧ i < 16 ∧ Er H a (L i) fs ∧ ∀ (p : Addr) (H' : Hp), H p = none → H' p = some (.lst ([decide (i = 8), decide (i = 9), decide (i = 10), decide (i = 11), decide (i = 12), decide (i = 13), decide (i = 14), decide (i = 15)].map V.bl)) → Same H H' → Q (.ref p) H'
abbrev sLastOnes : Stmt := top 26
theorem scLastOnes : FnScope ["_law_made", "_law_some"] ["_law_made"] (defScope sLastOnes) := ⟨rfl, rfl, rfl, by decide +kernel, rfl, by decide +kernel, by decide +kernel⟩
theorem ok_last {f : Addr} {fd : FuncData} (F : Fun K "_law_last_ones" "_law_last_ones" sLastOnes f fd) (T : Txt K mg) (Y : EX K mg L) : FnOk P w K mg base CX0 1 f fd ["_law_made"] (spLast L) := by
  refine F.ok scLastOnes (fun vs H Q E h => ?_) (fun cdv A outer s H vs Q E hr h => ?_)
  · obtain ⟨a, i, fs, rfl, _⟩ := h
    rfl
  · obtain ⟨a, i, fs, rfl, hi, er, q⟩ := h
    refine ⟨_, (pss_cons (ps_set (i := 1) scLastOnes.nd rfl (Or.inl rfl) (pe_lst (pa_cons (pe_callB (call_isD K) (by rfl) T.isinstance (by decide +kernel) (pa_cons (pv 0) (pa_cons (pe_glob (v := .ref (L 8)) (by rfl) Y.g8 rfl) pa_nil))) (pa_cons (pe_callB (call_isD K) (by rfl) T.isinstance (by decide +kernel) (pa_cons (pv 0) (pa_cons (pe_glob (v := .ref (L 9)) (by rfl) Y.g9 rfl) pa_nil))) (pa_cons (pe_callB (call_isD K) (by rfl) T.isinstance (by decide +kernel) (pa_cons (pv 0) (pa_cons (pe_glob (v := .ref (L 10)) (by rfl) Y.g10 rfl) pa_nil))) pa_nil)))))
  (pss_cons (ps_set (i := 1) scLastOnes.nd rfl (Or.inl rfl) (pe_op op_cat (pv 1) (pe_lst (pa_cons (pe_callB (call_isD K) (by rfl) T.isinstance (by decide +kernel) (pa_cons (pv 0) (pa_cons (pe_glob (v := .ref (L 11)) (by rfl) Y.g11 rfl) pa_nil))) (pa_cons (pe_callB (call_isD K) (by rfl) T.isinstance (by decide +kernel) (pa_cons (pv 0) (pa_cons (pe_glob (v := .ref (L 12)) (by rfl) Y.g12 rfl) pa_nil))) (pa_cons (pe_callB (call_isD K) (by rfl) T.isinstance (by decide +kernel) (pa_cons (pv 0) (pa_cons (pe_glob (v := .ref (L 13)) (by rfl) Y.g13 rfl) pa_nil))) pa_nil))))))
  (pss_one (ps_ret (pe_op op_cat (pv 1) (pe_lst (pa_cons (pe_callB (call_isD K) (by rfl) T.isinstance (by decide +kernel) (pa_cons (pv 0) (pa_cons (pe_glob (v := .ref (L 14)) (by rfl) Y.g14 rfl) pa_nil))) (pa_cons (pe_callB (call_isD K) (by rfl) T.isinstance (by decide +kernel) (pa_cons (pv 0) (pa_cons (pe_glob (v := .ref (L 15)) (by rfl) Y.g15 rfl) pa_nil))) pa_nil)))))))), ?_⟩
    walk_at "in"
    walk_at "go"
    refine ⟨a, L i, fs, .ref (L 8), .ref (L 8), _, rfl, er.same (fun c o e => by walk_at "hp"), Y.c i hi, fun u hu => hu, Y.s i 8 hi (by decide), ?_⟩
    walk_at "go"
    refine ⟨a, L i, fs, .ref (L 9), .ref (L 9), _, rfl, er.same (fun c o e => by walk_at "hp"), Y.c i hi, fun u hu => hu, Y.s i 9 hi (by decide), ?_⟩
    walk_at "go"
    refine ⟨a, L i, fs, .ref (L 10), .ref (L 10), _, rfl, er.same (fun c o e => by walk_at "hp"), Y.c i hi, fun u hu => hu, Y.s i 10 hi (by decide), ?_⟩
    walk_at "go"
    refine ⟨a, L i, fs, .ref (L 11), .ref (L 11), _, rfl, er.same (fun c o e => by walk_at "hp"), Y.c i hi, fun u hu => hu, Y.s i 11 hi (by decide), ?_⟩
    walk_at "go"
    refine ⟨a, L i, fs, .ref (L 12), .ref (L 12), _, rfl, er.same (fun c o e => by walk_at "hp"), Y.c i hi, fun u hu => hu, Y.s i 12 hi (by decide), ?_⟩
    walk_at "go"
    refine ⟨a, L i, fs, .ref (L 13), .ref (L 13), _, rfl, er.same (fun c o e => by walk_at "hp"), Y.c i hi, fun u hu => hu, Y.s i 13 hi (by decide), ?_⟩
    walk_at "go"
    refine r_cat (by walk_at "hp") (by walk_at "hp") (sz (by simp)) fun q1 hq1 => ?_
    walk_at "go"
    refine ⟨a, L i, fs, .ref (L 14), .ref (L 14), _, rfl, er.same (fun c o e => by walk_at "hp"), Y.c i hi, fun u hu => hu, Y.s i 14 hi (by decide), ?_⟩
    walk_at "go"
    refine ⟨a, L i, fs, .ref (L 15), .ref (L 15), _, rfl, er.same (fun c o e => by walk_at "hp"), Y.c i hi, fun u hu => hu, Y.s i 15 hi (by decide), ?_⟩
    walk_at "go"
    refine r_cat (by walk_at "hp") (by walk_at "hp") (sz (by simp)) fun q2 hq2 => ?_
    walk_at "go"
    exact q q2 _ (Same.free (fun c o e => by walk_at "hp") hq2) upd_same fun c o e => by walk_at "hp"
end
end My

namespace My
open PySem L2
local macro_rules | `(tactic| walk_at "bx1") => `(tactic| first | with_reducible assumption | ((with_reducible refine' Bx.upd ?h1 ?h2); (case h1 => walk_at "bx1"); (case h2 => walk_at "ne")) | ((with_reducible refine' Bx.same ?h1 (by with_reducible assumption)); (case h1 => walk_at "bx1")))
local macro_rules | `(tactic| walk_at "bx") => `(tactic| (refine' Bx.mono ?h1 ?h2; (case h1 => walk_at "bx1"); (case h2 => omega)))
local macro_rules | `(tactic| walk_at "ne") => `(tactic| first | with_reducible assumption | exact Ne.symm (by with_reducible assumption) | ((with_reducible refine' ne_of_none ?h1 (by with_reducible assumption)); (case h1 => walk_at "hp")) | ((with_reducible refine' Ne.symm (ne_of_none ?h1 (by with_reducible assumption))); (case h1 => walk_at "hp")) | ((with_reducible refine' Bx.ne ?h1 (by with_reducible assumption)); (case h1 => walk_at "bx1")) | ((with_reducible refine' Ne.symm (Bx.ne ?h1 (by with_reducible assumption))); (case h1 => walk_at "bx1")))
local macro_rules | `(tactic| walk_at "hp") => `(tactic| first | with_reducible assumption | ((with_reducible refine' (upd_same.trans ?h1)); (case h1 => rfl)) | ((with_reducible refine' My.upd_at ?h1 ?h2); (case h1 => walk_at "hp"); (case h2 => walk_at "ne")) | ((with_reducible refine' My.Kp.at (by with_reducible assumption) ?h1 ?h2); (case h1 => walk_at "hp"); (case h2 => walk_at "ne")) | ((with_reducible refine' My.Same.at (by with_reducible assumption) ?h1); (case h1 => walk_at "hp")))
local macro_rules | `(tactic| walk_at "sq") => `(tactic| first | with_reducible assumption | exact SqL.of (by walk_at "hp") | exact SqT.of (by walk_at "hp") | ((with_reducible refine' My.SqT.upd ?h1 (by with_reducible assumption)); (case h1 => walk_at "sq")) | ((with_reducible refine' My.SqL.upd ?h1 (by with_reducible assumption)); (case h1 => walk_at "sq")) | ((with_reducible refine' Same.seq (by with_reducible assumption) ?h1); (case h1 => walk_at "sq")) | ((with_reducible refine' My.SqT.same ?h1 (by with_reducible assumption)); (case h1 => walk_at "sq")) | ((with_reducible refine' My.SqT.kp ?h1 (by with_reducible assumption) ?h2); (case h1 => walk_at "sq"); (case h2 => walk_at "bx1")) | ((with_reducible refine' My.SqL.kp ?h1 (by with_reducible assumption) ?h2); (case h1 => walk_at "sq"); (case h2 => walk_at "ne")))
local macro_rules | `(tactic| walk_at "sd") => `(tactic| first | assumption | omega | decide | (refine ⟨?_, ?_⟩ <;> (first | omega | decide)) | (refine Or.inl ⟨?_, ?_⟩ <;> (first | omega | decide)) | (refine Or.inr ⟨?_, ?_⟩ <;> (first | omega | decide)) | (refine ⟨?_, ?_, ?_⟩ <;> (first | omega | decide)))
local macro_rules | `(tactic| walk_at "ps") => `(tactic| first
  | with_reducible refine r_seq ?_ | with_reducible refine r_asg ?_ | with_reducible refine r_op ?_ | with_reducible refine r_cons ?_ | with_reducible refine r_nil ?_ | with_reducible refine r_c ?_
  | with_reducible refine' r_var rfl ?_ | with_reducible refine r_gname ?_ | with_reducible refine r_cb ?_ | with_reducible refine r_I0 ?_ | with_reducible refine r_ret ?_ | with_reducible refine r_ifS ?_ | with_reducible refine r_test ?_ | with_reducible refine r_B ?_
  | with_reducible refine r_next ?_ | with_reducible refine r_drop ?_ | with_reducible refine r_if ?_ | with_reducible refine r_un ?_ | with_reducible refine r_U ?_ | with_reducible refine r_gsub ?_ | with_reducible refine r_tup ?_ | with_reducible refine r_lst ?_ | with_reducible refine r_bm ?_
  | with_reducible refine r_cal ?_ | with_reducible refine r_not ?_ | with_reducible refine r_and ?_ | with_reducible refine r_or ?_ | with_reducible refine r_andV ?_ | with_reducible refine r_orV ?_ | with_reducible refine r_notV ?_
  | with_reducible refine r_abs ?_ | with_reducible refine r_intI ?_ | with_reducible refine r_intB ?_ | with_reducible refine r_m1 ?_ | with_reducible refine r_slice ?_ | with_reducible refine r_part ?_ | with_reducible refine r_nopart ?_
  | with_reducible refine r_gcons ?_ | with_reducible refine r_gnil ?_
  | with_reducible refine r_par ?_ | with_reducible refine r_par3 ?_ | with_reducible refine r_ex2 ?_ | with_reducible refine r_ex3 ?_
  | with_reducible refine r_isN ?_ | with_reducible refine r_notN ?_
  | with_reducible refine r_iZipA ?_
  | with_reducible refine r_dget ?_ | with_reducible refine r_dget2 ?_ | with_reducible refine r_iKeys ?_ | with_reducible refine r_dput ?_
  | with_reducible refine r_for ?_ | with_reducible refine r_lc ?_ | with_reducible refine r_iList ?_ | with_reducible refine r_iTup ?_ | with_reducible refine r_iRng1 ?_ | with_reducible refine r_iEnum ?_ | with_reducible refine r_orT ?_ | with_reducible refine r_yes ?_ | with_reducible refine r_ixSl ?_)
local macro_rules | `(tactic| walk_at "st") => `(tactic| first
  | walk_at "ps"
  | ((with_reducible refine' r_ixL ?h1 ?h2 ?_); (case h1 => walk_at "sq"); (case h2 => rfl))
  | ((with_reducible refine' r_setL ?h1 ?h2 ?_); (case h1 => walk_at "hp"); (case h2 => rfl))
  | ((with_reducible refine' r_I ?h1 ?_); (case h1 => walk_at "sd"))
  | ((with_reducible refine' r_eq ?h1 ?_); (case h1 => rfl)) | ((with_reducible refine' r_ne ?h1 ?_); (case h1 => rfl))
  | ((with_reducible refine' r_lenL ?h1 ?_); (case h1 => walk_at "sq")) | ((with_reducible refine' r_lenT ?h1 ?_); (case h1 => walk_at "sq")) | ((with_reducible refine' r_lenD ?h1 ?_); (case h1 => walk_at "hp"))
  | ((with_reducible refine' r_slL ?h1 ?_); (case h1 => walk_at "sq"); intro _ _)
  | ((with_reducible refine' r_append ?h1 ?h2 ?_); (case h1 => walk_at "hp"); (case h2 => exact szl (by first | omega | (simp; omega))))
  | ((with_reducible refine' r_gtup ?h1 ?h2 ?_); (case h1 => walk_at "sq"); (case h2 => rfl))
  | ((with_reducible refine' r_cat ?h1 ?h2 ?h3 ?_); (case h1 => walk_at "hp"); (case h2 => walk_at "hp"); (case h3 => exact sz (by first | omega | (simp; omega))); intro _ _)
  | ((with_reducible refine' r_wLst ?h1 ?_); (case h1 => walk_at "sq")) | ((with_reducible refine' r_wTup ?h1 ?_); (case h1 => walk_at "sq"))
  | ((with_reducible refine' r_wRng ?h1 ?_); (case h1 => walk_at "sd"))
  | ((with_reducible refine' r_truL ?h1 ?_); (case h1 => walk_at "sq"))
  | ((with_reducible refine' r_list (Or.inl ?h1) ?_); (case h1 => walk_at "sq"); intro _ _) | ((with_reducible refine' r_list (Or.inr ?h1) ?_); (case h1 => walk_at "sq"); intro _ _)
  | ((with_reducible refine' r_tupL ?h1 ?_); (case h1 => walk_at "sq"); intro _ _) | ((with_reducible refine' r_tupT ?h1 ?_); (case h1 => walk_at "sq"))
  | ((with_reducible refine' r_disp ?h1 ?_); (case h1 => exact Nat.le_of_ble_eq_true rfl); intro _ _)
  | ((with_reducible refine r_dnewK ?_); intro _ _)
  | ((with_reducible refine' r_tyL ?h1 ?_); (case h1 => walk_at "sq")) | with_reducible refine r_strV ?_
  | with_reducible refine r_exb ?_ | with_reducible refine r_exi ?_ | with_reducible refine r_exr ?_ | with_reducible refine r_exs ?_ | with_reducible refine r_exli ?_)
local macro_rules | `(tactic| walk_at "go") => `(tactic| repeat walk_at "st")
local macro_rules | `(tactic| walk_at "in") => `(tactic| dsimp only [noxK, cxK, L2.start, List.map_cons, List.map_nil, List.length_cons, List.length_nil, Nat.reduceAdd, Nat.reduceSub, List.replicate, List.cons_append, List.nil_append])

section
variable {P : Program} {w : World} {K : PySem.W.Frag} {mg : Str → Option Value} {base : Heap} {L : Nat → Addr}
theorem sm_bls {n : Nat} {H : Hp} {a b : Addr} {bs : List Bool} (h1 : H a = some (.lst (bs.map V.bl))) (h2 : H b = some (.lst (bs.map V.bl))) (hl : bs.length ≤ 1000) : Sm K (n + 2) (.ref a) (.ref b) H := by
  refine Or.inr (Or.inl ⟨a, b, _, _, rfl, rfl, h1, h2, rfl, by rw [List.length_map]; exact hl, fun i u v hu hv => ?_⟩)
  rw [hu] at hv
  cases hv
  obtain ⟨c, rfl, _⟩ := map_some hu
  exact Or.inl ⟨rfl, Or.inr (Or.inl ⟨_, rfl⟩)⟩
theorem decide_nat {i j : Nat} {p : Prop} [Decidable p] (h : p ↔ i = j) : decide p = decide (i = j) := decide_eq_decide.mpr h
abbrev sPlace : Stmt := top 28
theorem scPlace : FnScope ["_law_made", "_law_place_here", "_law_above_here", "_law_k"] ["_law_made", "_law_place_here"] (defScope sPlace) := ⟨rfl, rfl, rfl, by decide +kernel, rfl, by decide +kernel, by decide +kernel⟩
def spPlace (L : Nat → Addr) : Sp := fun vs H Q _ => ∃ (a : Addr) (i : Nat) (fs : List (Str × V)), vs = [.ref a, .int (i : Int)] ∧ i < 16 ∧ Er H a (L i) fs ∧ ∀ H', Same H H' → Q (.bl true) H'
theorem ok_place {f : Addr} {fd : FuncData} (F : Fun K "_law_place" "_law_place" sPlace f fd) (T : Txt K mg) (Cs : Cal P w K mg base CX0 2 "_law_same" ["_law_got", "_law_due"] (spSame K 2)) (Ca : Cal P w K mg base CX0 1 "_law_above" ["_law_made"] (spAbove L)) (Cf : Cal P w K mg base CX0 1 "_law_first_ones" ["_law_made"] (spFirst L)) (Cl : Cal P w K mg base CX0 1 "_law_last_ones" ["_law_made"] (spLast L)) : FnOk P w K mg base CX0 3 f fd ["_law_made", "_law_place_here"] (spPlace L) := by
  refine F.ok scPlace (fun vs H Q E h => ?_) (fun cdv A outer s H vs Q E hr h => ?_)
  · obtain ⟨a, i, fs, rfl, _⟩ := h
    rfl
  · obtain ⟨a, i, fs, rfl, hi, er, q⟩ := h
    refine ⟨_, (pss_cons (ps_set (i := 2) scPlace.nd rfl (Or.inl rfl) (pe_lst (pa_cons (pe_cmpR op_lt (pv 1) pe_int (nomark _)) (pa_cons (pe_cmpR op_eq (pv 1) pe_int (nomark _)) (pa_cons (pe_cmpR op_eq (pv 1) pe_int (nomark _)) pa_nil)))))
  (pss_cons (ps_if (pt_not (pt_val (pe_cal Cs (hr.mono (by decide)) pass0 (pa_cons (pe_cal Ca (hr.mono (by decide)) pass0 (pa_cons (pv 0) pa_nil)) (pa_cons (pv 2) pa_nil)))))
  (pss_one (ps_ret pe_bl))
  pss_nil)
  (pss_one (ps_ret (pe_cal Cs (hr.mono (by decide)) pass0 (pa_cons (pe_op op_cat (pe_cal Cf (hr.mono (by decide)) pass0 (pa_cons (pv 0) pa_nil)) (pe_cal Cl (hr.mono (by decide)) pass0 (pa_cons (pv 0) pa_nil))) (pa_cons (pe_lc (own := [("_law_k", 3)]) (g := gName 3) (tt := tYes) rfl scPlace.nd (pi_range1 rfl T.range (pa_cons pe_int pa_nil)) (blkOk_by (N := ["_law_made", "_law_place_here", "_law_above_here", "_law_k"]) (sc := defScope sPlace) (by decide +kernel)) (fun _ _ _ _ _ => (pg_name (i := 3) scPlace.nd rfl (Or.inl rfl))) (fun _ _ _ _ _ => pts_nil) (fun _ _ _ _ _ => (pe_cmpR op_eq (pv 3) (pv 1) (nomark _)))) pa_nil))))))), ?_⟩
    walk_at "in"
    walk_at "go"
    rename_i p1 hp1
    have n1 : decide ((i : Int) < 14) = decide (i < 14) := decide_eq_decide.mpr (by omega)
    have vi : ∀ k : Nat, decide (V.int (i : Int) = V.int (k : Int)) = decide (i = k) := fun k => decide_eq_decide.mpr ⟨fun z => by have := V.int.inj z; omega, fun z => by rw [z]⟩
    have vi2 : ∀ k : Nat, decide (V.int (k : Int) = V.int (i : Int)) = decide (i = k) := fun k => decide_eq_decide.mpr ⟨fun z => by have := V.int.inj z; omega, fun z => by rw [z]⟩
    have n2 : decide (V.int (i : Int) = V.int 14) = decide (i = 14) := vi 14
    have n3 : decide (V.int (i : Int) = V.int 15) = decide (i = 15) := vi 15
    rw [n1, n2, n3]
    have s1 : Same H (upd H p1 (.lst [V.bl (decide (i < 14)), V.bl (decide (i = 14)), V.bl (decide (i = 15))])) := fun c o e => by walk_at "hp"
    obtain ⟨H1, e1⟩ : ∃ H1, H1 = upd H p1 (.lst [V.bl (decide (i < 14)), V.bl (decide (i = 14)), V.bl (decide (i = 15))]) := ⟨_, rfl⟩
    have h1 : H1 p1 = some (.lst ([decide (i < 14), decide (i = 14), decide (i = 15)].map V.bl)) := by rw [e1]; exact upd_same
    rw [← e1] at s1 ⊢
    clear e1 hp1
    refine ⟨a, i, fs, rfl, hi, er.same s1, fun p2 H2 hp2 h2 s2 => ?_⟩
    walk_at "go"
    refine ⟨_, _, rfl, sm_bls h2 (s2 _ _ h1) (by simp), fun H3 s3 => ?_⟩
    walk_at "go"
    refine iteF ?_
    walk_at "go"
    have s4 : Same H H3 := fun c o e => s3 _ _ (s2 _ _ (s1 _ _ e))
    clear h2 h1 hp2 s3 s2 s1
    refine ⟨a, i, fs, rfl, hi, er.same s4, fun p3 H4 hp3 h3 s5 => ?_⟩
    walk_at "go"
    have s6 : Same H H4 := fun c o e => s5 _ _ (s4 _ _ e)
    refine ⟨a, i, fs, rfl, hi, er.same s6, fun p4 H5 hp4 h4 s7 => ?_⟩
    refine r_cat (s7 _ _ h3) h4 (sz (by simp)) fun p5 hp5 => ?_
    have s8 : Same H H5 := fun c o e => s7 _ _ (s6 _ _ e)
    walk_at "go"
    intro D hD
    obtain ⟨H6, e6⟩ : ∃ H6, H6 = upd H5 p5 (.lst (List.map V.bl [decide (i = 0), decide (i = 1), decide (i = 2), decide (i = 3), decide (i = 4), decide (i = 5), decide (i = 6), decide (i = 7)] ++ List.map V.bl [decide (i = 8), decide (i = 9), decide (i = 10), decide (i = 11), decide (i = 12), decide (i = 13), decide (i = 14), decide (i = 15)])) := ⟨_, rfl⟩
    have h6 : H6 p5 = some (.lst (((List.range 16).map fun k => decide (i = k)).map V.bl)) := by rw [e6]; exact upd_same
    have s9 : Same H H6 := fun c o e => by rw [e6]; exact upd_at (s8 _ _ e) (ne_of_none (s8 _ _ e) hp5)
    rw [← e6] at hD ⊢
    clear e6 h3 h4
    refine lc_it (walk_range (n := 16)) (fun j H' => H' D = some (.lst (((List.range j).map fun k => decide (i = k)).map V.bl)) ∧ Same H6 H') ?_ (fun _ _ _ _ => trivial) ?_ ?_
    · exact ⟨upd_same, fun c o e => upd_at e (ne_of_none e hD)⟩
    · rintro j _ H7 _ hj ⟨hD7, s10⟩ ⟨rfl, rfl⟩
      walk_at "go"
      refine ⟨rfl, ?_⟩
      walk_at "go"
      refine iteT ?_
      walk_at "go"
      rw [show decide (V.int (0 + (j : Int)) = V.int (i : Int)) = decide (i = j) from by rw [Int.zero_add]; exact vi2 j]
      refine ⟨_, hD7, szl (by rw [List.length_map, List.length_map, List.length_range]; omega), ?_, fun c o e => upd_at (s10 _ _ e) (ne_of_none e hD)⟩
      rw [List.range_succ, List.map_append, List.map_append]
      exact upd_same
    · rintro H7 ⟨hD7, s10⟩
      walk_at "go"
      exact ⟨_, _, rfl, sm_bls (s10 _ _ h6) hD7 (by simp), fun H8 s11 => q _ fun c o e => s11 _ _ (s10 _ _ (s9 _ _ e))⟩
end
end My

namespace My
open PySem L2
local macro_rules | `(tactic| walk_at "bx1") => `(tactic| first | with_reducible assumption | ((with_reducible refine' Bx.upd ?h1 ?h2); (case h1 => walk_at "bx1"); (case h2 => walk_at "ne")) | ((with_reducible refine' Bx.same ?h1 (by with_reducible assumption)); (case h1 => walk_at "bx1")))
local macro_rules | `(tactic| walk_at "bx") => `(tactic| (refine' Bx.mono ?h1 ?h2; (case h1 => walk_at "bx1"); (case h2 => omega)))
local macro_rules | `(tactic| walk_at "ne") => `(tactic| first | with_reducible assumption | exact Ne.symm (by with_reducible assumption) | ((with_reducible refine' ne_of_none ?h1 (by with_reducible assumption)); (case h1 => walk_at "hp")) | ((with_reducible refine' Ne.symm (ne_of_none ?h1 (by with_reducible assumption))); (case h1 => walk_at "hp")) | ((with_reducible refine' Bx.ne ?h1 (by with_reducible assumption)); (case h1 => walk_at "bx1")) | ((with_reducible refine' Ne.symm (Bx.ne ?h1 (by with_reducible assumption))); (case h1 => walk_at "bx1")))
local macro_rules | `(tactic| walk_at "hp") => `(tactic| first | with_reducible assumption | ((with_reducible refine' (upd_same.trans ?h1)); (case h1 => rfl)) | ((with_reducible refine' My.upd_at ?h1 ?h2); (case h1 => walk_at "hp"); (case h2 => walk_at "ne")) | ((with_reducible refine' My.Kp.at (by with_reducible assumption) ?h1 ?h2); (case h1 => walk_at "hp"); (case h2 => walk_at "ne")) | ((with_reducible refine' My.Same.at (by with_reducible assumption) ?h1); (case h1 => walk_at "hp")))
local macro_rules | `(tactic| walk_at "sq") => `(tactic| first | with_reducible assumption | exact SqL.of (by walk_at "hp") | exact SqT.of (by walk_at "hp") | ((with_reducible refine' My.SqT.upd ?h1 (by with_reducible assumption)); (case h1 => walk_at "sq")) | ((with_reducible refine' My.SqL.upd ?h1 (by with_reducible assumption)); (case h1 => walk_at "sq")) | ((with_reducible refine' Same.seq (by with_reducible assumption) ?h1); (case h1 => walk_at "sq")) | ((with_reducible refine' My.SqT.same ?h1 (by with_reducible assumption)); (case h1 => walk_at "sq")) | ((with_reducible refine' My.SqT.kp ?h1 (by with_reducible assumption) ?h2); (case h1 => walk_at "sq"); (case h2 => walk_at "bx1")) | ((with_reducible refine' My.SqL.kp ?h1 (by with_reducible assumption) ?h2); (case h1 => walk_at "sq"); (case h2 => walk_at "ne")))
local macro_rules | `(tactic| walk_at "sd") => `(tactic| first | assumption | omega | decide | (refine ⟨?_, ?_⟩ <;> (first | omega | decide)) | (refine Or.inl ⟨?_, ?_⟩ <;> (first | omega | decide)) | (refine Or.inr ⟨?_, ?_⟩ <;> (first | omega | decide)) | (refine ⟨?_, ?_, ?_⟩ <;> (first | omega | decide)))
local macro_rules | `(tactic| walk_at "ps") => `(tactic| first
  | with_reducible refine r_seq ?_ | with_reducible refine r_asg ?_ | with_reducible refine r_op ?_ | with_reducible refine r_cons ?_ | with_reducible refine r_nil ?_ | with_reducible refine r_c ?_
  | with_reducible refine' r_var rfl ?_ | with_reducible refine r_gname ?_ | with_reducible refine r_cb ?_ | with_reducible refine r_I0 ?_ | with_reducible refine r_ret ?_ | with_reducible refine r_ifS ?_ | with_reducible refine r_test ?_ | with_reducible refine r_B ?_
  | with_reducible refine r_next ?_ | with_reducible refine r_drop ?_ | with_reducible refine r_if ?_ | with_reducible refine r_un ?_ | with_reducible refine r_U ?_ | with_reducible refine r_gsub ?_ | with_reducible refine r_tup ?_ | with_reducible refine r_lst ?_ | with_reducible refine r_bm ?_
  | with_reducible refine r_cal ?_ | with_reducible refine r_not ?_ | with_reducible refine r_and ?_ | with_reducible refine r_or ?_ | with_reducible refine r_andV ?_ | with_reducible refine r_orV ?_ | with_reducible refine r_notV ?_
  | with_reducible refine r_abs ?_ | with_reducible refine r_intI ?_ | with_reducible refine r_intB ?_ | with_reducible refine r_m1 ?_ | with_reducible refine r_slice ?_ | with_reducible refine r_part ?_ | with_reducible refine r_nopart ?_
  | with_reducible refine r_gcons ?_ | with_reducible refine r_gnil ?_
  | with_reducible refine r_par ?_ | with_reducible refine r_par3 ?_ | with_reducible refine r_ex2 ?_ | with_reducible refine r_ex3 ?_
  | with_reducible refine r_isN ?_ | with_reducible refine r_notN ?_
  | with_reducible refine r_iZipA ?_
  | with_reducible refine r_dget ?_ | with_reducible refine r_dget2 ?_ | with_reducible refine r_iKeys ?_ | with_reducible refine r_dput ?_
  | with_reducible refine r_for ?_ | with_reducible refine r_lc ?_ | with_reducible refine r_iList ?_ | with_reducible refine r_iTup ?_ | with_reducible refine r_iRng1 ?_ | with_reducible refine r_iEnum ?_ | with_reducible refine r_orT ?_ | with_reducible refine r_yes ?_ | with_reducible refine r_ixSl ?_)
local macro_rules | `(tactic| walk_at "st") => `(tactic| first
  | walk_at "ps"
  | ((with_reducible refine' r_ixL ?h1 ?h2 ?_); (case h1 => walk_at "sq"); (case h2 => rfl))
  | ((with_reducible refine' r_setL ?h1 ?h2 ?_); (case h1 => walk_at "hp"); (case h2 => rfl))
  | ((with_reducible refine' r_I ?h1 ?_); (case h1 => walk_at "sd"))
  | ((with_reducible refine' r_eq ?h1 ?_); (case h1 => rfl)) | ((with_reducible refine' r_ne ?h1 ?_); (case h1 => rfl))
  | ((with_reducible refine' r_lenL ?h1 ?_); (case h1 => walk_at "sq")) | ((with_reducible refine' r_lenT ?h1 ?_); (case h1 => walk_at "sq")) | ((with_reducible refine' r_lenD ?h1 ?_); (case h1 => walk_at "hp"))
  | ((with_reducible refine' r_slL ?h1 ?_); (case h1 => walk_at "sq"); intro _ _)
  | ((with_reducible refine' r_append ?h1 ?h2 ?_); (case h1 => walk_at "hp"); (case h2 => exact szl (by first | omega | (simp; omega))))
  | ((with_reducible refine' r_gtup ?h1 ?h2 ?_); (case h1 => walk_at "sq"); (case h2 => rfl))
  | ((with_reducible refine' r_cat ?h1 ?h2 ?h3 ?_); (case h1 => walk_at "hp"); (case h2 => walk_at "hp"); (case h3 => exact sz (by first | omega | (simp; omega))); intro _ _)
  | ((with_reducible refine' r_wLst ?h1 ?_); (case h1 => walk_at "sq")) | ((with_reducible refine' r_wTup ?h1 ?_); (case h1 => walk_at "sq"))
  | ((with_reducible refine' r_wRng ?h1 ?_); (case h1 => walk_at "sd"))
  | ((with_reducible refine' r_truL ?h1 ?_); (case h1 => walk_at "sq"))
  | ((with_reducible refine' r_list (Or.inl ?h1) ?_); (case h1 => walk_at "sq"); intro _ _) | ((with_reducible refine' r_list (Or.inr ?h1) ?_); (case h1 => walk_at "sq"); intro _ _)
  | ((with_reducible refine' r_tupL ?h1 ?_); (case h1 => walk_at "sq"); intro _ _) | ((with_reducible refine' r_tupT ?h1 ?_); (case h1 => walk_at "sq"))
  | ((with_reducible refine' r_disp ?h1 ?_); (case h1 => exact Nat.le_of_ble_eq_true rfl); intro _ _)
  | ((with_reducible refine r_dnewK ?_); intro _ _)
  | ((with_reducible refine' r_tyL ?h1 ?_); (case h1 => walk_at "sq")) | with_reducible refine r_strV ?_
  | with_reducible refine r_exb ?_ | with_reducible refine r_exi ?_ | with_reducible refine r_exr ?_ | with_reducible refine r_exs ?_ | with_reducible refine r_exli ?_)
local macro_rules | `(tactic| walk_at "go") => `(tactic| repeat walk_at "st")
local macro_rules | `(tactic| walk_at "in") => `(tactic| dsimp only [noxK, cxK, L2.start, List.map_cons, List.map_nil, List.length_cons, List.length_nil, Nat.reduceAdd, Nat.reduceSub, List.replicate, List.cons_append, List.nil_append])

section
variable {P : Program} {w : World} {K : PySem.W.Frag} {mg : Str → Option Value} {base : Heap} {L : Nat → Addr}
/-- an error without fields -/
structure XN (K : PySem.W.Frag) (mg : Str → Option Value) (C : Addr) (x : Str) (bm : List Value) (newId : String) : Prop where
  q : PySem.W.excIn K C bm newId = true
  g : mg x = some (.ref C)
  k : PySem.W.keepIn K (.ref C) = true
  b : PySem.W.subIn K (.ref C) (.type "BaseException") = some true
  t : PySem.W.typeIn K (.ref C) = some (.type "type")
abbrev bmV : List Value := [.type "ValueError", .type "Exception", .type "BaseException", .type "object"]
abbrev bmZ : List Value := [.type "ZeroDivisionError", .type "ArithmeticError", .type "Exception", .type "BaseException", .type "object"]
abbrev bmL : List Value := [.type "LookupError", .type "Exception", .type "BaseException", .type "object"]
theorem sm_flat {n : Nat} {H : Hp} {a b : Addr} {xs : List V} (h1 : H a = some (.lst xs)) (h2 : H b = some (.lst xs)) (hl : xs.length ≤ 1000) (h : ∀ x ∈ xs, x = .non ∨ (∃ b, x = .bl b) ∨ (∃ i, x = .int i) ∨ ∃ s, x = .str s) : Sm K (n + 2) (.ref a) (.ref b) H := by
  refine Or.inr (Or.inl ⟨a, b, _, _, rfl, rfl, h1, h2, rfl, hl, fun i u v hu hv => ?_⟩)
  rw [hu] at hv
  cases hv
  exact Or.inl ⟨rfl, h _ (List.mem_of_getElem? hu)⟩
theorem r_mkO2v {C : Addr} {f g : Str} {i j : Nat} {y z : V} {σ : L2.St} {H : Hp} {Q : XK} (hi : σ[i]? = some (some y)) (hj : σ[j]? = some (some z)) (q : ∀ d H', H d = none → Same H H' → H' d = some (.xd [(g, z), (f, y)]) → Q (.ref C) (some d) H') : tMkO C (spI2 C f g) [] (tCons (tVar i) (tCons (tVar j) tNil)) σ H Q :=
  r_cons (r_var hi (r_cons (r_var hj (r_nil ⟨by simp, fun a ha => end2X ha q⟩))))
theorem r_xdv {f : Str} {i : Nat} {a C : Addr} {fs : List (Str × V)} {v : V} {σ : L2.St} {H : Hp} {Q : VK} (hi : σ[i]? = some (some (.ref a))) (er : Er H a C fs) (T : XfC K C) (hno : PySem.W.findIn K (.ref C) f = some none) (hl : fs.lookup f = some v) (q : Q v H) : tXd K f (tVar i) σ H Q :=
  ⟨.ref a, hi, a, C, fs, v, rfl, er, T, hno, hl, q⟩
abbrev sCaught : Stmt := top 29
theorem scCaught : FnScope ["_law_own", "_law_far", "error_a", "error_c", "_law_told", "_law_one_so", "_law_two_so", "_law_last_so"] ["_law_own", "_law_far"] (defScope sCaught) := ⟨rfl, rfl, rfl, by decide +kernel, rfl, by decide +kernel, by decide +kernel⟩
def spCaught : Sp := fun vs H Q _ => ∃ (k : Str) (z : Int), vs = [.str k, .int z] ∧ ∀ H', Same H H' → Q (.bl true) H'
theorem ok_caught {f : Addr} {fd : FuncData} (Fd : Fun K "_law_caught" "_law_caught" sCaught f fd) (T : Txt K mg) (Y : EX K mg L) (Cs : Cal P w K mg base CX0 2 "_law_same" ["_law_got", "_law_due"] (spSame K 2)) (O : E2 P w K mg base (L 3) "Short" "kind" "lacking")
    (m3 : PySem.W.exmOne K (.ref (L 3)) (.ref (L 3)) = some true) (m14 : PySem.W.exmOne K (.ref (L 14)) (.ref (L 14)) = some true) (m15 : PySem.W.exmOne K (.ref (L 15)) (.type "ZeroDivisionError") = some true)
    (D14 : XN K mg (L 14) "NoDeed" bmL "LookupError.__new__") (D15 : XN K mg (L 15) "Nothing" bmZ "ZeroDivisionError.__new__") : FnOk P w K mg base CX0 3 f fd ["_law_own", "_law_far"] spCaught := by
  refine Fd.ok scCaught (fun vs H Q E h => ?_) (fun cdv A outer s H vs Q E hr h => ?_)
  · obtain ⟨k, z, rfl, _⟩ := h
    rfl
  · obtain ⟨k, z, rfl, q⟩ := h
    obtain ⟨fI, fdI, iC, tI, FI, _, _, bI⟩ := O.ex
    refine ⟨_, pss_cons (ps_asg (pe_tup (pa_cons pe_non (pa_cons pe_int (pa_cons pe_non pa_nil)))) (pg_tup rfl (pgs_cons (pg_name (i := 5) scCaught.nd rfl (Or.inl rfl)) (pgs_cons (pg_name (i := 6) scCaught.nd rfl (Or.inl rfl)) (pgs_cons (pg_name (i := 7) scCaught.nd rfl (Or.inl rfl)) pgs_nil)))))
      (pss_cons (ps_try_asD (i := 2) (cls := .ref (L 3)) rfl rfl scCaught.nd rfl rfl (by rfl) (by decide) Y.g3 rfl m3
        (fun W pn xe tk _ => pss_one (ps_raise rfl tk (pmk_oex O.T iC tI FI (hr.mono (by decide)) bI .nil pass0 (by rfl) Y.g3 (pa_cons (pv 0) (pa_cons (pv 1) pa_nil)))))
        (fun a oe d pn hz hf => pss_one (ps_set (i := 5) scCaught.nd rfl (Or.inl rfl) (pv 2))))
      (pss_cons (ps_try_only (c := .type "ZeroDivisionError") rfl rfl ⟨by rfl, by decide, .inr ⟨Y.mz, by decide +kernel, by decide⟩⟩ takes0
        (fun W pn xe tk _ => pss_one (ps_raise rfl tk (pmk_own0 F.excBase_ZeroDivisionError D15.q D15.g D15.k (raises_own D15.b D15.t) (by rfl))))
        (fun a oe cls d pn _ _ => pss_one (ps_set (i := 6) scCaught.nd rfl (Or.inl rfl) pe_int)))
      (pss_cons (ps_try_asD (i := 3) (cls := .ref (L 14)) rfl rfl scCaught.nd rfl rfl (by rfl) (by decide) D14.g rfl m14
        (fun W pn xe tk _ => pss_one (ps_raise rfl tk (pmk_own0 F.excBase_LookupError D14.q D14.g D14.k (raises_own D14.b D14.t) (by rfl))))
        (fun a oe d pn hz hf => pss_one (ps_set (i := 7) scCaught.nd rfl (Or.inl rfl) (pv 3))))
      (pss_cons (ps_set (i := 4) scCaught.nd rfl (Or.inl rfl) (pe_lst (pa_cons (pe_xd K (pv 5)) (pa_cons (pe_xd K (pv 5)) (pa_cons (pv 6) (pa_cons (pe_callB (call_isD K) (by rfl) T.isinstance (by decide +kernel) (pa_cons (pv 7) (pa_cons (pe_bltn (v := .ty "LookupError") (by rfl) Y.ml (by decide +kernel) rfl) pa_nil))) pa_nil))))))
      (pss_one (ps_ret (pe_cal Cs (hr.mono (by decide)) pass0 (pa_cons (pv 4) (pa_cons (pe_lst (pa_cons (pv 0) (pa_cons (pv 1) (pa_cons pe_int (pa_cons pe_bl pa_nil))))) pa_nil))))))))), ?_⟩
    walk_at "in"
    walk_at "go"
    rename_i p0 hp0
    have s1 : Same H (upd H p0 (.tup [V.non, V.int 0, V.non])) := fun c o e => upd_at e (ne_of_none e hp0)
    obtain ⟨H1, e1⟩ : ∃ H1, H1 = upd H p0 (.tup [V.non, V.int 0, V.non]) := ⟨_, rfl⟩
    rw [← e1] at s1 ⊢
    clear e1 hp0
    refine r_mkO2v rfl rfl fun d H2 hd s2 h2 => ?_
    refine ⟨rfl, fun x1 hx1 => ?_⟩
    walk_at "go"
    intro _
    have er1 : Er (upd H2 x1 (ExD (.ref (L 3)) (some d) x1)) x1 (L 3) [("lacking", .int z), ("kind", .str k)] := ⟨some d, upd_same, .inr ⟨d, rfl, upd_at h2 (ne_of_none h2 hx1)⟩⟩
    have s3 : Same H (upd H2 x1 (ExD (.ref (L 3)) (some d) x1)) := fun c o e => by
      have := s2 _ _ (s1 _ _ e)
      exact upd_at this (ne_of_none this hx1)
    obtain ⟨H3, e3⟩ : ∃ H3, H3 = upd H2 x1 (ExD (.ref (L 3)) (some d) x1) := ⟨_, rfl⟩
    rw [← e3] at s3 er1 ⊢
    clear e3 hx1 h2 s2 s1 hd
    walk_at "go"
    refine ⟨true, m15, fun _ x2 hx2 => ?_, fun w => by cases w⟩
    walk_at "go"
    refine ⟨rfl, fun x3 hx3 => ?_⟩
    walk_at "go"
    intro _
    have er3 : Er (upd H3 x3 (ExD (.ref (L 14)) none x3)) x3 (L 14) [] := ⟨none, upd_same, .inl ⟨rfl, rfl⟩⟩
    have k3 : ∀ c o, H3 c = some o → upd H3 x3 (ExD (.ref (L 14)) none x3) c = some o := fun c o e => upd_at e (ne_of_none e hx3)
    have er1 := er1.same k3
    have s4 : Same H (upd H3 x3 (ExD (.ref (L 14)) none x3)) := fun c o e => k3 _ _ (s3 _ _ e)
    obtain ⟨H4, e4⟩ : ∃ H4, H4 = upd H3 x3 (ExD (.ref (L 14)) none x3) := ⟨_, rfl⟩
    rw [← e4] at s4 er1 er3 ⊢
    clear e4 hx3 hx2 s3 k3
    walk_at "go"
    refine r_xdv rfl er1 (Y.f 3 (by decide)) (Y.n 3 (by decide) _ (by simp)) rfl ?_
    walk_at "go"
    refine r_xdv rfl er1 (Y.f 3 (by decide)) (Y.n 3 (by decide) _ (by simp)) rfl ?_
    walk_at "go"
    refine ⟨x3, L 14, _, .ty "LookupError", .type "LookupError", _, rfl, er3, Y.c 14 (by decide), fun u hu => hu, Y.l 14 (by decide), ?_⟩
    walk_at "go"
    rename_i p1 hp1 p2 hp2
    refine ⟨_, _, rfl, sm_flat (xs := [.str k, .int z, .int 1, .bl true]) (by walk_at "hp") (by walk_at "hp") (by simp) ?_, fun H5 s5 => q _ fun c o e => s5 _ _ (by have := s4 _ _ e; walk_at "hp")⟩
    intro x hx
    simp at hx
    rcases hx with rfl | rfl | rfl | rfl
    · exact .inr (.inr (.inr ⟨_, rfl⟩))
    · exact .inr (.inr (.inl ⟨_, rfl⟩))
    · exact .inr (.inr (.inl ⟨_, rfl⟩))
    · exact .inr (.inl ⟨_, rfl⟩)
end
end My

namespace My
open PySem L2
local macro_rules | `(tactic| walk_at "bx1") => `(tactic| first | with_reducible assumption | ((with_reducible refine' Bx.upd ?h1 ?h2); (case h1 => walk_at "bx1"); (case h2 => walk_at "ne")) | ((with_reducible refine' Bx.same ?h1 (by with_reducible assumption)); (case h1 => walk_at "bx1")))
local macro_rules | `(tactic| walk_at "bx") => `(tactic| (refine' Bx.mono ?h1 ?h2; (case h1 => walk_at "bx1"); (case h2 => omega)))
local macro_rules | `(tactic| walk_at "ne") => `(tactic| first | with_reducible assumption | exact Ne.symm (by with_reducible assumption) | ((with_reducible refine' ne_of_none ?h1 (by with_reducible assumption)); (case h1 => walk_at "hp")) | ((with_reducible refine' Ne.symm (ne_of_none ?h1 (by with_reducible assumption))); (case h1 => walk_at "hp")) | ((with_reducible refine' Bx.ne ?h1 (by with_reducible assumption)); (case h1 => walk_at "bx1")) | ((with_reducible refine' Ne.symm (Bx.ne ?h1 (by with_reducible assumption))); (case h1 => walk_at "bx1")))
local macro_rules | `(tactic| walk_at "hp") => `(tactic| first | with_reducible assumption | ((with_reducible refine' (upd_same.trans ?h1)); (case h1 => rfl)) | ((with_reducible refine' My.upd_at ?h1 ?h2); (case h1 => walk_at "hp"); (case h2 => walk_at "ne")) | ((with_reducible refine' My.Kp.at (by with_reducible assumption) ?h1 ?h2); (case h1 => walk_at "hp"); (case h2 => walk_at "ne")) | ((with_reducible refine' My.Same.at (by with_reducible assumption) ?h1); (case h1 => walk_at "hp")))
local macro_rules | `(tactic| walk_at "sq") => `(tactic| first | with_reducible assumption | exact SqL.of (by walk_at "hp") | exact SqT.of (by walk_at "hp") | ((with_reducible refine' My.SqT.upd ?h1 (by with_reducible assumption)); (case h1 => walk_at "sq")) | ((with_reducible refine' My.SqL.upd ?h1 (by with_reducible assumption)); (case h1 => walk_at "sq")) | ((with_reducible refine' Same.seq (by with_reducible assumption) ?h1); (case h1 => walk_at "sq")) | ((with_reducible refine' My.SqT.same ?h1 (by with_reducible assumption)); (case h1 => walk_at "sq")) | ((with_reducible refine' My.SqT.kp ?h1 (by with_reducible assumption) ?h2); (case h1 => walk_at "sq"); (case h2 => walk_at "bx1")) | ((with_reducible refine' My.SqL.kp ?h1 (by with_reducible assumption) ?h2); (case h1 => walk_at "sq"); (case h2 => walk_at "ne")))
local macro_rules | `(tactic| walk_at "sd") => `(tactic| first | assumption | omega | decide | (refine ⟨?_, ?_⟩ <;> (first | omega | decide)) | (refine Or.inl ⟨?_, ?_⟩ <;> (first | omega | decide)) | (refine Or.inr ⟨?_, ?_⟩ <;> (first | omega | decide)) | (refine ⟨?_, ?_, ?_⟩ <;> (first | omega | decide)))
local macro_rules | `(tactic| walk_at "ps") => `(tactic| first
  | with_reducible refine r_seq ?_ | with_reducible refine r_asg ?_ | with_reducible refine r_op ?_ | with_reducible refine r_cons ?_ | with_reducible refine r_nil ?_ | with_reducible refine r_c ?_
  | with_reducible refine' r_var rfl ?_ | with_reducible refine r_gname ?_ | with_reducible refine r_cb ?_ | with_reducible refine r_I0 ?_ | with_reducible refine r_ret ?_ | with_reducible refine r_ifS ?_ | with_reducible refine r_test ?_ | with_reducible refine r_B ?_
  | with_reducible refine r_next ?_ | with_reducible refine r_drop ?_ | with_reducible refine r_if ?_ | with_reducible refine r_un ?_ | with_reducible refine r_U ?_ | with_reducible refine r_gsub ?_ | with_reducible refine r_tup ?_ | with_reducible refine r_lst ?_ | with_reducible refine r_bm ?_
  | with_reducible refine r_cal ?_ | with_reducible refine r_not ?_ | with_reducible refine r_and ?_ | with_reducible refine r_or ?_ | with_reducible refine r_andV ?_ | with_reducible refine r_orV ?_ | with_reducible refine r_notV ?_
  | with_reducible refine r_abs ?_ | with_reducible refine r_intI ?_ | with_reducible refine r_intB ?_ | with_reducible refine r_m1 ?_ | with_reducible refine r_slice ?_ | with_reducible refine r_part ?_ | with_reducible refine r_nopart ?_
  | with_reducible refine r_gcons ?_ | with_reducible refine r_gnil ?_
  | with_reducible refine r_par ?_ | with_reducible refine r_par3 ?_ | with_reducible refine r_ex2 ?_ | with_reducible refine r_ex3 ?_
  | with_reducible refine r_isN ?_ | with_reducible refine r_notN ?_
  | with_reducible refine r_iZipA ?_
  | with_reducible refine r_dget ?_ | with_reducible refine r_dget2 ?_ | with_reducible refine r_iKeys ?_ | with_reducible refine r_dput ?_
  | with_reducible refine r_for ?_ | with_reducible refine r_lc ?_ | with_reducible refine r_iList ?_ | with_reducible refine r_iTup ?_ | with_reducible refine r_iRng1 ?_ | with_reducible refine r_iEnum ?_ | with_reducible refine r_orT ?_ | with_reducible refine r_yes ?_ | with_reducible refine r_ixSl ?_)
local macro_rules | `(tactic| walk_at "st") => `(tactic| first
  | walk_at "ps"
  | ((with_reducible refine' r_ixL ?h1 ?h2 ?_); (case h1 => walk_at "sq"); (case h2 => rfl))
  | ((with_reducible refine' r_setL ?h1 ?h2 ?_); (case h1 => walk_at "hp"); (case h2 => rfl))
  | ((with_reducible refine' r_I ?h1 ?_); (case h1 => walk_at "sd"))
  | ((with_reducible refine' r_eq ?h1 ?_); (case h1 => rfl)) | ((with_reducible refine' r_ne ?h1 ?_); (case h1 => rfl))
  | ((with_reducible refine' r_lenL ?h1 ?_); (case h1 => walk_at "sq")) | ((with_reducible refine' r_lenT ?h1 ?_); (case h1 => walk_at "sq")) | ((with_reducible refine' r_lenD ?h1 ?_); (case h1 => walk_at "hp"))
  | ((with_reducible refine' r_slL ?h1 ?_); (case h1 => walk_at "sq"); intro _ _)
  | ((with_reducible refine' r_append ?h1 ?h2 ?_); (case h1 => walk_at "hp"); (case h2 => exact szl (by first | omega | (simp; omega))))
  | ((with_reducible refine' r_gtup ?h1 ?h2 ?_); (case h1 => walk_at "sq"); (case h2 => rfl))
  | ((with_reducible refine' r_cat ?h1 ?h2 ?h3 ?_); (case h1 => walk_at "hp"); (case h2 => walk_at "hp"); (case h3 => exact sz (by first | omega | (simp; omega))); intro _ _)
  | ((with_reducible refine' r_wLst ?h1 ?_); (case h1 => walk_at "sq")) | ((with_reducible refine' r_wTup ?h1 ?_); (case h1 => walk_at "sq"))
  | ((with_reducible refine' r_wRng ?h1 ?_); (case h1 => walk_at "sd"))
  | ((with_reducible refine' r_truL ?h1 ?_); (case h1 => walk_at "sq"))
  | ((with_reducible refine' r_list (Or.inl ?h1) ?_); (case h1 => walk_at "sq"); intro _ _) | ((with_reducible refine' r_list (Or.inr ?h1) ?_); (case h1 => walk_at "sq"); intro _ _)
  | ((with_reducible refine' r_tupL ?h1 ?_); (case h1 => walk_at "sq"); intro _ _) | ((with_reducible refine' r_tupT ?h1 ?_); (case h1 => walk_at "sq"))
  | ((with_reducible refine' r_disp ?h1 ?_); (case h1 => exact Nat.le_of_ble_eq_true rfl); intro _ _)
  | ((with_reducible refine r_dnewK ?_); intro _ _)
  | ((with_reducible refine' r_tyL ?h1 ?_); (case h1 => walk_at "sq")) | with_reducible refine r_strV ?_
  | with_reducible refine r_exb ?_ | with_reducible refine r_exi ?_ | with_reducible refine r_exr ?_ | with_reducible refine r_exs ?_ | with_reducible refine r_exli ?_)
local macro_rules | `(tactic| walk_at "go") => `(tactic| repeat walk_at "st")
local macro_rules | `(tactic| walk_at "in") => `(tactic| dsimp only [noxK, cxK, L2.start, List.map_cons, List.map_nil, List.length_cons, List.length_nil, Nat.reduceAdd, Nat.reduceSub, List.replicate, List.cons_append, List.nil_append])

section
variable {P : Program} {w : World} {K : PySem.W.Frag} {mg : Str → Option Value} {base : Heap} {L : Nat → Addr}
structure OX (P : Program) (w : World) (K : PySem.W.Frag) (mg : Str → Option Value) (base : Heap) (L : Nat → Addr) : Prop where
  oHollow : E1 P w K mg base (L 1) "Hollow" "kind"
  oRinged : E1 P w K mg base (L 2) "Ringed" "ring"
  oRegretted : E1 P w K mg base (L 4) "Regretted" "kind"
  oForked : E1 P w K mg base (L 5) "Forked" "kind"
  oUneven : E1 P w K mg base (L 6) "Uneven" "kind"
  oTaken : E1 P w K mg base (L 8) "Taken" "kind"
  oUnpriced : E1 P w K mg base (L 9) "Unpriced" "kind"
  oBadLine : E1 P w K mg base (L 13) "BadLine" "number"
  oBelow : E2 P w K mg base (L 0) "Below" "kind" "many"
  oShort : E2 P w K mg base (L 3) "Short" "kind" "lacking"
abbrev sOfKind : Stmt := top 27
theorem scOfKind : FnScope ["_law_box_here", "_law_own", "_law_far", "_law_near", "_law_some", "_law_below_so", "_law_short_so"] ["_law_box_here", "_law_own", "_law_far"] (defScope sOfKind) := ⟨rfl, rfl, rfl, by decide +kernel, rfl, by decide +kernel, by decide +kernel⟩
/-- a row (error, place) -/
def RwA (L : Nat → Addr) (H : Hp) (x : V) (r : Nat × List (Str × V)) : Prop := ∃ t a, x = .ref t ∧ H t = some (.tup [.ref a, .int (r.1 : Int)]) ∧ Er H a (L r.1) r.2
theorem exD_lst {cls : Value} {d : Option Addr} {a : Addr} {xs : List V} : ExD cls d a ≠ .lst xs := fun z => by
  have z' : HO.ext _ = HO.lst xs := z
  cases z'
theorem Er.upd_lst {H : Hp} {a C l : Addr} {fs : List (Str × V)} {xs : List V} {o : HO} (h : Er H a C fs) (hl : H l = some (.lst xs)) : Er (upd H l o) a C fs := by
  obtain ⟨d, h1, h2⟩ := h
  have n1 : a ≠ l := fun z => by
    rw [z, hl] at h1
    exact exD_lst (Option.some.inj h1).symm
  refine ⟨d, by rw [upd_ne n1]; exact h1, ?_⟩
  rcases h2 with z | ⟨dd, z1, z2⟩
  · exact .inl z
  · have n2 : dd ≠ l := fun z => by
      rw [z, hl] at z2
      cases z2
    exact .inr ⟨dd, z1, by rw [upd_ne n2]; exact z2⟩
theorem RwA.same {L : Nat → Addr} {H H' : Hp} {x : V} {r : Nat × List (Str × V)} (h : RwA L H x r) (s : Same H H') : RwA L H' x r := by
  obtain ⟨t, a, h1, h2, h3⟩ := h
  exact ⟨t, a, h1, s _ _ h2, h3.same s⟩
theorem RwA.upd_lst {L : Nat → Addr} {H : Hp} {x : V} {r : Nat × List (Str × V)} {l : Addr} {xs : List V} {o : HO} (h : RwA L H x r) (hl : H l = some (.lst xs)) : RwA L (upd H l o) x r := by
  obtain ⟨t, a, h1, h2, h3⟩ := h
  have n1 : t ≠ l := fun z => by
    rw [z, hl] at h2
    cases h2
  exact ⟨t, a, h1, by rw [upd_ne n1]; exact h2, h3.upd_lst hl⟩
theorem paired_imp {α β : Type} {R S : α → β → Prop} (h : ∀ x y, R x y → S x y) : ∀ {xs : List α} {ys : List β}, Paired R xs ys → Paired S xs ys
  | _, _, .nil => .nil
  | _, _, .cons e r => .cons (h _ _ e) (paired_imp h r)
theorem paired_add {α β : Type} {R : α → β → Prop} {x : α} {y : β} (e : R x y) : ∀ {xs : List α} {ys : List β}, Paired R xs ys → Paired R (xs ++ [x]) (ys ++ [y])
  | _, _, .nil => .cons e .nil
  | _, _, .cons e1 r => .cons e1 (paired_add e r)
theorem ite_same {b : Bool} {A : Prop} (h : A) : if b = true then A else A := by split <;> exact h
theorem r_e1v {C : Addr} {f : Str} {i : Nat} {y : V} {σ : L2.St} {H : Hp} {Q : VK} (hi : σ[i]? = some (some y)) (q : ∀ a, H a = none → ∀ H', Same H H' → Er H' a C [(f, y)] → Q (.ref a) H') : tE1 C f (tCons (tVar i) tNil) σ H Q :=
  r_cons (r_var hi (r_nil ⟨y, rfl, q⟩))
/-- the absolute value -/
abbrev ab (z : Int) : Int := if z < 0 then -z else z
theorem r_pick2 {b : Bool} {C : Addr} {f g : Str} {i j : Nat} {y z : V} {σ : L2.St} {H : Hp} {Q : VK} (hi : σ[i]? = some (some y)) (hj : σ[j]? = some (some z)) (q : ∀ a, H a = none → ∀ H', Same H H' → Er H' a C [(g, z), (f, y)] → Q (.ref a) H') :
    if b = true then tE2 C f g (tCons (tVar i) (tCons (tVar j) tNil)) σ H Q else tE2R C f g (tCons (tVar j) (tCons (tVar i) tNil)) σ H Q := by
  split
  · exact r_cons (r_var hi (r_cons (r_var hj (r_nil ⟨y, z, rfl, q⟩))))
  · exact r_cons (r_var hj (r_cons (r_var hi (r_nil ⟨y, z, rfl, q⟩))))
theorem r_pick2a {b : Bool} {C : Addr} {f g : Str} {i j : Nat} {y : V} {z : Int} {σ : L2.St} {H : Hp} {Q : VK} (hi : σ[i]? = some (some y)) (hj : σ[j]? = some (some (.int z))) (q : ∀ a, H a = none → ∀ H', Same H H' → Er H' a C [(g, .int (ab z)), (f, y)] → Q (.ref a) H') :
    if b = true then tE2 C f g (tCons (tVar i) (tCons (tCB rAbs (tCons (tVar j) tNil)) tNil)) σ H Q else tE2R C f g (tCons (tCB rAbs (tCons (tVar j) tNil)) (tCons (tVar i) tNil)) σ H Q := by
  split
  · exact r_cons (r_var hi (r_cons (r_cb (r_cons (r_var hj (r_nil (r_abs (r_nil ⟨y, _, rfl, q⟩))))))))
  · exact r_cons (r_cb (r_cons (r_var hj (r_nil (r_abs (r_cons (r_var hi (r_nil ⟨y, _, rfl, q⟩))))))))
structure Rows (L : Nat → Addr) (B H : Hp) (l : Addr) (xs : List V) (rs : List (Nat × List (Str × V))) : Prop where
  l : H l = some (.lst xs)
  p : Paired (RwA L H) xs rs
  s : Same B H
theorem Rows.add {L : Nat → Addr} {B H H1 : Hp} {l p e : Addr} {xs : List V} {rs : List (Nat × List (Str × V))} {n : Nat} {fs : List (Str × V)} (R : Rows L B H l xs rs) (hB : B l = none) (s1 : Same H H1) (er1 : Er H1 e (L n) fs) (hp1 : H1 p = none) :
    Rows L B (upd (upd H1 p (.tup [.ref e, .int (n : Int)])) l (.lst (xs ++ [.ref p]))) l (xs ++ [.ref p]) (rs ++ [(n, fs)]) := by
  have s2 : Same H1 (upd H1 p (.tup [.ref e, .int (n : Int)])) := fun c o e => upd_at e (ne_of_none e hp1)
  have hl1 := s1 _ _ R.l
  have hl2 := s2 _ _ hl1
  have npl : p ≠ l := fun z => by rw [z, hl1] at hp1; cases hp1
  refine ⟨upd_same, paired_add ⟨p, e, rfl, by rw [upd_ne npl]; exact upd_same, (er1.same s2).upd_lst hl2⟩ (paired_imp (fun x y h => ((h.same s1).same s2).upd_lst hl2) R.p), fun c o h => ?_⟩
  rw [upd_ne (ne_of_none h hB)]
  exact s2 _ _ (s1 _ _ (R.s _ _ h))
def kk (k : Str) (z : Int) : List (Nat × List (Str × V)) := [(1, [("kind", .str k)]), (4, [("kind", .str k)]), (5, [("kind", .str k)]), (6, [("kind", .str k)]), (8, [("kind", .str k)]), (9, [("kind", .str k)]), (0, [("many", .int z), ("kind", .str k)]), (3, [("lacking", .int (ab z)), ("kind", .str k)])]
def spOfKind (L : Nat → Addr) : Sp := fun vs H Q _ => ∃ (a : Addr) (b : Nat) (k : Str) (z : Int), vs = [.ref a, .str k, .int z] ∧ Bx H a (b + 1) ∧ ∀ (p : Addr) (xs : List V) (H' : Hp), H' p = some (.lst xs) → Paired (RwA L H') xs (kk k z) → Kp a H H' → Q (.ref p) H'
theorem ok_ofKind {f : Addr} {fd : FuncData} (F : Fun K "_law_of_kind" "_law_of_kind" sOfKind f fd) (T : Txt K mg) (Y : EX K mg L) (O : OX P w K mg base L) (Cs : Cal P w K mg base CX0 2 "_law_same" ["_law_got", "_law_due"] (spSame K 2)) (Ct : Cal P w K mg base CX0 1 "_law_take" ["_law_box_here", "_law_below"] spTake) : FnOk P w K mg base CX0 3 f fd ["_law_box_here", "_law_own", "_law_far"] (spOfKind L) := by
  refine F.ok scOfKind (fun vs H Q E h => ?_) (fun cdv A outer s H vs Q E hr h => ?_)
  · obtain ⟨a, b, k, z, rfl, _⟩ := h
    rfl
  · obtain ⟨a, b, k, z, rfl, hb, q⟩ := h
    refine ⟨_, (pss_cons (ps_set (i := 3) scOfKind.nd rfl (Or.inl rfl) (pe_cal Ct (hr.mono (by decide)) pass0 (pa_cons (pv 0) (pa_cons pe_int pa_nil))))
  (pss_cons (ps_set (i := 4) scOfKind.nd rfl (Or.inl rfl) (pe_lst (pa_cons (pe_tup (pa_cons (pe_ifExp (pt_cmpR op_eq (pv 3) pe_int (nomark _)) (pe_e1 O.oHollow (hr.mono (by decide)) (pa_cons (pv 1) pa_nil)) (pe_e1K O.oHollow (hr.mono (by decide)) (pk_cons (pv 1) pk_nil))) (pa_cons pe_int pa_nil))) pa_nil)))
  (pss_cons (ps_expr (pe_bm PySem.F.plainAttrs_list PySem.F.slot_list_append PySem.F.type_list_append mt_append (pv 4) (pa_cons (pe_tup (pa_cons (pe_ifExp (pt_cmpR op_eq (pv 3) pe_int (nomark _)) (pe_e1 O.oRegretted (hr.mono (by decide)) (pa_cons (pv 1) pa_nil)) (pe_e1K O.oRegretted (hr.mono (by decide)) (pk_cons (pv 1) pk_nil))) (pa_cons pe_int pa_nil))) pa_nil)))
  (pss_cons (ps_expr (pe_bm PySem.F.plainAttrs_list PySem.F.slot_list_append PySem.F.type_list_append mt_append (pv 4) (pa_cons (pe_tup (pa_cons (pe_ifExp (pt_cmpR op_eq (pv 3) pe_int (nomark _)) (pe_e1 O.oForked (hr.mono (by decide)) (pa_cons (pv 1) pa_nil)) (pe_e1K O.oForked (hr.mono (by decide)) (pk_cons (pv 1) pk_nil))) (pa_cons pe_int pa_nil))) pa_nil)))
  (pss_cons (ps_expr (pe_bm PySem.F.plainAttrs_list PySem.F.slot_list_append PySem.F.type_list_append mt_append (pv 4) (pa_cons (pe_tup (pa_cons (pe_ifExp (pt_cmpR op_eq (pv 3) pe_int (nomark _)) (pe_e1 O.oUneven (hr.mono (by decide)) (pa_cons (pv 1) pa_nil)) (pe_e1K O.oUneven (hr.mono (by decide)) (pk_cons (pv 1) pk_nil))) (pa_cons pe_int pa_nil))) pa_nil)))
  (pss_cons (ps_expr (pe_bm PySem.F.plainAttrs_list PySem.F.slot_list_append PySem.F.type_list_append mt_append (pv 4) (pa_cons (pe_tup (pa_cons (pe_ifExp (pt_cmpR op_eq (pv 3) pe_int (nomark _)) (pe_e1 O.oTaken (hr.mono (by decide)) (pa_cons (pv 1) pa_nil)) (pe_e1K O.oTaken (hr.mono (by decide)) (pk_cons (pv 1) pk_nil))) (pa_cons pe_int pa_nil))) pa_nil)))
  (pss_cons (ps_expr (pe_bm PySem.F.plainAttrs_list PySem.F.slot_list_append PySem.F.type_list_append mt_append (pv 4) (pa_cons (pe_tup (pa_cons (pe_ifExp (pt_cmpR op_eq (pv 3) pe_int (nomark _)) (pe_e1 O.oUnpriced (hr.mono (by decide)) (pa_cons (pv 1) pa_nil)) (pe_e1K O.oUnpriced (hr.mono (by decide)) (pk_cons (pv 1) pk_nil))) (pa_cons pe_int pa_nil))) pa_nil)))
  (pss_cons (ps_set (i := 5) scOfKind.nd rfl (Or.inl rfl) (pe_ifExp (pt_cmpR op_eq (pv 3) pe_int (nomark _)) (pe_e2 O.oBelow (hr.mono (by decide)) (pa_cons (pv 1) (pa_cons (pv 2) pa_nil))) (pe_e2K O.oBelow (hr.mono (by decide)) (pk_cons (pv 2) (pk_cons (pv 1) pk_nil)))))
  (pss_cons (ps_set (i := 6) scOfKind.nd rfl (Or.inl rfl) (pe_ifExp (pt_cmpR op_eq (pv 3) pe_int (nomark _)) (pe_e2 O.oShort (hr.mono (by decide)) (pa_cons (pv 1) (pa_cons (pe_callB c_abs (by rfl) T.abs (by decide +kernel) (pa_cons (pv 2) pa_nil)) pa_nil))) (pe_e2K O.oShort (hr.mono (by decide)) (pk_cons (pe_callB c_abs (by rfl) T.abs (by decide +kernel) (pa_cons (pv 2) pa_nil)) (pk_cons (pv 1) pk_nil)))))
  (pss_cons (ps_if (pt_not (pt_val (pe_cal Cs hr pass0 (pa_cons (pe_lst (pa_cons (pe_xd K (pv 5)) (pa_cons (pe_xd K (pv 6)) pa_nil))) (pa_cons (pe_lst (pa_cons (pv 2) (pa_cons (pe_callB c_abs (by rfl) T.abs (by decide +kernel) (pa_cons (pv 2) pa_nil)) pa_nil))) pa_nil)))))
  (pss_one (ps_ret (pe_lst pa_nil)))
  pss_nil)
  (pss_one (ps_ret (pe_op op_cat (pv 4) (pe_lst (pa_cons (pe_tup (pa_cons (pv 5) (pa_cons pe_int pa_nil))) (pa_cons (pe_tup (pa_cons (pv 6) (pa_cons pe_int pa_nil))) pa_nil)))))))))))))))), ?_⟩
    walk_at "in"
    walk_at "go"
    refine ⟨a, b, 2, rfl, hb, by decide, by decide, fun near H1 n0 n1 hb1 k1 => ?_⟩
    walk_at "go"
    refine ite_same (r_e1v rfl fun e he H2 s2 er2 => ?_)
    walk_at "go"
    rename_i t ht l hl
    have hl0 : H1 l = none := Same.free (fun c o e => by walk_at "hp") hl
    have R : Rows L H1 (upd (upd H2 t (.tup [.ref e, .int 1])) l (.lst [.ref t])) l [.ref t] [(1, [("kind", .str k)])] := by
      have s3 : Same H2 (upd H2 t (.tup [.ref e, .int 1])) := fun c o e => upd_at e (ne_of_none e ht)
      have s4 : Same (upd H2 t (.tup [.ref e, .int 1])) (upd (upd H2 t (.tup [.ref e, .int 1])) l (.lst [.ref t])) := fun c o e => upd_at e (ne_of_none e hl)
      exact ⟨upd_same, .cons ⟨t, e, rfl, s4 _ _ upd_same, (er2.same s3).same s4⟩ .nil, fun c o h => s4 _ _ (s3 _ _ (s2 _ _ h))⟩
    obtain ⟨H3, e3⟩ : ∃ H3, H3 = upd (upd H2 t (.tup [.ref e, .int 1])) l (.lst [.ref t]) := ⟨_, rfl⟩
    rw [← e3] at R ⊢
    obtain ⟨xs, ex⟩ : ∃ xs : List V, xs = [.ref t] := ⟨_, rfl⟩
    have hx : xs.length = 1 := by rw [ex]; rfl
    rw [← ex] at R
    clear e3 ex hl ht er2 s2 he
    have hl := R.l
    refine ite_same (r_e1v rfl fun e he H2 s2 er2 => ?_)
    walk_at "go"
    rename_i t ht
    have R2 : Rows L H1 (upd (upd H2 t (.tup [.ref e, .int 4])) l (.lst (xs ++ [.ref t]))) l (xs ++ [.ref t]) [(1, [("kind", .str k)]), (4, [("kind", .str k)])] := R.add hl0 s2 er2 ht
    obtain ⟨H3, e3⟩ : ∃ H3, H3 = upd (upd H2 t (.tup [.ref e, .int 4])) l (.lst (xs ++ [.ref t])) := ⟨_, rfl⟩
    rw [← e3] at R2 ⊢
    obtain ⟨xs2, ex⟩ : ∃ ys : List V, ys = xs ++ [.ref t] := ⟨_, rfl⟩
    have hx2 : xs2.length = 2 := by rw [ex, List.length_append, hx]; rfl
    rw [← ex] at R2
    clear e3 ex ht er2 s2 he R hx hl
    have hl2 := R2.l
    refine ite_same (r_e1v rfl fun e he H2 s2 er2 => ?_)
    walk_at "go"
    rename_i t ht
    have R3 : Rows L H1 (upd (upd H2 t (.tup [.ref e, .int 5])) l (.lst (xs2 ++ [.ref t]))) l (xs2 ++ [.ref t]) [(1, [("kind", .str k)]), (4, [("kind", .str k)]), (5, [("kind", .str k)])] := R2.add hl0 s2 er2 ht
    obtain ⟨H3, e3⟩ : ∃ H3, H3 = upd (upd H2 t (.tup [.ref e, .int 5])) l (.lst (xs2 ++ [.ref t])) := ⟨_, rfl⟩
    rw [← e3] at R3 ⊢
    obtain ⟨xs3, ex⟩ : ∃ ys : List V, ys = xs2 ++ [.ref t] := ⟨_, rfl⟩
    have hx3 : xs3.length = 3 := by rw [ex, List.length_append, hx2]; rfl
    rw [← ex] at R3
    clear e3 ex ht er2 s2 he R2 hx2 hl2
    have hl3 := R3.l
    refine ite_same (r_e1v rfl fun e he H2 s2 er2 => ?_)
    walk_at "go"
    rename_i t ht
    have R4 : Rows L H1 (upd (upd H2 t (.tup [.ref e, .int 6])) l (.lst (xs3 ++ [.ref t]))) l (xs3 ++ [.ref t]) [(1, [("kind", .str k)]), (4, [("kind", .str k)]), (5, [("kind", .str k)]), (6, [("kind", .str k)])] := R3.add hl0 s2 er2 ht
    obtain ⟨H3, e3⟩ : ∃ H3, H3 = upd (upd H2 t (.tup [.ref e, .int 6])) l (.lst (xs3 ++ [.ref t])) := ⟨_, rfl⟩
    rw [← e3] at R4 ⊢
    obtain ⟨xs4, ex⟩ : ∃ ys : List V, ys = xs3 ++ [.ref t] := ⟨_, rfl⟩
    have hx4 : xs4.length = 4 := by rw [ex, List.length_append, hx3]; rfl
    rw [← ex] at R4
    clear e3 ex ht er2 s2 he R3 hx3 hl3
    have hl4 := R4.l
    refine ite_same (r_e1v rfl fun e he H2 s2 er2 => ?_)
    walk_at "go"
    rename_i t ht
    have R5 : Rows L H1 (upd (upd H2 t (.tup [.ref e, .int 8])) l (.lst (xs4 ++ [.ref t]))) l (xs4 ++ [.ref t]) [(1, [("kind", .str k)]), (4, [("kind", .str k)]), (5, [("kind", .str k)]), (6, [("kind", .str k)]), (8, [("kind", .str k)])] := R4.add hl0 s2 er2 ht
    obtain ⟨H3, e3⟩ : ∃ H3, H3 = upd (upd H2 t (.tup [.ref e, .int 8])) l (.lst (xs4 ++ [.ref t])) := ⟨_, rfl⟩
    rw [← e3] at R5 ⊢
    obtain ⟨xs5, ex⟩ : ∃ ys : List V, ys = xs4 ++ [.ref t] := ⟨_, rfl⟩
    have hx5 : xs5.length = 5 := by rw [ex, List.length_append, hx4]; rfl
    rw [← ex] at R5
    clear e3 ex ht er2 s2 he R4 hx4 hl4
    have hl5 := R5.l
    refine ite_same (r_e1v rfl fun e he H2 s2 er2 => ?_)
    walk_at "go"
    rename_i t ht
    have R6 : Rows L H1 (upd (upd H2 t (.tup [.ref e, .int 9])) l (.lst (xs5 ++ [.ref t]))) l (xs5 ++ [.ref t]) [(1, [("kind", .str k)]), (4, [("kind", .str k)]), (5, [("kind", .str k)]), (6, [("kind", .str k)]), (8, [("kind", .str k)]), (9, [("kind", .str k)])] := R5.add hl0 s2 er2 ht
    obtain ⟨H3, e3⟩ : ∃ H3, H3 = upd (upd H2 t (.tup [.ref e, .int 9])) l (.lst (xs5 ++ [.ref t])) := ⟨_, rfl⟩
    rw [← e3] at R6 ⊢
    obtain ⟨xs6, ex⟩ : ∃ ys : List V, ys = xs5 ++ [.ref t] := ⟨_, rfl⟩
    have hx6 : xs6.length = 6 := by rw [ex, List.length_append, hx5]; rfl
    rw [← ex] at R6
    clear e3 ex ht er2 s2 he R5 hx5 hl5
    have hl6 := R6.l
    refine r_pick2 rfl rfl fun e0 he0 H4 s4 er0 => ?_
    walk_at "go"
    refine r_pick2a rfl rfl fun e3 he3 H5 s5 er3 => ?_
    walk_at "go"
    have er0' := er0.same s5
    refine r_xdv rfl er0' (Y.f 0 (by decide)) (Y.n 0 (by decide) _ (by simp)) rfl ?_
    walk_at "go"
    refine r_xdv rfl er3 (Y.f 3 (by decide)) (Y.n 3 (by decide) _ (by simp)) rfl ?_
    walk_at "go"
    rename_i p1 hp1 p2 hp2
    refine ⟨_, _, rfl, sm_flat (xs := [.int z, .int (ab z)]) (by walk_at "hp") (by walk_at "hp") (by simp) (fun x hx => ?_), fun H6 s6 => ?_⟩
    · simp at hx
      rcases hx with rfl | rfl
      · exact .inr (.inr (.inl ⟨_, rfl⟩))
      · exact .inr (.inr (.inl ⟨_, rfl⟩))
    walk_at "go"
    refine iteF ?_
    have s7 : Same H5 H6 := fun c o e => s6 _ _ (by walk_at "hp")
    clear s6 hp1 hp2
    have s8 : Same H3 H6 := fun c o e => s7 _ _ (s5 _ _ (s4 _ _ e))
    have R7 : Paired (RwA L H6) xs6 _ := paired_imp (fun x y h => h.same s8) R6.p
    have hl7 := s8 _ _ hl6
    have er0' := er0'.same s7
    have er3' := er3.same s7
    have k7 : Kp a H H6 := k1.trans (Kp.of fun c o e => s8 _ _ (R6.s _ _ e))
    clear s8 s7 er0 er3 hl6 R6 s4 s5
    walk_at "go"
    rename_i t0 ht0 t3 ht3 tl htl q1 hq1
    have sA : Same H6 (upd H6 t0 (.tup [.ref e0, .int 0])) := fun c o e => upd_at e (ne_of_none e ht0)
    have sB : Same (upd H6 t0 (.tup [.ref e0, .int 0])) (upd (upd H6 t0 (.tup [.ref e0, .int 0])) t3 (.tup [.ref e3, .int 3])) := fun c o e => upd_at e (ne_of_none e ht3)
    have sC : Same (upd (upd H6 t0 (.tup [.ref e0, .int 0])) t3 (.tup [.ref e3, .int 3])) (upd (upd (upd (upd H6 t0 (.tup [.ref e0, .int 0])) t3 (.tup [.ref e3, .int 3])) tl (.lst [.ref t0, .ref t3])) q1 (.lst (xs6 ++ [.ref t0, .ref t3]))) := fun c o e => by
      have := upd_at e (ne_of_none e htl) (o := .lst [.ref t0, .ref t3])
      exact upd_at this (ne_of_none this hq1)
    refine q q1 _ _ upd_same ?_ (k7.trans (Kp.of fun c o e => sC _ _ (sB _ _ (sA _ _ e))))
    rw [show xs6 ++ [V.ref t0, V.ref t3] = (xs6 ++ [V.ref t0]) ++ [V.ref t3] by simp] at sC ⊢
    exact paired_add (y := ((3, [("lacking", V.int (ab z)), ("kind", V.str k)]) : Nat × List (Str × V))) ⟨t3, e3, rfl, sC _ _ upd_same, ((er3'.same sA).same sB).same sC⟩ (paired_add (y := ((0, [("many", V.int z), ("kind", V.str k)]) : Nat × List (Str × V))) ⟨t0, e0, rfl, sC _ _ (sB _ _ upd_same), ((er0'.same sA).same sB).same sC⟩ (paired_imp (fun x y h => ((h.same sA).same sB).same sC) R7))
end
end My

namespace My
open PySem L2
local macro_rules | `(tactic| walk_at "bx1") => `(tactic| first | with_reducible assumption | ((with_reducible refine' Bx.upd ?h1 ?h2); (case h1 => walk_at "bx1"); (case h2 => walk_at "ne")) | ((with_reducible refine' Bx.same ?h1 (by with_reducible assumption)); (case h1 => walk_at "bx1")))
local macro_rules | `(tactic| walk_at "bx") => `(tactic| (refine' Bx.mono ?h1 ?h2; (case h1 => walk_at "bx1"); (case h2 => omega)))
local macro_rules | `(tactic| walk_at "ne") => `(tactic| first | with_reducible assumption | exact Ne.symm (by with_reducible assumption) | ((with_reducible refine' ne_of_none ?h1 (by with_reducible assumption)); (case h1 => walk_at "hp")) | ((with_reducible refine' Ne.symm (ne_of_none ?h1 (by with_reducible assumption))); (case h1 => walk_at "hp")) | ((with_reducible refine' Bx.ne ?h1 (by with_reducible assumption)); (case h1 => walk_at "bx1")) | ((with_reducible refine' Ne.symm (Bx.ne ?h1 (by with_reducible assumption))); (case h1 => walk_at "bx1")))
local macro_rules | `(tactic| walk_at "hp") => `(tactic| first | with_reducible assumption | ((with_reducible refine' (upd_same.trans ?h1)); (case h1 => rfl)) | ((with_reducible refine' My.upd_at ?h1 ?h2); (case h1 => walk_at "hp"); (case h2 => walk_at "ne")) | ((with_reducible refine' My.Kp.at (by with_reducible assumption) ?h1 ?h2); (case h1 => walk_at "hp"); (case h2 => walk_at "ne")) | ((with_reducible refine' My.Same.at (by with_reducible assumption) ?h1); (case h1 => walk_at "hp")))
local macro_rules | `(tactic| walk_at "sq") => `(tactic| first | with_reducible assumption | exact SqL.of (by walk_at "hp") | exact SqT.of (by walk_at "hp") | ((with_reducible refine' My.SqT.upd ?h1 (by with_reducible assumption)); (case h1 => walk_at "sq")) | ((with_reducible refine' My.SqL.upd ?h1 (by with_reducible assumption)); (case h1 => walk_at "sq")) | ((with_reducible refine' Same.seq (by with_reducible assumption) ?h1); (case h1 => walk_at "sq")) | ((with_reducible refine' My.SqT.same ?h1 (by with_reducible assumption)); (case h1 => walk_at "sq")) | ((with_reducible refine' My.SqT.kp ?h1 (by with_reducible assumption) ?h2); (case h1 => walk_at "sq"); (case h2 => walk_at "bx1")) | ((with_reducible refine' My.SqL.kp ?h1 (by with_reducible assumption) ?h2); (case h1 => walk_at "sq"); (case h2 => walk_at "ne")))
local macro_rules | `(tactic| walk_at "sd") => `(tactic| first | assumption | omega | decide | (refine ⟨?_, ?_⟩ <;> (first | omega | decide)) | (refine Or.inl ⟨?_, ?_⟩ <;> (first | omega | decide)) | (refine Or.inr ⟨?_, ?_⟩ <;> (first | omega | decide)) | (refine ⟨?_, ?_, ?_⟩ <;> (first | omega | decide)))
local macro_rules | `(tactic| walk_at "ps") => `(tactic| first
  | with_reducible refine r_seq ?_ | with_reducible refine r_asg ?_ | with_reducible refine r_op ?_ | with_reducible refine r_cons ?_ | with_reducible refine r_nil ?_ | with_reducible refine r_c ?_
  | with_reducible refine' r_var rfl ?_ | with_reducible refine r_gname ?_ | with_reducible refine r_cb ?_ | with_reducible refine r_I0 ?_ | with_reducible refine r_ret ?_ | with_reducible refine r_ifS ?_ | with_reducible refine r_test ?_ | with_reducible refine r_B ?_
  | with_reducible refine r_next ?_ | with_reducible refine r_drop ?_ | with_reducible refine r_if ?_ | with_reducible refine r_un ?_ | with_reducible refine r_U ?_ | with_reducible refine r_gsub ?_ | with_reducible refine r_tup ?_ | with_reducible refine r_lst ?_ | with_reducible refine r_bm ?_
  | with_reducible refine r_cal ?_ | with_reducible refine r_not ?_ | with_reducible refine r_and ?_ | with_reducible refine r_or ?_ | with_reducible refine r_andV ?_ | with_reducible refine r_orV ?_ | with_reducible refine r_notV ?_
  | with_reducible refine r_abs ?_ | with_reducible refine r_intI ?_ | with_reducible refine r_intB ?_ | with_reducible refine r_m1 ?_ | with_reducible refine r_slice ?_ | with_reducible refine r_part ?_ | with_reducible refine r_nopart ?_
  | with_reducible refine r_gcons ?_ | with_reducible refine r_gnil ?_
  | with_reducible refine r_par ?_ | with_reducible refine r_par3 ?_ | with_reducible refine r_ex2 ?_ | with_reducible refine r_ex3 ?_
  | with_reducible refine r_isN ?_ | with_reducible refine r_notN ?_
  | with_reducible refine r_iZipA ?_
  | with_reducible refine r_dget ?_ | with_reducible refine r_dget2 ?_ | with_reducible refine r_iKeys ?_ | with_reducible refine r_dput ?_
  | with_reducible refine r_for ?_ | with_reducible refine r_lc ?_ | with_reducible refine r_iList ?_ | with_reducible refine r_iTup ?_ | with_reducible refine r_iRng1 ?_ | with_reducible refine r_iEnum ?_ | with_reducible refine r_orT ?_ | with_reducible refine r_yes ?_ | with_reducible refine r_ixSl ?_)
local macro_rules | `(tactic| walk_at "st") => `(tactic| first
  | walk_at "ps"
  | ((with_reducible refine' r_ixL ?h1 ?h2 ?_); (case h1 => walk_at "sq"); (case h2 => rfl))
  | ((with_reducible refine' r_setL ?h1 ?h2 ?_); (case h1 => walk_at "hp"); (case h2 => rfl))
  | ((with_reducible refine' r_I ?h1 ?_); (case h1 => walk_at "sd"))
  | ((with_reducible refine' r_eq ?h1 ?_); (case h1 => rfl)) | ((with_reducible refine' r_ne ?h1 ?_); (case h1 => rfl))
  | ((with_reducible refine' r_lenL ?h1 ?_); (case h1 => walk_at "sq")) | ((with_reducible refine' r_lenT ?h1 ?_); (case h1 => walk_at "sq")) | ((with_reducible refine' r_lenD ?h1 ?_); (case h1 => walk_at "hp"))
  | ((with_reducible refine' r_slL ?h1 ?_); (case h1 => walk_at "sq"); intro _ _)
  | ((with_reducible refine' r_append ?h1 ?h2 ?_); (case h1 => walk_at "hp"); (case h2 => exact szl (by first | omega | (simp; omega))))
  | ((with_reducible refine' r_gtup ?h1 ?h2 ?_); (case h1 => walk_at "sq"); (case h2 => rfl))
  | ((with_reducible refine' r_cat ?h1 ?h2 ?h3 ?_); (case h1 => walk_at "hp"); (case h2 => walk_at "hp"); (case h3 => exact sz (by first | omega | (simp; omega))); intro _ _)
  | ((with_reducible refine' r_wLst ?h1 ?_); (case h1 => walk_at "sq")) | ((with_reducible refine' r_wTup ?h1 ?_); (case h1 => walk_at "sq"))
  | ((with_reducible refine' r_wRng ?h1 ?_); (case h1 => walk_at "sd"))
  | ((with_reducible refine' r_truL ?h1 ?_); (case h1 => walk_at "sq"))
  | ((with_reducible refine' r_list (Or.inl ?h1) ?_); (case h1 => walk_at "sq"); intro _ _) | ((with_reducible refine' r_list (Or.inr ?h1) ?_); (case h1 => walk_at "sq"); intro _ _)
  | ((with_reducible refine' r_tupL ?h1 ?_); (case h1 => walk_at "sq"); intro _ _) | ((with_reducible refine' r_tupT ?h1 ?_); (case h1 => walk_at "sq"))
  | ((with_reducible refine' r_disp ?h1 ?_); (case h1 => exact Nat.le_of_ble_eq_true rfl); intro _ _)
  | ((with_reducible refine r_dnewK ?_); intro _ _)
  | ((with_reducible refine' r_tyL ?h1 ?_); (case h1 => walk_at "sq")) | with_reducible refine r_strV ?_
  | with_reducible refine r_exb ?_ | with_reducible refine r_exi ?_ | with_reducible refine r_exr ?_ | with_reducible refine r_exs ?_ | with_reducible refine r_exli ?_)
local macro_rules | `(tactic| walk_at "go") => `(tactic| repeat walk_at "st")
local macro_rules | `(tactic| walk_at "in") => `(tactic| dsimp only [noxK, cxK, L2.start, List.map_cons, List.map_nil, List.length_cons, List.length_nil, Nat.reduceAdd, Nat.reduceSub, List.replicate, List.cons_append, List.nil_append])

section
variable {P : Program} {w : World} {K : PySem.W.Frag} {mg : Str → Option Value} {base : Heap} {L : Nat → Addr}
abbrev sRight : Stmt := top 30
theorem scRight : FnScope ["_law_box_here", "_law_some", "_law_names_here", "_law_far", "_law_ring_so", "_law_line_so", "_law_row"] ["_law_box_here"] (defScope sRight) := ⟨rfl, rfl, rfl, by decide +kernel, rfl, by decide +kernel, by decide +kernel⟩
def sL (k : Str) (n : Nat) : PyData := .list (List.replicate n (.str k))
theorem eqv_sL (k : Str) (n : Nat) : PyData.eqv (sL k n) (sL k n) = true := by
  show PyData.eqvAll (List.replicate n (PyData.str k)) (List.replicate n (PyData.str k)) = true
  induction n with
  | zero => rfl
  | succ n ih =>
    rw [List.replicate_succ]
    show ((k == k) && PyData.eqvAll (List.replicate n (PyData.str k)) (List.replicate n (PyData.str k))) = true
    rw [ih, Bool.and_true]
    exact beq_self_eq_true k
theorem shaped_sL {k : Str} (h : KindS k) (n : Nat) : SeqAt.shaped (sL k n) = true := by
  have e1 : (sL k n).canLay0 = true := by
    unfold sL
    unfold PyData.canLay0
    induction n with
    | zero => rfl
    | succ n ih =>
      rw [List.replicate_succ]
      show (PyData.strOk k && PyData.canLayAll0 (List.replicate n (PyData.str k))) = true
      rw [ih, Bool.and_true]
      exact strOk_kind h
  have e2 : PyData.depthAll (List.replicate n (PyData.str k)) = 0 := by
    induction n with
    | zero => rfl
    | succ n ih =>
      rw [List.replicate_succ]
      show max 0 (PyData.depthAll (List.replicate n (PyData.str k))) = 0
      rw [ih (by
        unfold sL PyData.canLay0 at e1 ⊢
        rw [List.replicate_succ] at e1
        exact (Bool.and_eq_true_iff.mp (show (PyData.strOk k && PyData.canLayAll0 (List.replicate n (PyData.str k))) = true from e1)).2)]
      rfl
  unfold SeqAt.shaped
  rw [e1, Bool.true_and]
  refine decide_eq_true ?_
  show PyData.depthAll (List.replicate n (PyData.str k)) + 1 ≤ 64
  rw [e2]
  decide
theorem dp_sL {K : PySem.W.Frag} {H : Hp} {a : Addr} {k : Str} {n : Nat} (h : H a = some (.lst (List.replicate n (.str k)))) : Dp K H (.ref a) (sL k n) := by
  refine .lst (SqL.of h) ?_
  clear h
  induction n with
  | zero => exact .nil
  | succ n ih => exact .cons (.str k) ih
theorem r_xd0 {K : PySem.W.Frag} {f : Str} {te : TE} {σ : L2.St} {H : Hp} {Q : VK} (h : te σ H fun x H1 => ∃ (a C : Addr) (fs : List (Str × V)) (v : V), x = .ref a ∧ Er H1 a C fs ∧ XfC K C ∧ PySem.W.findIn K (.ref C) f = some none ∧ fs.lookup f = some v ∧ Q v H1) : tXd K f te σ H Q := h
theorem r_mk1 {C : Addr} {f : Str} {t : TA} {σ : L2.St} {H : Hp} {Q : VK} (h : t σ H fun vs H1 => ∃ y, vs = [y] ∧ ∀ a, H1 a = none → ∀ H', Same H1 H' → Er H' a C [(f, y)] → Q (.ref a) H') : tE1 C f t σ H Q := h
theorem sm_tupF {K : PySem.W.Frag} {n : Nat} {H : Hp} {a b : Addr} {ws : List Str} (h1 : H a = some (.tup (ws.map V.str))) (h2 : H b = some (.tup (ws.map V.str))) (hl : ws.length ≤ 1000) : Sm K (n + 2) (.ref a) (.ref b) H := by
  refine Or.inr (Or.inr ⟨a, b, _, _, rfl, rfl, h1, h2, rfl, by rw [List.length_map]; exact hl, fun i u v hu hv => ?_⟩)
  rw [hu] at hv
  cases hv
  obtain ⟨c, rfl, _⟩ := map_some hu
  exact Or.inl ⟨rfl, Or.inr (Or.inr (Or.inr ⟨_, rfl⟩))⟩
theorem sm_two {K : PySem.W.Frag} {n : Nat} {H : Hp} {a b : Addr} {x y x' y' : V} (h1 : H a = some (.lst [x, y])) (h2 : H b = some (.lst [x', y'])) (g1 : Sm K n x x' H) (g2 : Sm K n y y' H) : Sm K (n + 1) (.ref a) (.ref b) H := by
  refine Or.inr (Or.inl ⟨a, b, _, _, rfl, rfl, h1, h2, rfl, by simp, fun i u v hu hv => ?_⟩)
  match i, hu, hv with
  | 0, hu, hv => cases hu; cases hv; exact g1
  | 1, hu, hv => cases hu; cases hv; exact g2
  | n + 2, hu, hv => simp at hu
theorem old_row {L : Nat → Addr} {Hx : Hp} {e t : Addr} {n : Nat} {fs : List (Str × V)} (he : Er Hx e (L n) fs) (ht : Hx t = none) : RwA L (upd Hx t (.tup [.ref e, .int (n : Int)])) (.ref t) (n, fs) ∧ Same Hx (upd Hx t (.tup [.ref e, .int (n : Int)])) := by
  have s : Same Hx (upd Hx t (.tup [.ref e, .int (n : Int)])) := fun c o h => upd_at h (ne_of_none h ht)
  exact ⟨⟨t, e, rfl, upd_same, he.same s⟩, s⟩
theorem new_row {L : Nat → Addr} {Hx : Hp} {e t : Addr} {n : Nat} (he : Hx e = none) (ht : (upd Hx e (ExD (.ref (L n)) none e)) t = none) : RwA L (upd (upd Hx e (ExD (.ref (L n)) none e)) t (.tup [.ref e, .int (n : Int)])) (.ref t) (n, []) ∧ Same Hx (upd (upd Hx e (ExD (.ref (L n)) none e)) t (.tup [.ref e, .int (n : Int)])) := by
  have s1 : Same Hx (upd Hx e (ExD (.ref (L n)) none e)) := fun c o h => upd_at h (ne_of_none h he)
  obtain ⟨r, s2⟩ := old_row (L := L) (n := n) (fs := []) ⟨none, upd_same, .inl ⟨rfl, rfl⟩⟩ ht
  exact ⟨r, fun c o h => s2 _ _ (s1 _ _ h)⟩
def k5 (tr : Addr) : List (Nat × List (Str × V)) := [(2, [("ring", .ref tr)]), (7, []), (10, []), (11, []), (12, [])]
def k3 (z : Int) : List (Nat × List (Str × V)) := [(13, [("number", .int (ab z))]), (14, []), (15, [])]
theorem all16 (k : Str) (z y : Int) (tr : Addr) : ∀ r ∈ (kk k z ++ k5 tr) ++ k3 y, r.1 < 16 := by
  intro r hr
  simp only [kk, k5, k3, List.mem_append, List.mem_cons, List.not_mem_nil, or_false] at hr
  rcases hr with ((rfl | rfl | rfl | rfl | rfl | rfl | rfl | rfl) | (rfl | rfl | rfl | rfl | rfl)) | (rfl | rfl | rfl) <;> simp
/-- every row of kk has its kind -/
theorem kk_kind {k : Str} {z : Int} {i : Nat} {r : Nat × List (Str × V)} (h : (kk k z)[i]? = some r) : r.1 < 16 ∧ r.2.lookup ("kind" : Str) = some (V.str k) := by
  have := List.mem_of_getElem? h
  simp only [kk, List.mem_cons, List.not_mem_nil, or_false] at this
  rcases this with rfl | rfl | rfl | rfl | rfl | rfl | rfl | rfl <;> exact ⟨by simp, rfl⟩
def spRight : Sp := fun vs H Q _ => ∃ (a : Addr), vs = [.ref a] ∧ Bx H a 1000 ∧ ∀ H', Kp a H H' → Q (.bl true) H'
theorem ok_right {f : Addr} {fd : FuncData} (Fd : Fun K "_law_right" "_law_right" sRight f fd) (T : Txt K mg) (Y : EX K mg L) (O : OX P w K mg base L)
    (D7 : XN K mg (L 7) "NoRegret" bmV "ValueError.__new__")
    (D10 : XN K mg (L 10) "Doubted" bmV "ValueError.__new__")
    (D11 : XN K mg (L 11) "Unexplained" bmV "ValueError.__new__")
    (D12 : XN K mg (L 12) "BadText" bmV "ValueError.__new__")
    (D14 : XN K mg (L 14) "NoDeed" bmL "LookupError.__new__")
    (D15 : XN K mg (L 15) "Nothing" bmZ "ZeroDivisionError.__new__")
    (Cs : Cal P w K mg base CX0 3 "_law_same" ["_law_got", "_law_due"] (spSame K 3)) (Cn : Cal P w K mg base CX0 3 "_law_names" ["_law_box_here", "_law_some"] spNames) (Co : Cal P w K mg base CX0 2 "_law_of" ["_law_box_here", "_law_some"] spOf) (Ct : Cal P w K mg base CX0 1 "_law_take" ["_law_box_here", "_law_below"] spTake)
    (Ck : Cal P w K mg base CX0 3 "_law_of_kind" ["_law_box_here", "_law_own", "_law_far"] (spOfKind L)) (Cp : Cal P w K mg base CX0 3 "_law_place" ["_law_made", "_law_place_here"] (spPlace L)) (Cc : Cal P w K mg base CX0 3 "_law_caught" ["_law_own", "_law_far"] spCaught) : FnOk P w K mg base CX0 7 f fd ["_law_box_here"] spRight := by
  refine Fd.ok scRight (fun vs H Q E h => ?_) (fun cdv A outer s H vs Q E hr h => ?_)
  · obtain ⟨a, rfl, _⟩ := h
    rfl
  · obtain ⟨a, rfl, hb, q⟩ := h
    refine ⟨_, (pss_cons (ps_asg (pe_tup (pa_cons (pe_cal Cn (hr.mono (by decide)) pass0 (pa_cons (pv 0) (pa_cons pe_int pa_nil))) (pa_cons (pe_op op_sub (pe_cal Ct (hr.mono (by decide)) pass0 (pa_cons (pv 0) (pa_cons (pe_op op_pow pe_int pe_int) pa_nil))) (pe_cal Co (hr.mono (by decide)) pass0 (pa_cons (pv 0) (pa_cons (pe_lst (pa_cons pe_int (pa_cons (pe_op op_pow pe_int pe_int) pa_nil))) pa_nil)))) pa_nil))) (pg_tup rfl (pgs_cons (pg_name (i := 2) scRight.nd rfl (Or.inr rfl)) (pgs_cons (pg_name (i := 3) scRight.nd rfl (Or.inl rfl)) pgs_nil))))
  (pss_cons (ps_set (i := 1) scRight.nd rfl (Or.inl rfl) (pe_cal Ck (hr.mono (by decide)) pass0 (pa_cons (pv 0) (pa_cons (pe_ix ix_list (pv 2) pe_int (fun _ _ => rfl)) (pa_cons (pv 3) pa_nil)))))
  (pss_cons (ps_if (PW.pt (pw_or (pt_cmpR (op_eqLen (Nat.lt_of_le_of_lt (Nat.le_add_right _ 64) (hu64 hr))) (pv 1) (pe_lst pa_nil) (nomark _)) (pw_or1 (pt_cmpR (op_neD (hu64 hr)) (pe_lc (own := [("_law_row", 6)]) (g := gName 6) (tt := tYes) rfl scRight.nd (pi_list (pv 1)) (blkOk_by (N := ["_law_box_here", "_law_some", "_law_names_here", "_law_far", "_law_ring_so", "_law_line_so", "_law_row"]) (sc := defScope sRight) (by decide +kernel)) (fun _ _ _ _ _ => (pg_name (i := 6) scRight.nd rfl (Or.inl rfl))) (fun _ _ _ _ _ => pts_nil) (fun _ _ _ _ _ => (pe_xd K (pe_ix (ixK (r := rIxT) K ix_tup) (pv 6) pe_int (fun _ _ => rfl))))) (pe_lc (own := [("_law_row", 6)]) (g := gName 6) (tt := tYes) rfl scRight.nd (pi_list (pv 1)) (blkOk_by (N := ["_law_box_here", "_law_some", "_law_names_here", "_law_far", "_law_ring_so", "_law_line_so", "_law_row"]) (sc := defScope sRight) (by decide +kernel)) (fun _ _ _ _ _ => (pg_name (i := 6) scRight.nd rfl (Or.inl rfl))) (fun _ _ _ _ _ => pts_nil) (fun _ _ _ _ _ => (pe_ix (ixK (r := rIxL) K ix_list) (pv 2) pe_int (fun _ _ => rfl)))) (nomark _)))))
  (pss_one (ps_ret pe_bl))
  pss_nil)
  (pss_cons (ps_par (i := 4) (j := 5) rfl scRight.nd rfl rfl (by decide) rfl rfl (pa_cons (pe_e1 O.oRinged (hr.mono (by decide)) (pa_cons (pe_callTy c_tupL (by rfl) T.tuple (by decide +kernel) (pa_cons (pv 2) pa_nil)) pa_nil)) (pa_cons (pe_e1K O.oBadLine (hr.mono (by decide)) (pk_cons (pe_callB c_abs (by rfl) T.abs (by decide +kernel) (pa_cons (pv 3) pa_nil)) pk_nil)) pa_nil)) (by rfl))
  (pss_cons (ps_if (pt_not (pt_val (pe_cal Cs (hr.mono (by decide)) pass0 (pa_cons (pe_lst (pa_cons (pe_xd K (pv 4)) (pa_cons (pe_xd K (pe_e1K O.oRinged (hr.mono (by decide)) (pk_cons (pe_tup (pa_cons (pe_ix ix_list (pv 2) pe_int (fun _ _ => rfl)) pa_nil)) pk_nil))) pa_nil))) (pa_cons (pe_lst (pa_cons (pe_callTy c_tupL (by rfl) T.tuple (by decide +kernel) (pa_cons (pv 2) pa_nil)) (pa_cons (pe_tup (pa_cons (pe_ix ix_list (pv 2) pe_int (fun _ _ => rfl)) pa_nil)) pa_nil))) pa_nil)))))
  (pss_one (ps_ret pe_bl))
  pss_nil)
  (pss_cons (ps_if (pt_not (pt_val (pe_cal Cs (hr.mono (by decide)) pass0 (pa_cons (pe_lst (pa_cons (pe_xd K (pv 5)) (pa_cons (pe_xd K (pe_e1 O.oBadLine (hr.mono (by decide)) (pa_cons pe_int pa_nil))) pa_nil))) (pa_cons (pe_lst (pa_cons (pe_callB c_abs (by rfl) T.abs (by decide +kernel) (pa_cons (pv 3) pa_nil)) (pa_cons pe_int pa_nil))) pa_nil)))))
  (pss_one (ps_ret pe_bl))
  pss_nil)
  (pss_cons (ps_set (i := 1) scRight.nd rfl (Or.inl rfl) (pe_op op_cat (pv 1) (pe_lst (pa_cons (pe_tup (pa_cons (pv 4) (pa_cons pe_int pa_nil))) (pa_cons (pe_tup (pa_cons (pe_mk0 F.excBase_ValueError D7.q D7.g D7.k (by rfl)) (pa_cons pe_int pa_nil))) (pa_cons (pe_tup (pa_cons (pe_mk0 F.excBase_ValueError D10.q D10.g D10.k (by rfl)) (pa_cons pe_int pa_nil))) (pa_cons (pe_tup (pa_cons (pe_mk0 F.excBase_ValueError D11.q D11.g D11.k (by rfl)) (pa_cons pe_int pa_nil))) (pa_cons (pe_tup (pa_cons (pe_mk0 F.excBase_ValueError D12.q D12.g D12.k (by rfl)) (pa_cons pe_int pa_nil))) pa_nil))))))))
  (pss_cons (ps_set (i := 1) scRight.nd rfl (Or.inl rfl) (pe_op op_cat (pv 1) (pe_lst (pa_cons (pe_tup (pa_cons (pv 5) (pa_cons pe_int pa_nil))) (pa_cons (pe_tup (pa_cons (pe_mk0 F.excBase_LookupError D14.q D14.g D14.k (by rfl)) (pa_cons pe_int pa_nil))) (pa_cons (pe_tup (pa_cons (pe_mk0 F.excBase_ZeroDivisionError D15.q D15.g D15.k (by rfl)) (pa_cons pe_int pa_nil))) pa_nil))))))
  (pss_one (ps_ret (pe_and (pe_callB (cr_all rfl) (by rfl) T.all (by decide +kernel) (pa_cons (pe_lc (own := [("_law_row", 6)]) (g := gName 6) (tt := tYes) rfl scRight.nd (pi_list (pv 1)) (blkOk_by (N := ["_law_box_here", "_law_some", "_law_names_here", "_law_far", "_law_ring_so", "_law_line_so", "_law_row"]) (sc := defScope sRight) (by decide +kernel)) (fun _ _ _ _ _ => (pg_name (i := 6) scRight.nd rfl (Or.inl rfl))) (fun _ _ _ _ _ => pts_nil) (fun _ _ _ _ _ => (pe_cal Cp (hr.mono (by decide)) pass0 (pa_cons (pe_ix (ixK (r := rIxT) K ix_tup) (pv 6) pe_int (fun _ _ => rfl)) (pa_cons (pe_ix (ixK (r := rIxT) K ix_tup) (pv 6) pe_int (fun _ _ => rfl)) pa_nil))))) pa_nil)) (pe_one (pe_cal Cc (hr.mono (by decide)) pass0 (pa_cons (pe_ix ix_list (pv 2) pe_int (fun _ _ => rfl)) (pa_cons (pe_callB c_abs (by rfl) T.abs (by decide +kernel) (pa_cons (pv 3) pa_nil)) pa_nil))))))))))))))), ?_⟩
    walk_at "in"
    walk_at "go"
    refine ⟨a, 900, 4, rfl, by decide, hb.mono (by decide), fun l ws H1 hl lw nw kw hl1 hb1 k1 => ?_⟩
    walk_at "go"
    have nal : a ≠ l := hb.ne hl
    obtain ⟨w0, w1, w2, w3, rfl⟩ : ∃ w0 w1 w2 w3, ws = [w0, w1, w2, w3] := by
      match ws, lw with
      | [w0, w1, w2, w3], _ => exact ⟨w0, w1, w2, w3, rfl⟩
    have kw0 : KindS w0 := kw w0 (by simp)
    refine ⟨a, 899, _, rfl, hb1.mono (by decide), by decide, by decide, fun d H2 d0 d1 hb2 k2 => ?_⟩
    walk_at "go"
    rename_i pl hpl
    refine ⟨a, pl, 898, _, rfl, by walk_at "bx", upd_same, Ne.symm (hb2.ne hpl), by simp, by simp, fun v j H3 hv hb3 k3 => ?_⟩
    obtain ⟨m, rfl⟩ : ∃ m : Int, v = .int m := by
      have := List.mem_of_getElem? hv
      simp at this
      rcases this with z | z
      · exact ⟨_, z⟩
      · exact ⟨_, z⟩
    walk_at "go"
    rename_i tp htp
    obtain ⟨far, efar⟩ : ∃ far, far = d - m := ⟨_, rfl⟩
    have hl2 := k2 _ _ hl1 (Ne.symm nal)
    have npl : l ≠ pl := ne_of_none hl2 hpl
    have hl3 : H3 l = some (.lst ([w0, w1, w2, w3].map V.str)) := k3 _ _ (by rw [upd_ne npl]; exact hl2) (Ne.symm nal)
    have k03 : Kp a H H3 := fun c o e n => k3 _ _ (by have := k2 _ _ (k1 _ _ e n) n; exact upd_at this (ne_of_none this hpl)) n
    rw [← efar]
    have s4 : Same H3 (upd H3 tp (.tup [.ref l, .int far])) := fun c o e => upd_at e (ne_of_none e htp)
    obtain ⟨H4, e4⟩ : ∃ H4, H4 = upd H3 tp (.tup [.ref l, .int far]) := ⟨_, rfl⟩
    rw [← e4] at s4 ⊢
    have hb4 := hb3.same s4
    refine ⟨a, 897, w0, far, rfl, hb4, fun p xs H5 hp5 R5 k5 => ?_⟩
    have hl5 := k5 _ _ (s4 _ _ hl3) (Ne.symm nal)
    have k05 : Kp a H H5 := fun c o e n => k5 _ _ (s4 _ _ (k03 _ _ e n)) n
    clear k5 hb4 e4 s4 htp k03 hl3 npl hl2 efar k3 hb3 hpl hv k2 hb2 hl1 k1 hb1
    walk_at "go"
    rename_i pe hpe
    have lxs : xs.length = 8 := (Paired.len R5).trans rfl
    refine ⟨p, pe, xs, [], rfl, rfl, by walk_at "hp", upd_same, by rw [lxs]; decide, ?_⟩
    have s6 : Same H5 (upd H5 pe (.lst [])) := fun c o e => upd_at e (ne_of_none e hpe)
    obtain ⟨H6, e6⟩ : ∃ H6, H6 = upd H5 pe (.lst []) := ⟨_, rfl⟩
    rw [← e6] at s6 ⊢
    clear e6
    have hl6 := s6 _ _ hl5
    have hp6 := s6 _ _ hp5
    have R6 : Paired (RwA L H6) xs (kk w0 far) := paired_imp (fun x y h => h.same s6) R5
    have k06 : Kp a H H6 := k05.trans (Kp.of s6)
    clear R5 hp5 hl5 k05 s6 hpe
    refine ⟨false, rfl, iteF ?_⟩
    walk_at "go"
    intro D hD
    refine lc_it (walk_list (xs := xs)) (fun i H' => H' D = some (.lst (List.replicate i (V.str w0))) ∧ Same H6 H') ?_ ?_ ?_ ?_
    · exact ⟨upd_same, fun c o e => upd_at e (ne_of_none e hD)⟩
    · rintro i H' _ ⟨_, s7⟩
      exact SqL.of (s7 _ _ hp6)
    · rintro i x _ H7 hi ⟨hD7, s7⟩ ⟨rfl, hx⟩
      obtain ⟨r, hr7, t, ae, rfl, ht, er⟩ := Paired.at R6 hx
      obtain ⟨r16, rk⟩ := kk_kind hr7
      walk_at "go"
      refine ⟨rfl, ?_⟩
      walk_at "go"
      refine iteT ?_
      refine r_xd0 (r_op (r_var rfl (r_c (r_ixT (SqT.of (s7 _ _ ht)) rfl ⟨ae, _, _, _, rfl, er.same s7, Y.f _ r16, Y.n _ r16 _ (by simp), rk, ?_⟩))))
      refine ⟨_, hD7, szl (by rw [List.length_replicate]; omega), ?_, fun c o e => upd_at (s7 _ _ e) (ne_of_none e hD)⟩
      rw [List.replicate_succ']
      exact upd_same
    rintro H7 ⟨hD7, s7⟩
    rw [lxs] at hD7
    have hp7 := s7 _ _ hp6
    have hl7 := s7 _ _ hl6
    have R7 : Paired (RwA L H7) xs (kk w0 far) := paired_imp (fun x y h => h.same s7) R6
    have k07 : Kp a H H7 := k06.trans (Kp.of s7)
    clear s7 R6 hp6 hl6 k06 hD
    walk_at "go"
    intro D2 hD2
    refine lc_it (walk_list (xs := xs)) (fun i H' => H' D2 = some (.lst (List.replicate i (V.str w0))) ∧ Same H7 H') ?_ ?_ ?_ ?_
    · exact ⟨upd_same, fun c o e => upd_at e (ne_of_none e hD2)⟩
    · rintro i H' _ ⟨_, s8⟩
      exact SqL.of (s8 _ _ hp7)
    · rintro i x _ H8 hi ⟨hD8, s8⟩ ⟨rfl, hx⟩
      have hl8 := s8 _ _ hl7
      walk_at "go"
      refine ⟨rfl, ?_⟩
      walk_at "go"
      refine iteT ?_
      walk_at "go"
      refine ⟨_, hD8, szl (by rw [List.length_replicate]; omega), ?_, fun c o e => upd_at (s8 _ _ e) (ne_of_none e hD2)⟩
      rw [List.replicate_succ']
      exact upd_same
    rintro H8 ⟨hD8, s8⟩
    rw [lxs] at hD8
    have hD7' := s8 _ _ hD7
    have hp8 := s8 _ _ hp7
    have hl8 := s8 _ _ hl7
    have R8 : Paired (RwA L H8) xs (kk w0 far) := paired_imp (fun x y h => h.same s8) R7
    have k08 : Kp a H H8 := k07.trans (Kp.of s8)
    refine ⟨_, _, dp_sL hD7', dp_sL hD8, shaped_sL kw0 8, shaped_sL kw0 8, ?_⟩
    rw [eqv_sL]
    clear s8 R7 hp7 hl7 k07 hD2 hD7 hD8 hD7'
    refine ⟨false, rfl, iteF ?_⟩
    walk_at "go"
    refine r_mk1 ?_
    walk_at "go"
    rename_i tr htr
    refine ⟨_, rfl, fun er her H9 s9 er9 => ?_⟩
    have s89 : Same H8 H9 := fun c o e => s9 _ _ (upd_at e (ne_of_none e htr))
    have htr9 := s9 _ _ upd_same
    walk_at "go"
    refine r_mk1 ?_
    walk_at "go"
    refine ⟨_, rfl, fun el hel H10 s10 el10 => ?_⟩
    walk_at "go"
    have htr10 := s10 _ _ htr9
    have er10 := er9.same s10
    have s810 : Same H8 H10 := fun c o e => s10 _ _ (s89 _ _ e)
    have hl10 := s810 _ _ hl8
    have hp10 := s810 _ _ hp8
    have R10 : Paired (RwA L H10) xs (kk w0 far) := paired_imp (fun x y h => h.same s810) R8
    have k010 : Kp a H H10 := k08.trans (Kp.of s810)
    clear s810 s10 s89 s9 htr htr9 er9 her hel hl8 hp8 R8 k08
    refine r_xdv rfl er10 (Y.f 2 (by decide)) (Y.n 2 (by decide) _ (by simp)) rfl ?_
    walk_at "go"
    refine r_xd0 (r_mk1 ?_)
    walk_at "go"
    rename_i t1 ht1
    refine ⟨_, rfl, fun e2 he2 H11 s11 er11 => ⟨e2, L 2, _, _, rfl, er11, Y.f 2 (by decide), Y.n 2 (by decide) _ (by simp), rfl, ?_⟩⟩
    have s1011 : Same H10 H11 := fun c o e => s11 _ _ (upd_at e (ne_of_none e ht1))
    have ht11 := s11 _ _ upd_same
    have hl11 := s1011 _ _ hl10
    have htr11 := s1011 _ _ htr10
    walk_at "go"
    rename_i pA hpA tr2 htr2 t2 ht2 pB hpB
    have ht11' : H11 t1 = some (.tup ([w1].map V.str)) := ht11
    refine ⟨_, _, rfl, sm_two (by walk_at "hp") (by walk_at "hp") (sm_tupF (ws := [w0, w1, w2, w3]) (by walk_at "hp") (by walk_at "hp") (by simp)) (sm_tupF (ws := [w1]) (by walk_at "hp") (by walk_at "hp") (by simp)), fun H12 s12 => ?_⟩
    have s1112 : Same H11 H12 := fun c o e => s12 _ _ (by walk_at "hp")
    have s1012 : Same H10 H12 := fun c o e => s1112 _ _ (s1011 _ _ e)
    walk_at "go"
    refine iteF ?_
    have el12 := el10.same s1012
    have er12 := er10.same s1012
    have hp12 := s1012 _ _ hp10
    have hl12 := s1012 _ _ hl10
    have R12 : Paired (RwA L H12) xs (kk w0 far) := paired_imp (fun x y h => h.same s1012) R10
    have k012 : Kp a H H12 := k010.trans (Kp.of s1012)
    clear s1012 s1112 s12 ht11' ht11 htr11 hl11 s1011 er11 s11 he2 ht1 k010 R10 hp10 hl10 er10 htr10 el10 hpA htr2 ht2 hpB
    walk_at "go"
    refine r_xdv rfl el12 (Y.f 13 (by decide)) (Y.n 13 (by decide) _ (by simp)) rfl ?_
    walk_at "go"
    refine r_xd0 (r_mk1 ?_)
    walk_at "go"
    refine ⟨_, rfl, fun e3 he3 H13 s13 er13 => ⟨e3, L 13, _, _, rfl, er13, Y.f 13 (by decide), Y.n 13 (by decide) _ (by simp), rfl, ?_⟩⟩
    walk_at "go"
    rename_i pA hpA pB hpB
    refine ⟨_, _, rfl, sm_flat (xs := [.int (ab far), .int 3]) (by walk_at "hp") (by walk_at "hp") (by simp) (fun x hx => ?_), fun H14 s14 => ?_⟩
    · simp at hx
      rcases hx with rfl | rfl
      · exact .inr (.inr (.inl ⟨_, rfl⟩))
      · exact .inr (.inr (.inl ⟨_, rfl⟩))
    have s1214 : Same H12 H14 := fun c o e => s14 _ _ (by have := s13 _ _ e; walk_at "hp")
    walk_at "go"
    refine iteF ?_
    have el14 := el12.same s1214
    have er14 := er12.same s1214
    have hp14 := s1214 _ _ hp12
    have hl14 := s1214 _ _ hl12
    have R14 : Paired (RwA L H14) xs (kk w0 far) := paired_imp (fun x y h => h.same s1214) R12
    have k014 : Kp a H H14 := k012.trans (Kp.of s1214)
    clear s1214 s14 er13 s13 he3 hpA hpB k012 R12 hp12 hl12 er12 el12
    walk_at "go"
    rename_i t2 ht2
    obtain ⟨r2, s15⟩ : RwA L (upd H14 t2 (.tup [.ref er, .int 2])) (.ref t2) (2, [("ring", .ref tr)]) ∧ Same H14 (upd H14 t2 (.tup [.ref er, .int 2])) := old_row er14 ht2
    obtain ⟨H15, x15⟩ : ∃ Hn, Hn = upd H14 t2 (.tup [.ref er, .int 2]) := ⟨_, rfl⟩
    rw [← x15] at r2 s15 ⊢
    clear x15 ht2
    intro e7 he7
    walk_at "go"
    rename_i t7 ht7
    obtain ⟨r7, s16⟩ : RwA L (upd (upd H15 e7 (ExD (.ref (L 7)) none e7)) t7 (.tup [.ref e7, .int 7])) (.ref t7) (7, []) ∧ Same H15 (upd (upd H15 e7 (ExD (.ref (L 7)) none e7)) t7 (.tup [.ref e7, .int 7])) := new_row he7 ht7
    obtain ⟨H16, x16⟩ : ∃ Hn, Hn = upd (upd H15 e7 (ExD (.ref (L 7)) none e7)) t7 (.tup [.ref e7, .int 7]) := ⟨_, rfl⟩
    rw [← x16] at r7 s16 ⊢
    clear x16 he7 ht7
    intro e10 he10
    walk_at "go"
    rename_i t10 ht10
    obtain ⟨r10, s17⟩ : RwA L (upd (upd H16 e10 (ExD (.ref (L 10)) none e10)) t10 (.tup [.ref e10, .int 10])) (.ref t10) (10, []) ∧ Same H16 (upd (upd H16 e10 (ExD (.ref (L 10)) none e10)) t10 (.tup [.ref e10, .int 10])) := new_row he10 ht10
    obtain ⟨H17, x17⟩ : ∃ Hn, Hn = upd (upd H16 e10 (ExD (.ref (L 10)) none e10)) t10 (.tup [.ref e10, .int 10]) := ⟨_, rfl⟩
    rw [← x17] at r10 s17 ⊢
    clear x17 he10 ht10
    intro e11 he11
    walk_at "go"
    rename_i t11 ht11
    obtain ⟨r11, s18⟩ : RwA L (upd (upd H17 e11 (ExD (.ref (L 11)) none e11)) t11 (.tup [.ref e11, .int 11])) (.ref t11) (11, []) ∧ Same H17 (upd (upd H17 e11 (ExD (.ref (L 11)) none e11)) t11 (.tup [.ref e11, .int 11])) := new_row he11 ht11
    obtain ⟨H18, x18⟩ : ∃ Hn, Hn = upd (upd H17 e11 (ExD (.ref (L 11)) none e11)) t11 (.tup [.ref e11, .int 11]) := ⟨_, rfl⟩
    rw [← x18] at r11 s18 ⊢
    clear x18 he11 ht11
    intro e12 he12
    have hp18 : H18 p = some (.lst xs) := s18 _ _ (s17 _ _ (s16 _ _ (s15 _ _ hp14)))
    walk_at "go"
    rename_i t12 ht12 pl hpl q1 hq1 t13 ht13
    obtain ⟨r12, s19⟩ : RwA L (upd (upd H18 e12 (ExD (.ref (L 12)) none e12)) t12 (.tup [.ref e12, .int 12])) (.ref t12) (12, []) ∧ Same H18 (upd (upd H18 e12 (ExD (.ref (L 12)) none e12)) t12 (.tup [.ref e12, .int 12])) := new_row he12 ht12
    obtain ⟨H19, x19⟩ : ∃ Hn, Hn = upd (upd H18 e12 (ExD (.ref (L 12)) none e12)) t12 (.tup [.ref e12, .int 12]) := ⟨_, rfl⟩
    rw [← x19] at r12 s19 hpl hq1 ht13 ⊢
    clear x19 he12 ht12
    have s20 : Same H19 (upd (upd H19 pl (.lst [.ref t2, .ref t7, .ref t10, .ref t11, .ref t12])) q1 (.lst (xs ++ [.ref t2, .ref t7, .ref t10, .ref t11, .ref t12]))) := fun c o e => by
      have := upd_at e (ne_of_none e hpl) (o := .lst [.ref t2, .ref t7, .ref t10, .ref t11, .ref t12])
      exact upd_at this (ne_of_none this hq1)
    obtain ⟨H20, x20⟩ : ∃ Hn, Hn = upd (upd H19 pl (.lst [.ref t2, .ref t7, .ref t10, .ref t11, .ref t12])) q1 (.lst (xs ++ [.ref t2, .ref t7, .ref t10, .ref t11, .ref t12])) := ⟨_, rfl⟩
    have hq20 : H20 q1 = some (.lst (xs ++ [.ref t2, .ref t7, .ref t10, .ref t11, .ref t12])) := by rw [x20]; exact upd_same
    rw [← x20] at s20 ht13 ⊢
    clear x20 hpl hq1
    have s1420 : Same H14 H20 := fun c o e => (s20 _ _ (s19 _ _ (s18 _ _ (s17 _ _ (s16 _ _ (s15 _ _ e))))))
    obtain ⟨r13, s21⟩ : RwA L (upd H20 t13 (.tup [.ref el, .int 13])) (.ref t13) (13, [("number", .int (ab far))]) ∧ Same H20 (upd H20 t13 (.tup [.ref el, .int 13])) := old_row (el14.same s1420) ht13
    obtain ⟨H21, x21⟩ : ∃ Hn, Hn = upd H20 t13 (.tup [.ref el, .int 13]) := ⟨_, rfl⟩
    rw [← x21] at r13 s21 ⊢
    clear x21 ht13
    intro e14 he14
    walk_at "go"
    rename_i t14 ht14
    obtain ⟨r14, s22⟩ : RwA L (upd (upd H21 e14 (ExD (.ref (L 14)) none e14)) t14 (.tup [.ref e14, .int 14])) (.ref t14) (14, []) ∧ Same H21 (upd (upd H21 e14 (ExD (.ref (L 14)) none e14)) t14 (.tup [.ref e14, .int 14])) := new_row he14 ht14
    obtain ⟨H22, x22⟩ : ∃ Hn, Hn = upd (upd H21 e14 (ExD (.ref (L 14)) none e14)) t14 (.tup [.ref e14, .int 14]) := ⟨_, rfl⟩
    rw [← x22] at r14 s22 ⊢
    clear x22 he14 ht14
    have hq22 := s22 _ _ (s21 _ _ hq20)
    obtain ⟨ys, ey⟩ : ∃ ys : List V, ys = xs ++ [.ref t2, .ref t7, .ref t10, .ref t11, .ref t12] := ⟨_, rfl⟩
    have lys : ys.length = 13 := by rw [ey, List.length_append, lxs]; rfl
    rw [← ey] at hq22 hq20
    intro e15 he15
    walk_at "go"
    rename_i t15 ht15 pl2 hpl2 q2 hq2
    obtain ⟨r15, s23⟩ : RwA L (upd (upd H22 e15 (ExD (.ref (L 15)) none e15)) t15 (.tup [.ref e15, .int 15])) (.ref t15) (15, []) ∧ Same H22 (upd (upd H22 e15 (ExD (.ref (L 15)) none e15)) t15 (.tup [.ref e15, .int 15])) := new_row he15 ht15
    obtain ⟨H23, x23⟩ : ∃ Hn, Hn = upd (upd H22 e15 (ExD (.ref (L 15)) none e15)) t15 (.tup [.ref e15, .int 15]) := ⟨_, rfl⟩
    rw [← x23] at r15 s23 hpl2 hq2 ⊢
    clear x23 he15 ht15
    have s24 : Same H23 (upd (upd H23 pl2 (.lst [.ref t13, .ref t14, .ref t15])) q2 (.lst (ys ++ [.ref t13, .ref t14, .ref t15]))) := fun c o e => by
      have := upd_at e (ne_of_none e hpl2) (o := .lst [.ref t13, .ref t14, .ref t15])
      exact upd_at this (ne_of_none this hq2)
    obtain ⟨H24, x24⟩ : ∃ Hn, Hn = upd (upd H23 pl2 (.lst [.ref t13, .ref t14, .ref t15])) q2 (.lst (ys ++ [.ref t13, .ref t14, .ref t15])) := ⟨_, rfl⟩
    have hq24 : H24 q2 = some (.lst (ys ++ [.ref t13, .ref t14, .ref t15])) := by rw [x24]; exact upd_same
    rw [← x24] at s24 ⊢
    clear x24 hpl2 hq2
    have s1424 : Same H14 H24 := fun c o e => (s24 _ _ (s23 _ _ (s22 _ _ (s21 _ _ (s20 _ _ (s19 _ _ (s18 _ _ (s17 _ _ (s16 _ _ (s15 _ _ e))))))))))
    have hl24 := s1424 _ _ hl14
    have k024 : Kp a H H24 := k014.trans (Kp.of s1424)
    have R24 : Paired (RwA L H24) (ys ++ [.ref t13, .ref t14, .ref t15]) ((kk w0 far ++ k5 tr) ++ k3 far) := by
      rw [ey]
      refine Paired.app (Paired.app (paired_imp (fun x y h => h.same s1424) R14) ?_) ?_
      · exact .cons (RwA.same (RwA.same (RwA.same (RwA.same (RwA.same (RwA.same (RwA.same (RwA.same (RwA.same r2 s16) s17) s18) s19) s20) s21) s22) s23) s24) (.cons (RwA.same (RwA.same (RwA.same (RwA.same (RwA.same (RwA.same (RwA.same (RwA.same r7 s17) s18) s19) s20) s21) s22) s23) s24) (.cons (RwA.same (RwA.same (RwA.same (RwA.same (RwA.same (RwA.same (RwA.same r10 s18) s19) s20) s21) s22) s23) s24) (.cons (RwA.same (RwA.same (RwA.same (RwA.same (RwA.same (RwA.same r11 s19) s20) s21) s22) s23) s24) (.cons (RwA.same (RwA.same (RwA.same (RwA.same (RwA.same r12 s20) s21) s22) s23) s24) .nil))))
      · exact .cons (RwA.same (RwA.same (RwA.same r13 s22) s23) s24) (.cons (RwA.same (RwA.same r14 s23) s24) (.cons (RwA.same r15 s24) .nil))
    clear r2 r7 r10 r11 r12 r13 r14 r15 s15 s16 s17 s18 s19 s20 s21 s22 s23 s24 s1424 R14 hq20 hq22 k014 hl14 hp14 hp18 s1420 el14 er14
    obtain ⟨zs, ez⟩ : ∃ zs : List V, zs = ys ++ [.ref t13, .ref t14, .ref t15] := ⟨_, rfl⟩
    have lzs : zs.length = 16 := by rw [ez, List.length_append, lys]; rfl
    rw [← ez] at hq24 R24
    clear ez lys ey
    intro D hD
    refine lc_it (walk_list (xs := zs)) (fun i H' => H' D = some (.lst ((List.replicate i true).map V.bl)) ∧ Same H24 H') ?_ ?_ ?_ ?_
    · exact ⟨upd_same, fun c o e => upd_at e (ne_of_none e hD)⟩
    · rintro i H' _ ⟨_, s25⟩
      exact SqL.of (s25 _ _ hq24)
    · rintro i x _ H25 hi ⟨hD25, s25⟩ ⟨rfl, hx⟩
      obtain ⟨r, hr7, t, ae, rfl, ht, er⟩ := Paired.at R24 hx
      have r16 := all16 _ _ _ _ r (List.mem_of_getElem? hr7)
      have ht25 := s25 _ _ ht
      walk_at "go"
      refine ⟨rfl, ?_⟩
      walk_at "go"
      refine iteT ?_
      refine r_cal (r_cons (r_op (r_var rfl (r_c (r_ixT (SqT.of ht25) rfl (r_cons (r_op (r_var rfl (r_c (r_ixT (SqT.of ht25) rfl (r_nil ?_)))))))))))
      refine ⟨ae, r.1, r.2, rfl, r16, er.same s25, fun H26 s26 => ?_⟩
      refine ⟨_, s26 _ _ hD25, szl (by rw [List.length_map, List.length_replicate]; omega), ?_, fun c o e => upd_at (s26 _ _ (s25 _ _ e)) (ne_of_none e hD)⟩
      rw [List.replicate_succ', List.map_append]
      exact upd_same
    rintro H25 ⟨hD25, s25⟩
    have hl25 := s25 _ _ hl24
    walk_at "go"
    refine r_all (SqL.of hD25) ?_
    rw [lzs]
    refine ⟨true, rfl, iteT ?_⟩
    walk_at "go"
    exact ⟨w2, _, rfl, fun H26 s26 => q _ (k024.trans (Kp.of fun c o e => s26 _ _ (s25 _ _ e)))⟩
end
end My

namespace My
open PySem L2
local macro_rules | `(tactic| walk_at "bx1") => `(tactic| first | with_reducible assumption | ((with_reducible refine' Bx.upd ?h1 ?h2); (case h1 => walk_at "bx1"); (case h2 => walk_at "ne")) | ((with_reducible refine' Bx.same ?h1 (by with_reducible assumption)); (case h1 => walk_at "bx1")))
local macro_rules | `(tactic| walk_at "bx") => `(tactic| (refine' Bx.mono ?h1 ?h2; (case h1 => walk_at "bx1"); (case h2 => omega)))
local macro_rules | `(tactic| walk_at "ne") => `(tactic| first | with_reducible assumption | exact Ne.symm (by with_reducible assumption) | ((with_reducible refine' ne_of_none ?h1 (by with_reducible assumption)); (case h1 => walk_at "hp")) | ((with_reducible refine' Ne.symm (ne_of_none ?h1 (by with_reducible assumption))); (case h1 => walk_at "hp")) | ((with_reducible refine' Bx.ne ?h1 (by with_reducible assumption)); (case h1 => walk_at "bx1")) | ((with_reducible refine' Ne.symm (Bx.ne ?h1 (by with_reducible assumption))); (case h1 => walk_at "bx1")))
local macro_rules | `(tactic| walk_at "hp") => `(tactic| first | with_reducible assumption | ((with_reducible refine' (upd_same.trans ?h1)); (case h1 => rfl)) | ((with_reducible refine' My.upd_at ?h1 ?h2); (case h1 => walk_at "hp"); (case h2 => walk_at "ne")) | ((with_reducible refine' My.Kp.at (by with_reducible assumption) ?h1 ?h2); (case h1 => walk_at "hp"); (case h2 => walk_at "ne")) | ((with_reducible refine' My.Same.at (by with_reducible assumption) ?h1); (case h1 => walk_at "hp")))
local macro_rules | `(tactic| walk_at "sq") => `(tactic| first | with_reducible assumption | exact SqL.of (by walk_at "hp") | exact SqT.of (by walk_at "hp") | ((with_reducible refine' My.SqT.upd ?h1 (by with_reducible assumption)); (case h1 => walk_at "sq")) | ((with_reducible refine' My.SqL.upd ?h1 (by with_reducible assumption)); (case h1 => walk_at "sq")) | ((with_reducible refine' Same.seq (by with_reducible assumption) ?h1); (case h1 => walk_at "sq")) | ((with_reducible refine' My.SqT.same ?h1 (by with_reducible assumption)); (case h1 => walk_at "sq")) | ((with_reducible refine' My.SqT.kp ?h1 (by with_reducible assumption) ?h2); (case h1 => walk_at "sq"); (case h2 => walk_at "bx1")) | ((with_reducible refine' My.SqL.kp ?h1 (by with_reducible assumption) ?h2); (case h1 => walk_at "sq"); (case h2 => walk_at "ne")))
local macro_rules | `(tactic| walk_at "sd") => `(tactic| first | assumption | omega | decide | (refine ⟨?_, ?_⟩ <;> (first | omega | decide)) | (refine Or.inl ⟨?_, ?_⟩ <;> (first | omega | decide)) | (refine Or.inr ⟨?_, ?_⟩ <;> (first | omega | decide)) | (refine ⟨?_, ?_, ?_⟩ <;> (first | omega | decide)))
local macro_rules | `(tactic| walk_at "ps") => `(tactic| first
  | with_reducible refine r_seq ?_ | with_reducible refine r_asg ?_ | with_reducible refine r_op ?_ | with_reducible refine r_cons ?_ | with_reducible refine r_nil ?_ | with_reducible refine r_c ?_
  | with_reducible refine' r_var rfl ?_ | with_reducible refine r_gname ?_ | with_reducible refine r_cb ?_ | with_reducible refine r_I0 ?_ | with_reducible refine r_ret ?_ | with_reducible refine r_ifS ?_ | with_reducible refine r_test ?_ | with_reducible refine r_B ?_
  | with_reducible refine r_next ?_ | with_reducible refine r_drop ?_ | with_reducible refine r_if ?_ | with_reducible refine r_un ?_ | with_reducible refine r_U ?_ | with_reducible refine r_gsub ?_ | with_reducible refine r_tup ?_ | with_reducible refine r_lst ?_ | with_reducible refine r_bm ?_
  | with_reducible refine r_cal ?_ | with_reducible refine r_not ?_ | with_reducible refine r_and ?_ | with_reducible refine r_or ?_ | with_reducible refine r_andV ?_ | with_reducible refine r_orV ?_ | with_reducible refine r_notV ?_
  | with_reducible refine r_abs ?_ | with_reducible refine r_intI ?_ | with_reducible refine r_intB ?_ | with_reducible refine r_m1 ?_ | with_reducible refine r_slice ?_ | with_reducible refine r_part ?_ | with_reducible refine r_nopart ?_
  | with_reducible refine r_gcons ?_ | with_reducible refine r_gnil ?_
  | with_reducible refine r_par ?_ | with_reducible refine r_par3 ?_ | with_reducible refine r_ex2 ?_ | with_reducible refine r_ex3 ?_
  | with_reducible refine r_isN ?_ | with_reducible refine r_notN ?_
  | with_reducible refine r_iZipA ?_
  | with_reducible refine r_dget ?_ | with_reducible refine r_dget2 ?_ | with_reducible refine r_iKeys ?_ | with_reducible refine r_dput ?_
  | with_reducible refine r_for ?_ | with_reducible refine r_lc ?_ | with_reducible refine r_iList ?_ | with_reducible refine r_iTup ?_ | with_reducible refine r_iRng1 ?_ | with_reducible refine r_iEnum ?_ | with_reducible refine r_orT ?_ | with_reducible refine r_yes ?_ | with_reducible refine r_ixSl ?_)
local macro_rules | `(tactic| walk_at "st") => `(tactic| first
  | walk_at "ps"
  | ((with_reducible refine' r_ixL ?h1 ?h2 ?_); (case h1 => walk_at "sq"); (case h2 => rfl))
  | ((with_reducible refine' r_setL ?h1 ?h2 ?_); (case h1 => walk_at "hp"); (case h2 => rfl))
  | ((with_reducible refine' r_I ?h1 ?_); (case h1 => walk_at "sd"))
  | ((with_reducible refine' r_eq ?h1 ?_); (case h1 => rfl)) | ((with_reducible refine' r_ne ?h1 ?_); (case h1 => rfl))
  | ((with_reducible refine' r_lenL ?h1 ?_); (case h1 => walk_at "sq")) | ((with_reducible refine' r_lenT ?h1 ?_); (case h1 => walk_at "sq")) | ((with_reducible refine' r_lenD ?h1 ?_); (case h1 => walk_at "hp"))
  | ((with_reducible refine' r_slL ?h1 ?_); (case h1 => walk_at "sq"); intro _ _)
  | ((with_reducible refine' r_append ?h1 ?h2 ?_); (case h1 => walk_at "hp"); (case h2 => exact szl (by first | omega | (simp; omega))))
  | ((with_reducible refine' r_gtup ?h1 ?h2 ?_); (case h1 => walk_at "sq"); (case h2 => rfl))
  | ((with_reducible refine' r_cat ?h1 ?h2 ?h3 ?_); (case h1 => walk_at "hp"); (case h2 => walk_at "hp"); (case h3 => exact sz (by first | omega | (simp; omega))); intro _ _)
  | ((with_reducible refine' r_wLst ?h1 ?_); (case h1 => walk_at "sq")) | ((with_reducible refine' r_wTup ?h1 ?_); (case h1 => walk_at "sq"))
  | ((with_reducible refine' r_wRng ?h1 ?_); (case h1 => walk_at "sd"))
  | ((with_reducible refine' r_truL ?h1 ?_); (case h1 => walk_at "sq"))
  | ((with_reducible refine' r_list (Or.inl ?h1) ?_); (case h1 => walk_at "sq"); intro _ _) | ((with_reducible refine' r_list (Or.inr ?h1) ?_); (case h1 => walk_at "sq"); intro _ _)
  | ((with_reducible refine' r_tupL ?h1 ?_); (case h1 => walk_at "sq"); intro _ _) | ((with_reducible refine' r_tupT ?h1 ?_); (case h1 => walk_at "sq"))
  | ((with_reducible refine' r_disp ?h1 ?_); (case h1 => exact Nat.le_of_ble_eq_true rfl); intro _ _)
  | ((with_reducible refine r_dnewK ?_); intro _ _)
  | ((with_reducible refine' r_tyL ?h1 ?_); (case h1 => walk_at "sq")) | with_reducible refine r_strV ?_
  | with_reducible refine r_exb ?_ | with_reducible refine r_exi ?_ | with_reducible refine r_exr ?_ | with_reducible refine r_exs ?_ | with_reducible refine r_exli ?_)
local macro_rules | `(tactic| walk_at "go") => `(tactic| repeat walk_at "st")
local macro_rules | `(tactic| walk_at "in") => `(tactic| dsimp only [noxK, cxK, L2.start, List.map_cons, List.map_nil, List.length_cons, List.length_nil, Nat.reduceAdd, Nat.reduceSub, List.replicate, List.cons_append, List.nil_append])

section
variable {P : Program} {w : World} {K : PySem.W.Frag} {mg : Str → Option Value} {base : Heap} 
abbrev sLaw : Stmt := top 31
theorem scLaw : FnScope ["_law_script", "_law_cells_here", "_law_k"] ["_law_script"] (defScope sLaw) := ⟨rfl, rfl, rfl, by decide +kernel, rfl, by decide +kernel, by decide +kernel⟩
def spLaw (K : PySem.W.Frag) : Sp := fun vs H Q _ => ∃ (a : Addr) (ns : List Int), vs = [.ref a] ∧ SqL K H a (ns.map V.int) ∧ ns.length ≤ 63 ∧ ∀ H', Q (.bl true) H'
theorem ok_law {f : Addr} {fd : FuncData} (F : Fun K "law" "law" sLaw f fd) (T : Txt K mg) (Cc : Cal P w K mg base CX0 1 "_law_cells" ["_law_script", "_law_most_so"] (spCells K)) (Cb : Cal P w K mg base CX0 1 "_law_box" ["_law_script", "_law_k"] (spBox K)) (Cr : Cal P w K mg base CX0 7 "_law_right" ["_law_box_here"] spRight) : FnOk P w K mg base CX0 8 f fd ["_law_script"] (spLaw K) := by
  refine F.ok scLaw (fun vs H Q E h => ?_) (fun cdv A outer s H vs Q E hr h => ?_)
  · obtain ⟨a, ns, rfl, _⟩ := h
    rfl
  · obtain ⟨a, ns, rfl, hx, hl, q⟩ := h
    refine ⟨_, (pss_cons (ps_set (i := 1) scLaw.nd rfl (Or.inr rfl) (pe_cal Cc (hr.mono (by decide)) pass0 (pa_cons (pv 0) (pa_cons pe_int pa_nil))))
  (pss_one (ps_ret (pe_callB (cr_all rfl) (by rfl) T.all (by decide +kernel) (pa_cons (pe_lc (own := [("_law_k", 2)]) (g := gName 2) (tt := tYes) rfl scLaw.nd (pi_range1 rfl T.range (pa_cons (pe_callB c_lenL (by rfl) T.len (by decide +kernel) (pa_cons (pv 1) pa_nil)) pa_nil)) (blkOk_by (N := ["_law_script", "_law_cells_here", "_law_k"]) (sc := defScope sLaw) (by decide +kernel)) (fun _ _ _ _ _ => (pg_name (i := 2) scLaw.nd rfl (Or.inl rfl))) (fun _ _ _ _ _ => pts_nil) (fun _ _ _ _ _ => (pe_cal Cr hr pass0 (pa_cons (pe_cal Cb (hr.mono (by decide)) pass0 (pa_cons (pv 1) (pa_cons (pv 2) pa_nil))) pa_nil)))) pa_nil))))), ?_⟩
    walk_at "in"
    walk_at "go"
    refine ⟨a, ns, rfl, hx, hl, fun p ms H1 hp m1 m3 hp1 s1 => ?_⟩
    walk_at "go"
    refine ⟨by rw [List.length_map]; omega, by rw [List.length_map]; omega, ?_⟩
    intro D hD
    have nDp : D ≠ p := fun z => by rw [z, hp1] at hD; cases hD
    have el : (((ms.map V.int).length : Nat) : Int).toNat = ms.length := by rw [List.length_map]; rfl
    rw [el]
    refine lc_it (walk_range (n := ms.length)) (fun i H' => H' D = some (.lst ((List.replicate i true).map V.bl)) ∧ Same H1 H') ?_ ?_ ?_ ?_
    · exact ⟨upd_same, fun c o e => upd_at e (ne_of_none e hD)⟩
    · intro _ _ _ _
      trivial
    · rintro i _ _ H2 hi ⟨hD2, s2⟩ ⟨rfl, rfl⟩
      walk_at "go"
      refine ⟨rfl, ?_⟩
      walk_at "go"
      refine iteT ?_
      walk_at "go"
      refine ⟨p, ms, i, ?_, SqL.of (s2 _ _ hp1), hi, by omega, fun b H3 hb hb3 s3 => ?_⟩
      · show [V.ref p, V.int (0 + (i : Int))] = _
        rw [Int.zero_add]
      walk_at "go"
      refine ⟨b, rfl, hb3.mono (by decide), fun H4 k4 => ?_⟩
      have keep : ∀ c o, H2 c = some o → H4 c = some o := fun c o e => k4 _ _ (s3 _ _ e) (ne_of_none e hb)
      refine ⟨_, keep _ _ hD2, szl (by rw [List.length_map, List.length_replicate]; omega), ?_, fun c o e => ?_⟩
      · rw [List.replicate_succ', List.map_append]
        exact upd_same
      · exact upd_at (keep _ _ (s2 _ _ e)) (ne_of_none e hD)
    · rintro H2 ⟨hD2, s2⟩
      walk_at "go"
      refine r_all (SqL.of hD2) ?_
      rw [List.all_replicate]
      have e : (if ms.length = 0 then true else id true) = true := by split <;> rfl
      first | rw [e] | skip
      exact q _
end
end My

namespace My
open PySem L2

theorem same0 {P : Program} {w : World} {K : PySem.W.Frag} {mg : Str → Option Value} {base : Heap} {f : Addr} {fd : FuncData} : FnOk P w K mg base CX0 0 f fd ["_law_got", "_law_due"] (spSame K 0) :=
  ⟨fun vs H Q E h => by obtain ⟨x, y, rfl, _⟩ := h; rfl, fun A outer s H args us vs Q E hr e b r h => by obtain ⟨x, y, _, hs, _⟩ := h; exact hs.elim⟩
/-- how an error class reads -/
structure EF (K : PySem.W.Frag) (e : Addr) : Prop where
  hg : PySem.W.findIn K (.ref e) "__getattribute__" = some (some (.builtin "BaseException.__getattribute__"))
  hk : PySem.W.findIn K (.ref e) "__getattr__" = some none
  ha : PySem.W.findIn K (.ref e) "__class__" = some (some (.builtin "object.__class__"))
  sa : PySem.W.findIn K (.ref e) "__setattr__" = some (some (.builtin "object.__setattr__"))
  ty : PySem.W.typeIn K (.ref e) = some (.type "type")
  kp : PySem.W.keepIn K (.ref e) = true
  n1 : PySem.W.findIn K (.ref e) "kind" = some none
  n2 : PySem.W.findIn K (.ref e) "many" = some none
  n3 : PySem.W.findIn K (.ref e) "lacking" = some none
  n4 : PySem.W.findIn K (.ref e) "ring" = some none
  n5 : PySem.W.findIn K (.ref e) "number" = some none
/-- the class object -/
structure LK (K : PySem.W.Frag) (e : Addr) (bm : List Value) (new : String) : Prop where
  ex : ∃ nm q N bs sn sub ab col dd k0 k1 k2 k3 k5, K.lookup e = some (excClassObj nm q e N bs bm true sn sub ab col dd k0 k1 k2 k3 k5 new)
theorem lk_mk {K : PySem.W.Frag} {e : Addr} {bm : List Value} {new : String} {nm q : Str} {N : Addr} {bs : List Value} {sn : List Str} {sub : List Value} {ab : Bool} {col : Option Bool} {dd : Option Addr} {k0 k1 k2 k3 k5 : Option Value} (x : K.lookup e = some (excClassObj nm q e N bs bm true sn sub ab col dd k0 k1 k2 k3 k5 new)) : LK K e bm new := ⟨⟨nm, q, N, bs, sn, sub, ab, col, dd, k0, k1, k2, k3, k5, x⟩⟩
theorem LK.cls {K : PySem.W.Frag} {e : Addr} {bm : List Value} {new : String} (h : LK K e bm new) : ∃ cd, PySem.W.clsIn K e = some cd ∧ cd.mro = .ref e :: bm ∧ cd.hasDict = true := by
  obtain ⟨nm, q, N, bs, sn, sub, ab, col, dd, k0, k1, k2, k3, k5, x⟩ := h.ex
  refine ⟨{ name := nm, bases := bs, mro := .ref e :: bm, ns := N, qualname := q, hasDict := true, slotNames := sn, subclasses := sub, abstract := ab, collection := col, hasDel := false }, ?_, rfl, rfl⟩
  unfold PySem.W.clsIn
  rw [x] <;> rfl
theorem LK.mro {K : PySem.W.Frag} {e : Addr} {bm : List Value} {new : String} (h : LK K e bm new) (X : Value) : PySem.W.mroIn K e X = some ((Value.ref e :: bm).contains X) := by
  obtain ⟨cd, h1, h2, h3⟩ := h.cls
  unfold PySem.W.mroIn
  rw [h1, Option.bind_some, h2]
  rfl
theorem LK.sub {K : PySem.W.Frag} {e : Addr} {bm : List Value} {new : String} (h : LK K e bm new) (X : Value) : PySem.W.subIn K (.ref e) X = some ((Value.ref e :: bm).contains X) := h.mro X
theorem LK.dict {K : PySem.W.Frag} {e : Addr} {bm : List Value} {new : String} (h : LK K e bm new) : PySem.W.hasDictIn K e = true := by
  obtain ⟨cd, h1, h2, h3⟩ := h.cls
  unfold PySem.W.hasDictIn
  rw [h1]
  exact h3
theorem ref_type (e : Addr) (T : String) : (Value.type T == Value.ref e) = false := by
  cases q : (Value.type T == Value.ref e) with
  | false => rfl
  | true => exact absurd (eq_of_beq q) (by intro z; cases z)
theorem type_ref (e : Addr) (T : String) : (Value.ref e == Value.type T) = false := by
  cases q : (Value.ref e == Value.type T) with
  | false => rfl
  | true => exact absurd (eq_of_beq q) (by intro z; cases z)
theorem con_type (e : Addr) (bm : List Value) (T : String) : (Value.ref e :: bm).contains (.type T) = bm.contains (.type T) := by
  rw [List.contains_cons, ref_type, Bool.false_or]
theorem con_ref (e d : Addr) (bm : List Value) (h : bm.all (fun v => match v with | .type _ => true | _ => false) = true) : (Value.ref e :: bm).contains (.ref d) = decide (e = d) := by
  have h0 : bm.contains (.ref d) = false := by
    cases q : bm.contains (Value.ref d) with
    | false => rfl
    | true =>
      have := List.all_eq_true.mp h _ (List.contains_iff_mem.mp q)
      cases this
  rw [List.contains_cons, h0, Bool.or_false]
  by_cases z : e = d
  · rw [z, decide_eq_true rfl]
    exact beq_self_eq_true _
  · rw [decide_eq_false z]
    cases q : (Value.ref d == Value.ref e) with
    | false => rfl
    | true => exact absurd (Value.ref.inj (eq_of_beq q)).symm z
theorem exC_mk {K : PySem.W.Frag} {e : Addr} {bm : List Value} {new : String} (F : EF K e) (h : LK K e bm new) (hn : PySem.W.specialIn K (.builtin "object.__class__") "__get__" = some (some (.builtin "getset_descriptor.__get__"))) (ht : PySem.W.takesIn K (.builtin "object.__class__") = some true) (hB : bm.contains (.type "BaseException") = true) (hO : bm.contains (.type "object") = true) : ExcC K e :=
  ⟨F.hg, F.hk, by rw [h.sub, con_type, hB], h.dict, F.ha, hn, ht, by rw [h.mro, con_type, hO]⟩
theorem xfC_mk {K : PySem.W.Frag} {e : Addr} {bm : List Value} {new : String} (F : EF K e) (h : LK K e bm new) (hB : bm.contains (.type "BaseException") = true) : XfC K e := ⟨F.hg, F.hk, by rw [h.sub, con_type, hB], h.dict⟩
theorem kit_type {K : PySem.W.Frag} {e : Addr} {bm : List Value} {new : String} (h : LK K e bm new) {T : String} (hm : PySem.W.kitMeta T = true) : PySem.W.kitOne K (.ref e) (.type T) = some (bm.contains (.type T)) := by
  unfold PySem.W.kitOne
  rw [type_ref]
  show (if PySem.W.kitMeta T = true then PySem.W.subIn K (.ref e) (.type T) else none) = _
  rw [if_pos hm, h.sub, con_type]
theorem kit_ref {K : PySem.W.Frag} {e d : Addr} {bm bm2 : List Value} {new new2 : String} (h : LK K e bm new) (h2 : LK K d bm2 new2) (F2 : EF K d) (hb : bm.all (fun v => match v with | .type _ => true | _ => false) = true) : PySem.W.kitOne K (.ref e) (.ref d) = some (decide (e = d)) := by
  unfold PySem.W.kitOne
  by_cases z : e = d
  · rw [z, decide_eq_true rfl, if_pos (beq_self_eq_true _)]
  · have q : (Value.ref e == Value.ref d) = false := by
      cases q : (Value.ref e == Value.ref d) with
      | false => rfl
      | true => exact absurd (Value.ref.inj (eq_of_beq q)) z
    rw [q]
    obtain ⟨cd, hc, _⟩ := h2.cls
    show (if ((PySem.W.clsIn K d).isSome && PySem.W.typeIn K (.ref d) == some (.type "type")) = true then PySem.W.subIn K (.ref e) (.ref d) else none) = _
    have e2 : ((PySem.W.clsIn K d).isSome && PySem.W.typeIn K (.ref d) == some (.type "type")) = true := by rw [hc, F2.ty]; exact beq_self_eq_true _
    rw [if_pos e2, h.sub, con_ref e d bm hb]
theorem oex_mk {K : PySem.W.Frag} {e : Addr} (F : EF K e) (h : LK K e bmV "ValueError.__new__") : OexC K e := by
  obtain ⟨nm, q, N, bs, sn, sub, ab, col, dd, k0, k1, k2, k3, k5, x⟩ := h.ex
  exact ⟨⟨nm, q, N, bs, bmV, sn, sub, ab, col, dd, k0, k1, k2, k3, k5, x, by decide +kernel⟩, F.sa, by rw [h.sub, con_type]; decide +kernel, F.ty, F.kp⟩
theorem vals_rev : ∀ {vs : List V} {us : List Value}, Vals vs us → Vals vs.reverse us.reverse
  | _, _, .nil => .nil
  | _, _, .cons h r => by
    rw [List.reverse_cons, List.reverse_cons]
    exact (vals_rev r).append (.cons h .nil)
theorem kbn_mk {K : PySem.W.Frag} {x qual : Str} {st : Stmt} {f : Addr} {fd : FuncData} {ps ks : List Str} {n : Nat} {g : List Value → List Value → List Value} {gV : List V → List V → List V} (F : Fun K x qual st f fd)
    (rel : ∀ {vs : List V} {us : List Value} {zs : List V} {ws : List Value}, Vals vs us → Vals zs ws → Vals (gV vs zs) (g us ws))
    (h : ∀ (kV doc pm : Value) (an : Option Addr) (cdv ct : Value) (us ws : List Value), us.length = n → ws.length = ks.length → bindArgs (PySem.W.fnOf x qual (defArgs st) (defBody st) (defScope st) .none kV doc pm an cdv ct) ⟨us, ks.zip ws⟩ = pure (ps.zip (g us ws))) : KBn K fd ps n ks g gV := by
  obtain ⟨oc, od, kV, doc, pm, an, cdv, ct, osl, rfl, lk, hcd⟩ := F.ex
  exact ⟨fun s us ws X l1 l2 => .of_eq (h kV doc pm an cdv ct us ws l1 l2), rel⟩
def bms (i : Nat) : List Value := if i < 14 then bmV else if i = 14 then bmL else bmZ
def news (i : Nat) : String := if i < 14 then "ValueError.__new__" else if i = 14 then "LookupError.__new__" else "ZeroDivisionError.__new__"
theorem bms_v : ∀ i, i < 16 → (bms i).contains (.type "ValueError") = decide (i < 14) := by decide +kernel
theorem bms_l : ∀ i, i < 16 → (bms i).contains (.type "LookupError") = decide (i = 14) := by decide +kernel
theorem bms_z : ∀ i, i < 16 → (bms i).contains (.type "ZeroDivisionError") = decide (i = 15) := by decide +kernel
theorem bms_b : ∀ i, i < 16 → (bms i).contains (.type "BaseException") = true := by decide +kernel
theorem bms_o : ∀ i, i < 16 → (bms i).contains (.type "object") = true := by decide +kernel
theorem bms_t : ∀ i, i < 16 → (bms i).all (fun v => match v with | .type _ => true | _ => false) = true := by decide +kernel
theorem ex_mk {K : PySem.W.Frag} {mg : Str → Option Value} {es : List Addr} (hes : es.length = 16) (nd : es.Nodup)
    (F : ∀ i, i < 16 → EF K (es.getD i 0)) (h : ∀ i, i < 16 → LK K (es.getD i 0) (bms i) (news i)) (hn : PySem.W.specialIn K (.builtin "object.__class__") "__get__" = some (some (.builtin "getset_descriptor.__get__"))) (ht : PySem.W.takesIn K (.builtin "object.__class__") = some true)
    (hg : ∀ (i : Nat) (x : Str), (["Below", "Hollow", "Ringed", "Short", "Regretted", "Forked", "Uneven", "NoRegret", "Taken", "Unpriced", "Doubted", "Unexplained", "BadText", "BadLine", "NoDeed", "Nothing"] : List Str)[i]? = some x → mg x = some (.ref (es.getD i 0))) (mv : mg "ValueError" = none) (ml : mg "LookupError" = none) (mz : mg "ZeroDivisionError" = none) : EX K mg (fun i => es.getD i 0) := by
  refine ⟨hg 0 _ rfl, hg 1 _ rfl, hg 2 _ rfl, hg 3 _ rfl, hg 4 _ rfl, hg 5 _ rfl, hg 6 _ rfl, hg 7 _ rfl, hg 8 _ rfl, hg 9 _ rfl, hg 10 _ rfl, hg 11 _ rfl, hg 12 _ rfl, hg 13 _ rfl, hg 14 _ rfl, hg 15 _ rfl, fun i hi => exC_mk (F i hi) (h i hi) hn ht (bms_b i hi) (bms_o i hi), fun i hi => xfC_mk (F i hi) (h i hi) (bms_b i hi), fun i j hi hj => ?_, fun i hi => ?_, fun i hi => ?_, fun i hi => ?_, fun i hi x hx => ?_, mv, ml, mz⟩
  · rw [kit_ref (h i hi) (h j hj) (F j hj) (bms_t i hi)]
    have e1 : es.getD i 0 = es[i]'(by omega) := by rw [List.getD_eq_getElem?_getD, List.getElem?_eq_getElem (by omega)]; rfl
    have e2 : es.getD j 0 = es[j]'(by omega) := by rw [List.getD_eq_getElem?_getD, List.getElem?_eq_getElem (by omega)]; rfl
    have e3 : (es.getD i 0 = es.getD j 0) ↔ i = j := by
      rw [e1, e2]
      have hi' : i < es.length := by omega
      have hj' : j < es.length := by omega
      refine ⟨fun z => (List.getElem?_inj hi' nd).mp ?_, fun z => by subst z; rfl⟩
      rw [List.getElem?_eq_getElem hi', List.getElem?_eq_getElem hj', z]
    rw [decide_eq_decide.mpr e3]
  · rw [kit_type (h i hi) (by decide +kernel), bms_v i hi]
  · rw [kit_type (h i hi) (by decide +kernel), bms_l i hi]
  · rw [kit_type (h i hi) (by decide +kernel), bms_z i hi]
  · simp only [List.mem_cons, List.not_mem_nil, or_false] at hx
    rcases hx with rfl | rfl | rfl | rfl | rfl
    · exact (F i hi).n1
    · exact (F i hi).n2
    · exact (F i hi).n3
    · exact (F i hi).n4
    · exact (F i hi).n5
theorem all_mk {l : PySem.W.OpenLaw} {w : World} {K : PySem.W.Frag} {h : Heap} {mg : Str → Option Value} {fa : Addr} (X : K.In h) (G : h.Ns mainGlobals mg) (hfa : mg "law" = some (.ref fa))
    {fm0 fm1 fm2 fm3 fm4 fm5 fm6 fm7 fm8 fm9 fm10 fm11 fm12 fm13 e0 e1 e2 e3 e4 e5 e6 e7 e8 e9 e10 e11 e12 e13 e14 e15 fi0 fi1 fi2 fi3 fi4 fi5 fi6 fi8 fi9 fi13 : Addr}
    (am0 : PySem.W.nsIn K mainGlobals "_law_take" = some (some (.ref fm0))) (Dm0 : ∃ fd, Fun K "_law_take" "_law_take" sTake fm0 fd)
    (am1 : PySem.W.nsIn K mainGlobals "_law_box" = some (some (.ref fm1))) (Dm1 : ∃ fd, Fun K "_law_box" "_law_box" sBox fm1 fd)
    (am2 : PySem.W.nsIn K mainGlobals "_law_cells" = some (some (.ref fm2))) (Dm2 : ∃ fd, Fun K "_law_cells" "_law_cells" sCells fm2 fd)
    (am3 : PySem.W.nsIn K mainGlobals "_law_of" = some (some (.ref fm3))) (Dm3 : ∃ fd, Fun K "_law_of" "_law_of" sOf fm3 fd)
    (am4 : PySem.W.nsIn K mainGlobals "_law_names" = some (some (.ref fm4))) (Dm4 : ∃ fd, Fun K "_law_names" "_law_names" sNames fm4 fd)
    (am5 : PySem.W.nsIn K mainGlobals "_law_same" = some (some (.ref fm5))) (Dm5 : ∃ fd, Fun K "_law_same" "_law_same" sSame fm5 fd)
    (am6 : PySem.W.nsIn K mainGlobals "_law_above" = some (some (.ref fm6))) (Dm6 : ∃ fd, Fun K "_law_above" "_law_above" sAbove fm6 fd)
    (am7 : PySem.W.nsIn K mainGlobals "_law_first_ones" = some (some (.ref fm7))) (Dm7 : ∃ fd, Fun K "_law_first_ones" "_law_first_ones" sFirstOnes fm7 fd)
    (am8 : PySem.W.nsIn K mainGlobals "_law_last_ones" = some (some (.ref fm8))) (Dm8 : ∃ fd, Fun K "_law_last_ones" "_law_last_ones" sLastOnes fm8 fd)
    (am9 : PySem.W.nsIn K mainGlobals "_law_of_kind" = some (some (.ref fm9))) (Dm9 : ∃ fd, Fun K "_law_of_kind" "_law_of_kind" sOfKind fm9 fd)
    (am10 : PySem.W.nsIn K mainGlobals "_law_place" = some (some (.ref fm10))) (Dm10 : ∃ fd, Fun K "_law_place" "_law_place" sPlace fm10 fd)
    (am11 : PySem.W.nsIn K mainGlobals "_law_caught" = some (some (.ref fm11))) (Dm11 : ∃ fd, Fun K "_law_caught" "_law_caught" sCaught fm11 fd)
    (am12 : PySem.W.nsIn K mainGlobals "_law_right" = some (some (.ref fm12))) (Dm12 : ∃ fd, Fun K "_law_right" "_law_right" sRight fm12 fd)
    (am13 : PySem.W.nsIn K mainGlobals "law" = some (some (.ref fm13))) (Dm13 : ∃ fd, Fun K "law" "law" sLaw fm13 fd)
    (ae0 : PySem.W.nsIn K mainGlobals "Below" = some (some (.ref e0))) (Ef0 : EF K e0) (Lk0 : LK K e0 bmV "ValueError.__new__")
    (ai0 : PySem.W.findIn K (.ref e0) "__init__" = some (some (.ref fi0))) (ti0 : PySem.W.typeIn K (.ref fi0) = some (.type "function")) (Di0 : ∃ fd, Fun K "__init__" "Below.__init__" sBelowInit fi0 fd)
    (ae1 : PySem.W.nsIn K mainGlobals "Hollow" = some (some (.ref e1))) (Ef1 : EF K e1) (Lk1 : LK K e1 bmV "ValueError.__new__")
    (ai1 : PySem.W.findIn K (.ref e1) "__init__" = some (some (.ref fi1))) (ti1 : PySem.W.typeIn K (.ref fi1) = some (.type "function")) (Di1 : ∃ fd, Fun K "__init__" "Hollow.__init__" sHollowInit fi1 fd)
    (ae2 : PySem.W.nsIn K mainGlobals "Ringed" = some (some (.ref e2))) (Ef2 : EF K e2) (Lk2 : LK K e2 bmV "ValueError.__new__")
    (ai2 : PySem.W.findIn K (.ref e2) "__init__" = some (some (.ref fi2))) (ti2 : PySem.W.typeIn K (.ref fi2) = some (.type "function")) (Di2 : ∃ fd, Fun K "__init__" "Ringed.__init__" sRingedInit fi2 fd)
    (ae3 : PySem.W.nsIn K mainGlobals "Short" = some (some (.ref e3))) (Ef3 : EF K e3) (Lk3 : LK K e3 bmV "ValueError.__new__")
    (ai3 : PySem.W.findIn K (.ref e3) "__init__" = some (some (.ref fi3))) (ti3 : PySem.W.typeIn K (.ref fi3) = some (.type "function")) (Di3 : ∃ fd, Fun K "__init__" "Short.__init__" sShortInit fi3 fd)
    (ae4 : PySem.W.nsIn K mainGlobals "Regretted" = some (some (.ref e4))) (Ef4 : EF K e4) (Lk4 : LK K e4 bmV "ValueError.__new__")
    (ai4 : PySem.W.findIn K (.ref e4) "__init__" = some (some (.ref fi4))) (ti4 : PySem.W.typeIn K (.ref fi4) = some (.type "function")) (Di4 : ∃ fd, Fun K "__init__" "Regretted.__init__" sRegrettedInit fi4 fd)
    (ae5 : PySem.W.nsIn K mainGlobals "Forked" = some (some (.ref e5))) (Ef5 : EF K e5) (Lk5 : LK K e5 bmV "ValueError.__new__")
    (ai5 : PySem.W.findIn K (.ref e5) "__init__" = some (some (.ref fi5))) (ti5 : PySem.W.typeIn K (.ref fi5) = some (.type "function")) (Di5 : ∃ fd, Fun K "__init__" "Forked.__init__" sForkedInit fi5 fd)
    (ae6 : PySem.W.nsIn K mainGlobals "Uneven" = some (some (.ref e6))) (Ef6 : EF K e6) (Lk6 : LK K e6 bmV "ValueError.__new__")
    (ai6 : PySem.W.findIn K (.ref e6) "__init__" = some (some (.ref fi6))) (ti6 : PySem.W.typeIn K (.ref fi6) = some (.type "function")) (Di6 : ∃ fd, Fun K "__init__" "Uneven.__init__" sUnevenInit fi6 fd)
    (ae7 : PySem.W.nsIn K mainGlobals "NoRegret" = some (some (.ref e7))) (Ef7 : EF K e7) (Lk7 : LK K e7 bmV "ValueError.__new__")
    (xe7 : PySem.W.excIn K e7 bmV "ValueError.__new__" = true)
    (ae8 : PySem.W.nsIn K mainGlobals "Taken" = some (some (.ref e8))) (Ef8 : EF K e8) (Lk8 : LK K e8 bmV "ValueError.__new__")
    (ai8 : PySem.W.findIn K (.ref e8) "__init__" = some (some (.ref fi8))) (ti8 : PySem.W.typeIn K (.ref fi8) = some (.type "function")) (Di8 : ∃ fd, Fun K "__init__" "Taken.__init__" sTakenInit fi8 fd)
    (ae9 : PySem.W.nsIn K mainGlobals "Unpriced" = some (some (.ref e9))) (Ef9 : EF K e9) (Lk9 : LK K e9 bmV "ValueError.__new__")
    (ai9 : PySem.W.findIn K (.ref e9) "__init__" = some (some (.ref fi9))) (ti9 : PySem.W.typeIn K (.ref fi9) = some (.type "function")) (Di9 : ∃ fd, Fun K "__init__" "Unpriced.__init__" sUnpricedInit fi9 fd)
    (ae10 : PySem.W.nsIn K mainGlobals "Doubted" = some (some (.ref e10))) (Ef10 : EF K e10) (Lk10 : LK K e10 bmV "ValueError.__new__")
    (xe10 : PySem.W.excIn K e10 bmV "ValueError.__new__" = true)
    (ae11 : PySem.W.nsIn K mainGlobals "Unexplained" = some (some (.ref e11))) (Ef11 : EF K e11) (Lk11 : LK K e11 bmV "ValueError.__new__")
    (xe11 : PySem.W.excIn K e11 bmV "ValueError.__new__" = true)
    (ae12 : PySem.W.nsIn K mainGlobals "BadText" = some (some (.ref e12))) (Ef12 : EF K e12) (Lk12 : LK K e12 bmV "ValueError.__new__")
    (xe12 : PySem.W.excIn K e12 bmV "ValueError.__new__" = true)
    (ae13 : PySem.W.nsIn K mainGlobals "BadLine" = some (some (.ref e13))) (Ef13 : EF K e13) (Lk13 : LK K e13 bmV "ValueError.__new__")
    (ai13 : PySem.W.findIn K (.ref e13) "__init__" = some (some (.ref fi13))) (ti13 : PySem.W.typeIn K (.ref fi13) = some (.type "function")) (Di13 : ∃ fd, Fun K "__init__" "BadLine.__init__" sBadlineInit fi13 fd)
    (ae14 : PySem.W.nsIn K mainGlobals "NoDeed" = some (some (.ref e14))) (Ef14 : EF K e14) (Lk14 : LK K e14 bmL "LookupError.__new__")
    (xe14 : PySem.W.excIn K e14 bmL "LookupError.__new__" = true)
    (ae15 : PySem.W.nsIn K mainGlobals "Nothing" = some (some (.ref e15))) (Ef15 : EF K e15) (Lk15 : LK K e15 bmZ "ZeroDivisionError.__new__")
    (xe15 : PySem.W.excIn K e15 bmZ "ZeroDivisionError.__new__" = true)
    (nd : ([e0, e1, e2, e3, e4, e5, e6, e7, e8, e9, e10, e11, e12, e13, e14, e15] : List Addr).Nodup)
    (hn : PySem.W.specialIn K (.builtin "object.__class__") "__get__" = some (some (.builtin "getset_descriptor.__get__"))) (ht : PySem.W.takesIn K (.builtin "object.__class__") = some true) (zB : PySem.W.subIn K (.type "ZeroDivisionError") (.type "BaseException") = some true)
    (z_int : PySem.W.nsIn K mainGlobals "int" = some none)
    (z_len : PySem.W.nsIn K mainGlobals "len" = some none)
    (z_abs : PySem.W.nsIn K mainGlobals "abs" = some none)
    (z_list : PySem.W.nsIn K mainGlobals "list" = some none)
    (z_tuple : PySem.W.nsIn K mainGlobals "tuple" = some none)
    (z_range : PySem.W.nsIn K mainGlobals "range" = some none)
    (z_enumerate : PySem.W.nsIn K mainGlobals "enumerate" = some none)
    (z_isinstance : PySem.W.nsIn K mainGlobals "isinstance" = some none)
    (z_all : PySem.W.nsIn K mainGlobals "all" = some none)
    (z_zip : PySem.W.nsIn K mainGlobals "zip" = some none)
    (z_dict : PySem.W.nsIn K mainGlobals "dict" = some none)
    (z_bool : PySem.W.nsIn K mainGlobals "bool" = some none)
    (z_str : PySem.W.nsIn K mainGlobals "str" = some none)
    (z_set : PySem.W.nsIn K mainGlobals "set" = some none)
    (z_sorted : PySem.W.nsIn K mainGlobals "sorted" = some none)
    (z_min : PySem.W.nsIn K mainGlobals "min" = some none)
    (z_ValueError : PySem.W.nsIn K mainGlobals "ValueError" = some none)
    (z_LookupError : PySem.W.nsIn K mainGlobals "LookupError" = some none)
    (z_ZeroDivisionError : PySem.W.nsIn K mainGlobals "ZeroDivisionError" = some none) :
    ∃ fd : FuncData, (∀ (s : Shared) (v : Value), BindsTo s fd ⟨[v], []⟩ [("_law_script", v)]) ∧ ∀ base : Heap, K.In base → base.Ns mainGlobals mg → FnOk l.prog w K mg base CX0 8 fa fd ["_law_script"] (spLaw K) := by
  have e := hfa.symm.trans (PySem.W.mg_of X G am13)
  cases e
  have T : Txt K mg := ⟨PySem.W.mg_none_of X G z_int, PySem.W.mg_none_of X G z_len, PySem.W.mg_none_of X G z_abs, PySem.W.mg_none_of X G z_list, PySem.W.mg_none_of X G z_tuple, PySem.W.mg_none_of X G z_range, PySem.W.mg_none_of X G z_enumerate, PySem.W.mg_none_of X G z_isinstance, PySem.W.mg_none_of X G z_all, PySem.W.mg_none_of X G z_zip, PySem.W.mg_none_of X G z_dict, PySem.W.mg_none_of X G z_bool, PySem.W.mg_none_of X G z_str, PySem.W.mg_none_of X G z_set, PySem.W.mg_none_of X G z_sorted, PySem.W.mg_none_of X G z_min⟩
  obtain ⟨L, eL⟩ : ∃ L : Nat → Addr, L = fun i => ([e0, e1, e2, e3, e4, e5, e6, e7, e8, e9, e10, e11, e12, e13, e14, e15] : List Addr).getD i 0 := ⟨_, rfl⟩
  have Y : EX K mg L := by
    rw [eL]
    refine ex_mk rfl nd (fun i hi => ?_) (fun i hi => ?_) hn ht (fun i x hx => ?_) (PySem.W.mg_none_of X G z_ValueError) (PySem.W.mg_none_of X G z_LookupError) (PySem.W.mg_none_of X G z_ZeroDivisionError)
    · match i, hi with
      | 0, _ => exact Ef0
      | 1, _ => exact Ef1
      | 2, _ => exact Ef2
      | 3, _ => exact Ef3
      | 4, _ => exact Ef4
      | 5, _ => exact Ef5
      | 6, _ => exact Ef6
      | 7, _ => exact Ef7
      | 8, _ => exact Ef8
      | 9, _ => exact Ef9
      | 10, _ => exact Ef10
      | 11, _ => exact Ef11
      | 12, _ => exact Ef12
      | 13, _ => exact Ef13
      | 14, _ => exact Ef14
      | 15, _ => exact Ef15
      | n + 16, h => exact absurd h (by omega)
    · match i, hi with
      | 0, _ => exact Lk0
      | 1, _ => exact Lk1
      | 2, _ => exact Lk2
      | 3, _ => exact Lk3
      | 4, _ => exact Lk4
      | 5, _ => exact Lk5
      | 6, _ => exact Lk6
      | 7, _ => exact Lk7
      | 8, _ => exact Lk8
      | 9, _ => exact Lk9
      | 10, _ => exact Lk10
      | 11, _ => exact Lk11
      | 12, _ => exact Lk12
      | 13, _ => exact Lk13
      | 14, _ => exact Lk14
      | 15, _ => exact Lk15
      | n + 16, h => exact absurd h (by omega)
    · match i, hx with
      | 0, hx => cases hx; exact PySem.W.mg_of X G ae0
      | 1, hx => cases hx; exact PySem.W.mg_of X G ae1
      | 2, hx => cases hx; exact PySem.W.mg_of X G ae2
      | 3, hx => cases hx; exact PySem.W.mg_of X G ae3
      | 4, hx => cases hx; exact PySem.W.mg_of X G ae4
      | 5, hx => cases hx; exact PySem.W.mg_of X G ae5
      | 6, hx => cases hx; exact PySem.W.mg_of X G ae6
      | 7, hx => cases hx; exact PySem.W.mg_of X G ae7
      | 8, hx => cases hx; exact PySem.W.mg_of X G ae8
      | 9, hx => cases hx; exact PySem.W.mg_of X G ae9
      | 10, hx => cases hx; exact PySem.W.mg_of X G ae10
      | 11, hx => cases hx; exact PySem.W.mg_of X G ae11
      | 12, hx => cases hx; exact PySem.W.mg_of X G ae12
      | 13, hx => cases hx; exact PySem.W.mg_of X G ae13
      | 14, hx => cases hx; exact PySem.W.mg_of X G ae14
      | 15, hx => cases hx; exact PySem.W.mg_of X G ae15
      | n + 16, hx => simp at hx
  have l0 : L 0 = e0 := by rw [eL]; rfl
  have l1 : L 1 = e1 := by rw [eL]; rfl
  have l2 : L 2 = e2 := by rw [eL]; rfl
  have l3 : L 3 = e3 := by rw [eL]; rfl
  have l4 : L 4 = e4 := by rw [eL]; rfl
  have l5 : L 5 = e5 := by rw [eL]; rfl
  have l6 : L 6 = e6 := by rw [eL]; rfl
  have l7 : L 7 = e7 := by rw [eL]; rfl
  have l8 : L 8 = e8 := by rw [eL]; rfl
  have l9 : L 9 = e9 := by rw [eL]; rfl
  have l10 : L 10 = e10 := by rw [eL]; rfl
  have l11 : L 11 = e11 := by rw [eL]; rfl
  have l12 : L 12 = e12 := by rw [eL]; rfl
  have l13 : L 13 = e13 := by rw [eL]; rfl
  have l14 : L 14 = e14 := by rw [eL]; rfl
  have l15 : L 15 = e15 := by rw [eL]; rfl
  obtain ⟨di0, Fi0⟩ := Di0
  have b0 : Binds K di0 ["self", "kind", "many"] [] := Fi0.binds (ps := ["self", "kind", "many"]) fun _ _ _ _ _ _ us hl => match us, hl with | [_, _, _], _ => rfl
  have p0 : KBn K di0 ["self", "kind", "many"] 3 [] (fun us _ => us) (fun vs _ => vs) := kbn_mk Fi0 (fun r _ => r) fun _ _ _ _ _ _ us ws hl hw => match us, ws, hl, hw with | [_, _, _], [], _, _ => rfl
  have q0 : KBn K di0 ["self", "kind", "many"] 1 ["many", "kind"] (fun us ws => us ++ ws.reverse) (fun vs zs => vs ++ zs.reverse) := kbn_mk Fi0 (fun r s => r.append (vals_rev s)) fun _ _ _ _ _ _ us ws hl hw => match us, ws, hl, hw with | [_], [_, _], _, _ => rfl
  have O0 : ∀ base : Heap, E2 l.prog w K mg base (L 0) "Below" "kind" "many" := fun base => by
    rw [l0]
    exact ⟨oex_mk Ef0 Lk0, PySem.W.mg_of X G ae0, fi0, di0, ai0, ti0, ok_iBelow Fi0 (oex_mk Ef0 Lk0) Ef0.n1 Ef0.n2, p0, q0, b0⟩
  obtain ⟨di1, Fi1⟩ := Di1
  have b1 : Binds K di1 ["self", "kind"] [] := Fi1.binds (ps := ["self", "kind"]) fun _ _ _ _ _ _ us hl => match us, hl with | [_, _], _ => rfl
  have p1 : KBn K di1 ["self", "kind"] 2 [] (fun us _ => us) (fun vs _ => vs) := kbn_mk Fi1 (fun r _ => r) fun _ _ _ _ _ _ us ws hl hw => match us, ws, hl, hw with | [_, _], [], _, _ => rfl
  have q1 : KBn K di1 ["self", "kind"] 1 ["kind"] (fun us ws => us ++ ws) (fun vs zs => vs ++ zs) := kbn_mk Fi1 (fun r s => r.append s) fun _ _ _ _ _ _ us ws hl hw => match us, ws, hl, hw with | [_], [_], _, _ => rfl
  have O1 : ∀ base : Heap, E1 l.prog w K mg base (L 1) "Hollow" "kind" := fun base => by
    rw [l1]
    exact ⟨oex_mk Ef1 Lk1, PySem.W.mg_of X G ae1, fi1, di1, ai1, ti1, ok_iHollow Fi1 (oex_mk Ef1 Lk1) Ef1.n1, p1, q1, b1⟩
  obtain ⟨di2, Fi2⟩ := Di2
  have b2 : Binds K di2 ["self", "ring"] [] := Fi2.binds (ps := ["self", "ring"]) fun _ _ _ _ _ _ us hl => match us, hl with | [_, _], _ => rfl
  have p2 : KBn K di2 ["self", "ring"] 2 [] (fun us _ => us) (fun vs _ => vs) := kbn_mk Fi2 (fun r _ => r) fun _ _ _ _ _ _ us ws hl hw => match us, ws, hl, hw with | [_, _], [], _, _ => rfl
  have q2 : KBn K di2 ["self", "ring"] 1 ["ring"] (fun us ws => us ++ ws) (fun vs zs => vs ++ zs) := kbn_mk Fi2 (fun r s => r.append s) fun _ _ _ _ _ _ us ws hl hw => match us, ws, hl, hw with | [_], [_], _, _ => rfl
  have O2 : ∀ base : Heap, E1 l.prog w K mg base (L 2) "Ringed" "ring" := fun base => by
    rw [l2]
    exact ⟨oex_mk Ef2 Lk2, PySem.W.mg_of X G ae2, fi2, di2, ai2, ti2, ok_iRinged Fi2 (oex_mk Ef2 Lk2) Ef2.n4, p2, q2, b2⟩
  obtain ⟨di3, Fi3⟩ := Di3
  have b3 : Binds K di3 ["self", "kind", "lacking"] [] := Fi3.binds (ps := ["self", "kind", "lacking"]) fun _ _ _ _ _ _ us hl => match us, hl with | [_, _, _], _ => rfl
  have p3 : KBn K di3 ["self", "kind", "lacking"] 3 [] (fun us _ => us) (fun vs _ => vs) := kbn_mk Fi3 (fun r _ => r) fun _ _ _ _ _ _ us ws hl hw => match us, ws, hl, hw with | [_, _, _], [], _, _ => rfl
  have q3 : KBn K di3 ["self", "kind", "lacking"] 1 ["lacking", "kind"] (fun us ws => us ++ ws.reverse) (fun vs zs => vs ++ zs.reverse) := kbn_mk Fi3 (fun r s => r.append (vals_rev s)) fun _ _ _ _ _ _ us ws hl hw => match us, ws, hl, hw with | [_], [_, _], _, _ => rfl
  have O3 : ∀ base : Heap, E2 l.prog w K mg base (L 3) "Short" "kind" "lacking" := fun base => by
    rw [l3]
    exact ⟨oex_mk Ef3 Lk3, PySem.W.mg_of X G ae3, fi3, di3, ai3, ti3, ok_iShort Fi3 (oex_mk Ef3 Lk3) Ef3.n1 Ef3.n3, p3, q3, b3⟩
  obtain ⟨di4, Fi4⟩ := Di4
  have b4 : Binds K di4 ["self", "kind"] [] := Fi4.binds (ps := ["self", "kind"]) fun _ _ _ _ _ _ us hl => match us, hl with | [_, _], _ => rfl
  have p4 : KBn K di4 ["self", "kind"] 2 [] (fun us _ => us) (fun vs _ => vs) := kbn_mk Fi4 (fun r _ => r) fun _ _ _ _ _ _ us ws hl hw => match us, ws, hl, hw with | [_, _], [], _, _ => rfl
  have q4 : KBn K di4 ["self", "kind"] 1 ["kind"] (fun us ws => us ++ ws) (fun vs zs => vs ++ zs) := kbn_mk Fi4 (fun r s => r.append s) fun _ _ _ _ _ _ us ws hl hw => match us, ws, hl, hw with | [_], [_], _, _ => rfl
  have O4 : ∀ base : Heap, E1 l.prog w K mg base (L 4) "Regretted" "kind" := fun base => by
    rw [l4]
    exact ⟨oex_mk Ef4 Lk4, PySem.W.mg_of X G ae4, fi4, di4, ai4, ti4, ok_iRegretted Fi4 (oex_mk Ef4 Lk4) Ef4.n1, p4, q4, b4⟩
  obtain ⟨di5, Fi5⟩ := Di5
  have b5 : Binds K di5 ["self", "kind"] [] := Fi5.binds (ps := ["self", "kind"]) fun _ _ _ _ _ _ us hl => match us, hl with | [_, _], _ => rfl
  have p5 : KBn K di5 ["self", "kind"] 2 [] (fun us _ => us) (fun vs _ => vs) := kbn_mk Fi5 (fun r _ => r) fun _ _ _ _ _ _ us ws hl hw => match us, ws, hl, hw with | [_, _], [], _, _ => rfl
  have q5 : KBn K di5 ["self", "kind"] 1 ["kind"] (fun us ws => us ++ ws) (fun vs zs => vs ++ zs) := kbn_mk Fi5 (fun r s => r.append s) fun _ _ _ _ _ _ us ws hl hw => match us, ws, hl, hw with | [_], [_], _, _ => rfl
  have O5 : ∀ base : Heap, E1 l.prog w K mg base (L 5) "Forked" "kind" := fun base => by
    rw [l5]
    exact ⟨oex_mk Ef5 Lk5, PySem.W.mg_of X G ae5, fi5, di5, ai5, ti5, ok_iForked Fi5 (oex_mk Ef5 Lk5) Ef5.n1, p5, q5, b5⟩
  obtain ⟨di6, Fi6⟩ := Di6
  have b6 : Binds K di6 ["self", "kind"] [] := Fi6.binds (ps := ["self", "kind"]) fun _ _ _ _ _ _ us hl => match us, hl with | [_, _], _ => rfl
  have p6 : KBn K di6 ["self", "kind"] 2 [] (fun us _ => us) (fun vs _ => vs) := kbn_mk Fi6 (fun r _ => r) fun _ _ _ _ _ _ us ws hl hw => match us, ws, hl, hw with | [_, _], [], _, _ => rfl
  have q6 : KBn K di6 ["self", "kind"] 1 ["kind"] (fun us ws => us ++ ws) (fun vs zs => vs ++ zs) := kbn_mk Fi6 (fun r s => r.append s) fun _ _ _ _ _ _ us ws hl hw => match us, ws, hl, hw with | [_], [_], _, _ => rfl
  have O6 : ∀ base : Heap, E1 l.prog w K mg base (L 6) "Uneven" "kind" := fun base => by
    rw [l6]
    exact ⟨oex_mk Ef6 Lk6, PySem.W.mg_of X G ae6, fi6, di6, ai6, ti6, ok_iUneven Fi6 (oex_mk Ef6 Lk6) Ef6.n1, p6, q6, b6⟩
  obtain ⟨di8, Fi8⟩ := Di8
  have b8 : Binds K di8 ["self", "kind"] [] := Fi8.binds (ps := ["self", "kind"]) fun _ _ _ _ _ _ us hl => match us, hl with | [_, _], _ => rfl
  have p8 : KBn K di8 ["self", "kind"] 2 [] (fun us _ => us) (fun vs _ => vs) := kbn_mk Fi8 (fun r _ => r) fun _ _ _ _ _ _ us ws hl hw => match us, ws, hl, hw with | [_, _], [], _, _ => rfl
  have q8 : KBn K di8 ["self", "kind"] 1 ["kind"] (fun us ws => us ++ ws) (fun vs zs => vs ++ zs) := kbn_mk Fi8 (fun r s => r.append s) fun _ _ _ _ _ _ us ws hl hw => match us, ws, hl, hw with | [_], [_], _, _ => rfl
  have O8 : ∀ base : Heap, E1 l.prog w K mg base (L 8) "Taken" "kind" := fun base => by
    rw [l8]
    exact ⟨oex_mk Ef8 Lk8, PySem.W.mg_of X G ae8, fi8, di8, ai8, ti8, ok_iTaken Fi8 (oex_mk Ef8 Lk8) Ef8.n1, p8, q8, b8⟩
  obtain ⟨di9, Fi9⟩ := Di9
  have b9 : Binds K di9 ["self", "kind"] [] := Fi9.binds (ps := ["self", "kind"]) fun _ _ _ _ _ _ us hl => match us, hl with | [_, _], _ => rfl
  have p9 : KBn K di9 ["self", "kind"] 2 [] (fun us _ => us) (fun vs _ => vs) := kbn_mk Fi9 (fun r _ => r) fun _ _ _ _ _ _ us ws hl hw => match us, ws, hl, hw with | [_, _], [], _, _ => rfl
  have q9 : KBn K di9 ["self", "kind"] 1 ["kind"] (fun us ws => us ++ ws) (fun vs zs => vs ++ zs) := kbn_mk Fi9 (fun r s => r.append s) fun _ _ _ _ _ _ us ws hl hw => match us, ws, hl, hw with | [_], [_], _, _ => rfl
  have O9 : ∀ base : Heap, E1 l.prog w K mg base (L 9) "Unpriced" "kind" := fun base => by
    rw [l9]
    exact ⟨oex_mk Ef9 Lk9, PySem.W.mg_of X G ae9, fi9, di9, ai9, ti9, ok_iUnpriced Fi9 (oex_mk Ef9 Lk9) Ef9.n1, p9, q9, b9⟩
  obtain ⟨di13, Fi13⟩ := Di13
  have b13 : Binds K di13 ["self", "number"] [] := Fi13.binds (ps := ["self", "number"]) fun _ _ _ _ _ _ us hl => match us, hl with | [_, _], _ => rfl
  have p13 : KBn K di13 ["self", "number"] 2 [] (fun us _ => us) (fun vs _ => vs) := kbn_mk Fi13 (fun r _ => r) fun _ _ _ _ _ _ us ws hl hw => match us, ws, hl, hw with | [_, _], [], _, _ => rfl
  have q13 : KBn K di13 ["self", "number"] 1 ["number"] (fun us ws => us ++ ws) (fun vs zs => vs ++ zs) := kbn_mk Fi13 (fun r s => r.append s) fun _ _ _ _ _ _ us ws hl hw => match us, ws, hl, hw with | [_], [_], _, _ => rfl
  have O13 : ∀ base : Heap, E1 l.prog w K mg base (L 13) "BadLine" "number" := fun base => by
    rw [l13]
    exact ⟨oex_mk Ef13 Lk13, PySem.W.mg_of X G ae13, fi13, di13, ai13, ti13, ok_iBadLine Fi13 (oex_mk Ef13 Lk13) Ef13.n5, p13, q13, b13⟩
  have N7 : XN K mg (L 7) "NoRegret" bmV "ValueError.__new__" := by
    rw [l7]
    exact ⟨xe7, PySem.W.mg_of X G ae7, Ef7.kp, by rw [Lk7.sub, con_type]; decide +kernel, Ef7.ty⟩
  have N10 : XN K mg (L 10) "Doubted" bmV "ValueError.__new__" := by
    rw [l10]
    exact ⟨xe10, PySem.W.mg_of X G ae10, Ef10.kp, by rw [Lk10.sub, con_type]; decide +kernel, Ef10.ty⟩
  have N11 : XN K mg (L 11) "Unexplained" bmV "ValueError.__new__" := by
    rw [l11]
    exact ⟨xe11, PySem.W.mg_of X G ae11, Ef11.kp, by rw [Lk11.sub, con_type]; decide +kernel, Ef11.ty⟩
  have N12 : XN K mg (L 12) "BadText" bmV "ValueError.__new__" := by
    rw [l12]
    exact ⟨xe12, PySem.W.mg_of X G ae12, Ef12.kp, by rw [Lk12.sub, con_type]; decide +kernel, Ef12.ty⟩
  have N14 : XN K mg (L 14) "NoDeed" bmL "LookupError.__new__" := by
    rw [l14]
    exact ⟨xe14, PySem.W.mg_of X G ae14, Ef14.kp, by rw [Lk14.sub, con_type]; decide +kernel, Ef14.ty⟩
  have N15 : XN K mg (L 15) "Nothing" bmZ "ZeroDivisionError.__new__" := by
    rw [l15]
    exact ⟨xe15, PySem.W.mg_of X G ae15, Ef15.kp, by rw [Lk15.sub, con_type]; decide +kernel, Ef15.ty⟩
  have m3 : PySem.W.exmOne K (.ref (L 3)) (.ref (L 3)) = some true := by
    rw [l3]
    refine PySem.W.exm_ref (by rw [Lk3.sub, con_type]; decide +kernel) Lk3.dict Ef3.ty ?_
    rw [Lk3.sub, con_ref _ _ _ (by decide +kernel), decide_eq_true rfl]
  have m14 : PySem.W.exmOne K (.ref (L 14)) (.ref (L 14)) = some true := by
    rw [l14]
    refine PySem.W.exm_ref (by rw [Lk14.sub, con_type]; decide +kernel) Lk14.dict Ef14.ty ?_
    rw [Lk14.sub, con_ref _ _ _ (by decide +kernel), decide_eq_true rfl]
  have m15 : PySem.W.exmOne K (.ref (L 15)) (.type "ZeroDivisionError") = some true := by
    rw [l15]
    unfold PySem.W.exmOne
    rw [zB, if_pos (beq_self_eq_true _)]
    show (if PySem.W.kitMeta "ZeroDivisionError" = true then PySem.W.subIn K (.ref e15) (.type "ZeroDivisionError") else none) = _
    rw [if_pos (by decide +kernel), Lk15.sub, con_type]
    decide +kernel
  obtain ⟨dm0, Fm0⟩ := Dm0
  have bm0 := Fm0.binds (ps := ["_law_box_here", "_law_below"]) fun _ _ _ _ _ _ us hl => match us, hl with | [_, _], _ => rfl
  obtain ⟨dm1, Fm1⟩ := Dm1
  have bm1 := Fm1.binds (ps := ["_law_script", "_law_k"]) fun _ _ _ _ _ _ us hl => match us, hl with | [_, _], _ => rfl
  obtain ⟨dm2, Fm2⟩ := Dm2
  have bm2 := Fm2.binds (ps := ["_law_script", "_law_most_so"]) fun _ _ _ _ _ _ us hl => match us, hl with | [_, _], _ => rfl
  obtain ⟨dm3, Fm3⟩ := Dm3
  have bm3 := Fm3.binds (ps := ["_law_box_here", "_law_some"]) fun _ _ _ _ _ _ us hl => match us, hl with | [_, _], _ => rfl
  obtain ⟨dm4, Fm4⟩ := Dm4
  have bm4 := Fm4.binds (ps := ["_law_box_here", "_law_some"]) fun _ _ _ _ _ _ us hl => match us, hl with | [_, _], _ => rfl
  obtain ⟨dm5, Fm5⟩ := Dm5
  have bm5 := Fm5.binds (ps := ["_law_got", "_law_due"]) fun _ _ _ _ _ _ us hl => match us, hl with | [_, _], _ => rfl
  obtain ⟨dm6, Fm6⟩ := Dm6
  have bm6 := Fm6.binds (ps := ["_law_made"]) fun _ _ _ _ _ _ us hl => match us, hl with | [_], _ => rfl
  obtain ⟨dm7, Fm7⟩ := Dm7
  have bm7 := Fm7.binds (ps := ["_law_made"]) fun _ _ _ _ _ _ us hl => match us, hl with | [_], _ => rfl
  obtain ⟨dm8, Fm8⟩ := Dm8
  have bm8 := Fm8.binds (ps := ["_law_made"]) fun _ _ _ _ _ _ us hl => match us, hl with | [_], _ => rfl
  obtain ⟨dm9, Fm9⟩ := Dm9
  have bm9 := Fm9.binds (ps := ["_law_box_here", "_law_own", "_law_far"]) fun _ _ _ _ _ _ us hl => match us, hl with | [_, _, _], _ => rfl
  obtain ⟨dm10, Fm10⟩ := Dm10
  have bm10 := Fm10.binds (ps := ["_law_made", "_law_place_here"]) fun _ _ _ _ _ _ us hl => match us, hl with | [_, _], _ => rfl
  obtain ⟨dm11, Fm11⟩ := Dm11
  have bm11 := Fm11.binds (ps := ["_law_own", "_law_far"]) fun _ _ _ _ _ _ us hl => match us, hl with | [_, _], _ => rfl
  obtain ⟨dm12, Fm12⟩ := Dm12
  have bm12 := Fm12.binds (ps := ["_law_box_here"]) fun _ _ _ _ _ _ us hl => match us, hl with | [_], _ => rfl
  obtain ⟨dm13, Fm13⟩ := Dm13
  have bm13 := Fm13.binds (ps := ["_law_script"]) fun _ _ _ _ _ _ us hl => match us, hl with | [_], _ => rfl
  refine ⟨dm13, fun s v => ?_, fun base _ _ => ?_⟩
  · obtain ⟨oc, od, kV, doc, pm, an, cdv, ct, osl, rfl, lk, hcd⟩ := Fm13.ex
    exact .of_eq rfl
  have Ct : Cal l.prog w K mg base CX0 1 "_law_take" ["_law_box_here", "_law_below"] spTake := ⟨_, _, ok_take Fm0 T, PySem.W.mg_of X G am0, Fm0.kp, bm0⟩
  have Cb : Cal l.prog w K mg base CX0 1 "_law_box" ["_law_script", "_law_k"] (spBox K) := ⟨_, _, ok_box Fm1 T, PySem.W.mg_of X G am1, Fm1.kp, bm1⟩
  have Ce : Cal l.prog w K mg base CX0 1 "_law_cells" ["_law_script", "_law_most_so"] (spCells K) := ⟨_, _, ok_cells Fm2 T, PySem.W.mg_of X G am2, Fm2.kp, bm2⟩
  have Co : Cal l.prog w K mg base CX0 2 "_law_of" ["_law_box_here", "_law_some"] spOf := ⟨_, _, ok_of Fm3 T Ct, PySem.W.mg_of X G am3, Fm3.kp, bm3⟩
  have Cn : Cal l.prog w K mg base CX0 3 "_law_names" ["_law_box_here", "_law_some"] spNames := ⟨_, _, ok_names Fm4 T Ct Co, PySem.W.mg_of X G am4, Fm4.kp, bm4⟩
  have Cs0 : Cal l.prog w K mg base CX0 0 "_law_same" ["_law_got", "_law_due"] (spSame K 0) := ⟨_, _, same0, PySem.W.mg_of X G am5, Fm5.kp, bm5⟩
  have Cs1 : Cal l.prog w K mg base CX0 1 "_law_same" ["_law_got", "_law_due"] (spSame K 1) := ⟨_, _, ok_same Fm5 T 0 Cs0, PySem.W.mg_of X G am5, Fm5.kp, bm5⟩
  have Cs2 : Cal l.prog w K mg base CX0 2 "_law_same" ["_law_got", "_law_due"] (spSame K 2) := ⟨_, _, ok_same Fm5 T 1 Cs1, PySem.W.mg_of X G am5, Fm5.kp, bm5⟩
  have Cs3 : Cal l.prog w K mg base CX0 3 "_law_same" ["_law_got", "_law_due"] (spSame K 3) := ⟨_, _, ok_same Fm5 T 2 Cs2, PySem.W.mg_of X G am5, Fm5.kp, bm5⟩
  have Ca : Cal l.prog w K mg base CX0 1 "_law_above" ["_law_made"] (spAbove L) := ⟨_, _, ok_above Fm6 T Y, PySem.W.mg_of X G am6, Fm6.kp, bm6⟩
  have Cf : Cal l.prog w K mg base CX0 1 "_law_first_ones" ["_law_made"] (spFirst L) := ⟨_, _, ok_first Fm7 T Y, PySem.W.mg_of X G am7, Fm7.kp, bm7⟩
  have Cl : Cal l.prog w K mg base CX0 1 "_law_last_ones" ["_law_made"] (spLast L) := ⟨_, _, ok_last Fm8 T Y, PySem.W.mg_of X G am8, Fm8.kp, bm8⟩
  have OX_ : OX l.prog w K mg base L := ⟨O1 base, O2 base, O4 base, O5 base, O6 base, O8 base, O9 base, O13 base, O0 base, O3 base⟩
  have Ck : Cal l.prog w K mg base CX0 3 "_law_of_kind" ["_law_box_here", "_law_own", "_law_far"] (spOfKind L) := ⟨_, _, ok_ofKind Fm9 T Y OX_ Cs2 Ct, PySem.W.mg_of X G am9, Fm9.kp, bm9⟩
  have Cp : Cal l.prog w K mg base CX0 3 "_law_place" ["_law_made", "_law_place_here"] (spPlace L) := ⟨_, _, ok_place Fm10 T Cs2 Ca Cf Cl, PySem.W.mg_of X G am10, Fm10.kp, bm10⟩
  have Cc : Cal l.prog w K mg base CX0 3 "_law_caught" ["_law_own", "_law_far"] spCaught := ⟨_, _, ok_caught Fm11 T Y Cs2 (O3 base) m3 m14 m15 N14 N15, PySem.W.mg_of X G am11, Fm11.kp, bm11⟩
  have Cr : Cal l.prog w K mg base CX0 7 "_law_right" ["_law_box_here"] spRight := ⟨_, _, ok_right Fm12 T Y OX_ N7 N10 N11 N12 N14 N15 Cs3 Cn Co Ct Ck Cp Cc, PySem.W.mg_of X G am12, Fm12.kp, bm12⟩
  exact ok_law Fm13 T Ce Cb Cr
theorem walk {l : PySem.W.OpenLaw} {q : Program} {loose : List Str} {XP : (Str → Option Value) → Heap → Prop} {YP : World → Heap → Prop} {d : DefRec} {K : Params → PySem.W.Frag} (hn : l.most = some 63) (hdf : d.params.defaults = [])
    (hY : ∀ (w : World) (h : Heap), YP w h → (K w.params).In h)
    (F : ∀ (w : World) (mg : Str → Option Value) (fa : Addr) (h : Heap), (K w.params).In h → h.Ns mainGlobals mg → mg d.name = some (.ref fa) →
      ∃ fd : FuncData, (∀ (s : Shared) (u : Value), BindsTo s fd ⟨[u], []⟩ [("_law_script", u)]) ∧ ∀ base : Heap, (K w.params).In base → base.Ns mainGlobals mg → FnOk l.prog w (K w.params) mg base CX0 8 fa fd ["_law_script"] (spLaw (K w.params))) :
    PySem.W.WalkO q loose XP YP l.row.toRowW d [] (fun f vs => PySem.call f vs) :=
  L2.walk_of (n := 63) (k := 8) (x := "_law_script") (CX := fun _ => CX0) (sp := fun w => spLaw (K w.params)) hn (by decide) hdf ⟨rfl, by decide, by decide⟩ hY F (fun _ _ a ns hl _ hS => ⟨a, ns, rfl, hS, hl, fun _ => rfl⟩) fun _ _ _ _ _ z => z
theorem funF {K : PySem.W.Frag} {x qual : Str} {st : Stmt} {f : Addr} {oc : Value} {od an : Option Addr} {osl : Array (Option Value)} {kV doc pm cdv ct : Value} (l : K.lookup f = some ⟨oc, od, .func (PySem.W.fnOf x qual (defArgs st) (defBody st) (defScope st) .none kV doc pm an cdv ct), osl⟩)
    (c : PySem.W.codeIn K cdv qual = true) (k : PySem.W.keepIn K (.ref f) = true) : ∃ fd, Fun K x qual st f fd := ⟨_, fun_mk l c k⟩
end My
open PySem PySem.W PyProof.Rows
set_option maxHeartbeats 0 in
theorem PySem.Challenge.cw_onceopened_k59_errors_made_by_hand_holds : PySem.Challenge.rw_onceopened_k59_errors_made_by_hand.Holds := by
  w_on
  o_law
  k_head
  (case hw => w_witness2)
  k_fill
  refine My.walk (l := PySem.Challenge.rw_onceopened_k59_errors_made_by_hand) rfl rfl (fun w h Y => PySem.W.kIn_of Y) ?F
  case F =>
    intro w mg fa h KX G hmg
    refine' My.all_mk KX G hmg ?am0 ?Dm0 ?am1 ?Dm1 ?am2 ?Dm2 ?am3 ?Dm3 ?am4 ?Dm4 ?am5 ?Dm5 ?am6 ?Dm6 ?am7 ?Dm7 ?am8 ?Dm8 ?am9 ?Dm9 ?am10 ?Dm10 ?am11 ?Dm11 ?am12 ?Dm12 ?am13 ?Dm13 ?ae0 ?Ef0 ?Lk0 ?ai0 ?ti0 ?Di0 ?ae1 ?Ef1 ?Lk1 ?ai1 ?ti1 ?Di1 ?ae2 ?Ef2 ?Lk2 ?ai2 ?ti2 ?Di2 ?ae3 ?Ef3 ?Lk3 ?ai3 ?ti3 ?Di3 ?ae4 ?Ef4 ?Lk4 ?ai4 ?ti4 ?Di4 ?ae5 ?Ef5 ?Lk5 ?ai5 ?ti5 ?Di5 ?ae6 ?Ef6 ?Lk6 ?ai6 ?ti6 ?Di6 ?ae7 ?Ef7 ?Lk7 ?xe7 ?ae8 ?Ef8 ?Lk8 ?ai8 ?ti8 ?Di8 ?ae9 ?Ef9 ?Lk9 ?ai9 ?ti9 ?Di9 ?ae10 ?Ef10 ?Lk10 ?xe10 ?ae11 ?Ef11 ?Lk11 ?xe11 ?ae12 ?Ef12 ?Lk12 ?xe12 ?ae13 ?Ef13 ?Lk13 ?ai13 ?ti13 ?Di13 ?ae14 ?Ef14 ?Lk14 ?xe14 ?ae15 ?Ef15 ?Lk15 ?xe15 ?nd ?hn ?ht ?zB ?z_int ?z_len ?z_abs ?z_list ?z_tuple ?z_range ?z_enumerate ?z_isinstance ?z_all ?z_zip ?z_dict ?z_bool ?z_str ?z_set ?z_sorted ?z_min ?z_ValueError ?z_LookupError ?z_ZeroDivisionError
    (case am0 => k_is)
    (case am1 => k_is)
    (case am2 => k_is)
    (case am3 => k_is)
    (case am4 => k_is)
    (case am5 => k_is)
    (case am6 => k_is)
    (case am7 => k_is)
    (case am8 => k_is)
    (case am9 => k_is)
    (case am10 => k_is)
    (case am11 => k_is)
    (case am12 => k_is)
    (case am13 => k_is)
    (case ae0 => k_is)
    (case ae1 => k_is)
    (case ae2 => k_is)
    (case ae3 => k_is)
    (case ae4 => k_is)
    (case ae5 => k_is)
    (case ae6 => k_is)
    (case ae7 => k_is)
    (case ae8 => k_is)
    (case ae9 => k_is)
    (case ae10 => k_is)
    (case ae11 => k_is)
    (case ae12 => k_is)
    (case ae13 => k_is)
    (case ae14 => k_is)
    (case ae15 => k_is)
    (case ai0 => k_is)
    (case ai1 => k_is)
    (case ai2 => k_is)
    (case ai3 => k_is)
    (case ai4 => k_is)
    (case ai5 => k_is)
    (case ai6 => k_is)
    (case ai8 => k_is)
    (case ai9 => k_is)
    (case ai13 => k_is)
    (case Dm0 => (refine' My.funF ?l ?c ?k; (case l => k_is); (case c => k_is); (case k => k_is)))
    (case Dm1 => (refine' My.funF ?l ?c ?k; (case l => k_is); (case c => k_is); (case k => k_is)))
    (case Dm2 => (refine' My.funF ?l ?c ?k; (case l => k_is); (case c => k_is); (case k => k_is)))
    (case Dm3 => (refine' My.funF ?l ?c ?k; (case l => k_is); (case c => k_is); (case k => k_is)))
    (case Dm4 => (refine' My.funF ?l ?c ?k; (case l => k_is); (case c => k_is); (case k => k_is)))
    (case Dm5 => (refine' My.funF ?l ?c ?k; (case l => k_is); (case c => k_is); (case k => k_is)))
    (case Dm6 => (refine' My.funF ?l ?c ?k; (case l => k_is); (case c => k_is); (case k => k_is)))
    (case Dm7 => (refine' My.funF ?l ?c ?k; (case l => k_is); (case c => k_is); (case k => k_is)))
    (case Dm8 => (refine' My.funF ?l ?c ?k; (case l => k_is); (case c => k_is); (case k => k_is)))
    (case Dm9 => (refine' My.funF ?l ?c ?k; (case l => k_is); (case c => k_is); (case k => k_is)))
    (case Dm10 => (refine' My.funF ?l ?c ?k; (case l => k_is); (case c => k_is); (case k => k_is)))
    (case Dm11 => (refine' My.funF ?l ?c ?k; (case l => k_is); (case c => k_is); (case k => k_is)))
    (case Dm12 => (refine' My.funF ?l ?c ?k; (case l => k_is); (case c => k_is); (case k => k_is)))
    (case Dm13 => (refine' My.funF ?l ?c ?k; (case l => k_is); (case c => k_is); (case k => k_is)))
    (case Ef0 => (refine' ⟨?_, ?_, ?_, ?_, ?_, ?_, ?_, ?_, ?_, ?_, ?_⟩ <;> k_is))
    (case Lk0 => (refine' My.lk_mk (x := ?x); (case x => k_is)))
    (case ti0 => k_is)
    (case Di0 => (refine' My.funF ?l ?c ?k; (case l => k_is); (case c => k_is); (case k => k_is)))
    (case Ef1 => (refine' ⟨?_, ?_, ?_, ?_, ?_, ?_, ?_, ?_, ?_, ?_, ?_⟩ <;> k_is))
    (case Lk1 => (refine' My.lk_mk (x := ?x); (case x => k_is)))
    (case ti1 => k_is)
    (case Di1 => (refine' My.funF ?l ?c ?k; (case l => k_is); (case c => k_is); (case k => k_is)))
    (case Ef2 => (refine' ⟨?_, ?_, ?_, ?_, ?_, ?_, ?_, ?_, ?_, ?_, ?_⟩ <;> k_is))
    (case Lk2 => (refine' My.lk_mk (x := ?x); (case x => k_is)))
    (case ti2 => k_is)
    (case Di2 => (refine' My.funF ?l ?c ?k; (case l => k_is); (case c => k_is); (case k => k_is)))
    (case Ef3 => (refine' ⟨?_, ?_, ?_, ?_, ?_, ?_, ?_, ?_, ?_, ?_, ?_⟩ <;> k_is))
    (case Lk3 => (refine' My.lk_mk (x := ?x); (case x => k_is)))
    (case ti3 => k_is)
    (case Di3 => (refine' My.funF ?l ?c ?k; (case l => k_is); (case c => k_is); (case k => k_is)))
    (case Ef4 => (refine' ⟨?_, ?_, ?_, ?_, ?_, ?_, ?_, ?_, ?_, ?_, ?_⟩ <;> k_is))
    (case Lk4 => (refine' My.lk_mk (x := ?x); (case x => k_is)))
    (case ti4 => k_is)
    (case Di4 => (refine' My.funF ?l ?c ?k; (case l => k_is); (case c => k_is); (case k => k_is)))
    (case Ef5 => (refine' ⟨?_, ?_, ?_, ?_, ?_, ?_, ?_, ?_, ?_, ?_, ?_⟩ <;> k_is))
    (case Lk5 => (refine' My.lk_mk (x := ?x); (case x => k_is)))
    (case ti5 => k_is)
    (case Di5 => (refine' My.funF ?l ?c ?k; (case l => k_is); (case c => k_is); (case k => k_is)))
    (case Ef6 => (refine' ⟨?_, ?_, ?_, ?_, ?_, ?_, ?_, ?_, ?_, ?_, ?_⟩ <;> k_is))
    (case Lk6 => (refine' My.lk_mk (x := ?x); (case x => k_is)))
    (case ti6 => k_is)
    (case Di6 => (refine' My.funF ?l ?c ?k; (case l => k_is); (case c => k_is); (case k => k_is)))
    (case Ef7 => (refine' ⟨?_, ?_, ?_, ?_, ?_, ?_, ?_, ?_, ?_, ?_, ?_⟩ <;> k_is))
    (case Lk7 => (refine' My.lk_mk (x := ?x); (case x => k_is)))
    (case xe7 => k_exc)
    (case Ef8 => (refine' ⟨?_, ?_, ?_, ?_, ?_, ?_, ?_, ?_, ?_, ?_, ?_⟩ <;> k_is))
    (case Lk8 => (refine' My.lk_mk (x := ?x); (case x => k_is)))
    (case ti8 => k_is)
    (case Di8 => (refine' My.funF ?l ?c ?k; (case l => k_is); (case c => k_is); (case k => k_is)))
    (case Ef9 => (refine' ⟨?_, ?_, ?_, ?_, ?_, ?_, ?_, ?_, ?_, ?_, ?_⟩ <;> k_is))
    (case Lk9 => (refine' My.lk_mk (x := ?x); (case x => k_is)))
    (case ti9 => k_is)
    (case Di9 => (refine' My.funF ?l ?c ?k; (case l => k_is); (case c => k_is); (case k => k_is)))
    (case Ef10 => (refine' ⟨?_, ?_, ?_, ?_, ?_, ?_, ?_, ?_, ?_, ?_, ?_⟩ <;> k_is))
    (case Lk10 => (refine' My.lk_mk (x := ?x); (case x => k_is)))
    (case xe10 => k_exc)
    (case Ef11 => (refine' ⟨?_, ?_, ?_, ?_, ?_, ?_, ?_, ?_, ?_, ?_, ?_⟩ <;> k_is))
    (case Lk11 => (refine' My.lk_mk (x := ?x); (case x => k_is)))
    (case xe11 => k_exc)
    (case Ef12 => (refine' ⟨?_, ?_, ?_, ?_, ?_, ?_, ?_, ?_, ?_, ?_, ?_⟩ <;> k_is))
    (case Lk12 => (refine' My.lk_mk (x := ?x); (case x => k_is)))
    (case xe12 => k_exc)
    (case Ef13 => (refine' ⟨?_, ?_, ?_, ?_, ?_, ?_, ?_, ?_, ?_, ?_, ?_⟩ <;> k_is))
    (case Lk13 => (refine' My.lk_mk (x := ?x); (case x => k_is)))
    (case ti13 => k_is)
    (case Di13 => (refine' My.funF ?l ?c ?k; (case l => k_is); (case c => k_is); (case k => k_is)))
    (case Ef14 => (refine' ⟨?_, ?_, ?_, ?_, ?_, ?_, ?_, ?_, ?_, ?_, ?_⟩ <;> k_is))
    (case Lk14 => (refine' My.lk_mk (x := ?x); (case x => k_is)))
    (case xe14 => k_exc)
    (case Ef15 => (refine' ⟨?_, ?_, ?_, ?_, ?_, ?_, ?_, ?_, ?_, ?_, ?_⟩ <;> k_is))
    (case Lk15 => (refine' My.lk_mk (x := ?x); (case x => k_is)))
    (case xe15 => k_exc)
    (case nd => decide)
    (case hn => k_is)
    (case ht => k_is)
    (case zB => k_is)
    (case z_int => k_is)
    (case z_len => k_is)
    (case z_abs => k_is)
    (case z_list => k_is)
    (case z_tuple => k_is)
    (case z_range => k_is)
    (case z_enumerate => k_is)
    (case z_isinstance => k_is)
    (case z_all => k_is)
    (case z_zip => k_is)
    (case z_dict => k_is)
    (case z_bool => k_is)
    (case z_str => k_is)
    (case z_set => k_is)
    (case z_sorted => k_is)
    (case z_min => k_is)
    (case z_ValueError => k_is)
    (case z_LookupError => k_is)
    (case z_ZeroDivisionError => k_is)

