import PyProof.Rows.All
import Wide.All
import OpenK.AllK
import Wide.FinOn
import HandS.ForMost
import HandS.Wide
import HandS.Flow
import HandS.Style
import HandS.Walk
import HandS.Zip
import HandS.IsInst
import HandS.Codes
import HandS.TupLe
import KE.KOpsOwn
import HandS.ForExc
import HandS.OwnEq
import HandS.TupSets
import HandS.SetKeys
import HandS.Strs
import HandS.TupAny
import HandS.Defaults
import HandS.Exc
import HandS.ExcOwn
import HandS.ExcBuiltin
import HandS.RaiseMore
import HandS.Small
import HandS.List
import HandS.Evl
import HandS.ExcIs
import HandS.ExcValue
import PySem.Challenge.RW_onceopened_k05_how_often_and_what_is_lef
set_option Elab.async false
set_option maxRecDepth 100000
set_option maxHeartbeats 4000000
/-! the readings, one step each -/
namespace My
open PySem L2
section
variable {σ : L2.St} {H H' H'' : Hp} {D : Ends} {ta tb te : TE} {tr : TA} {ts tu : TS} {tt tt2 : TT} {i j : Nat} {a b p : Addr} {x y v : V} {Q : VK} {K : PySem.W.Frag}
theorem r_seq (h : ts { D with nx := tu D } σ H) : tSeq ts tu D σ H := h
theorem r_next (h : D.nx σ H) : tNext D σ H := h
theorem r_asg {g : TG} (h : te σ H fun x H1 => g x σ H1 D.nx) : tAsg te g D σ H := h
theorem r_gname {q : L2.St → Hp → Prop} (h : q (σ.set i (some x)) H) : gName i x σ H q := h
theorem r_drop (h : te σ H fun _ H1 => D.nx σ H1) : tDrop te D σ H := h
theorem r_ret (h : te σ H D.rt) : tRet te D σ H := h
theorem r_retN (h : D.rt .non H) : tRetN D σ H := h
theorem r_ifS (h : tt σ H fun b H1 => if b = true then ts D σ H1 else tu D σ H1) : tIfS tt ts tu D σ H := h
theorem r_if (h : tt σ H fun b H1 => if b = true then ta σ H1 Q else tb σ H1 Q) : tIf tt ta tb σ H Q := h
theorem r_op {r : R2} (h : ta σ H fun x H1 => tb σ H1 fun y H2 => r x y H2 Q) : tOp r ta tb σ H Q := h
theorem r_un {r : V → Hp → VK → Prop} (h : ta σ H fun x H1 => r x H1 Q) : tUn r ta σ H Q := h
theorem r_cb {r : List V → Hp → VK → Prop} (h : tr σ H fun vs H1 => r vs H1 Q) : tCB r tr σ H Q := h
theorem r_cons {q : List V → Hp → Prop} (h : ta σ H fun x H1 => tr σ H1 fun xs H2 => q (x :: xs) H2) : tCons ta tr σ H q := h
theorem r_nil {q : List V → Hp → Prop} (h : q [] H) : tNil σ H q := h
theorem r_var (e : σ[i]? = some (some v)) (h : Q v H) : tVar i σ H Q := ⟨v, e, h⟩
theorem r_c (h : Q v H) : tC v σ H Q := h
theorem r_test {q : Bool → Hp → Prop} (h : te σ H fun x H' => ∃ k, x = .bl k ∧ q k H') : tTest te σ H q := h
theorem r_B {q : Bool → Hp → Prop} (h : te σ H fun x H' => ∃ k, x = .bl k ∧ q k H') : tB te σ H q := h
theorem r_not {q : Bool → Hp → Prop} (h : tt σ H fun c H' => q (!c) H') : tNot tt σ H q := h
theorem r_and {q : Bool → Hp → Prop} (h : tt σ H fun c H1 => if c = true then tt2 σ H1 q else q false H1) : tAnd tt tt2 σ H q := h
theorem r_or {q : Bool → Hp → Prop} (h : tt σ H fun c H1 => if c = true then q true H1 else tt2 σ H1 q) : tOr tt tt2 σ H q := h
theorem r_andV (h : ta σ H fun x H1 => ∃ c, x = .bl c ∧ if c = true then tb σ H1 Q else Q (.bl false) H1) : tAndV ta tb σ H Q := h
theorem r_orV (h : ta σ H fun x H1 => ∃ c, x = .bl c ∧ if c = true then Q (.bl true) H1 else tb σ H1 Q) : tOrV ta tb σ H Q := h
theorem r_notV (h : ta σ H fun x H1 => ∃ c, x = .bl c ∧ Q (.bl (!c)) H1) : tNotV ta σ H Q := h
theorem r_I0 {g : Int → Int → V} {i j : Int} (h : Q (g i j) H) : rI0 g (.int i) (.int j) H Q := ⟨i, j, rfl, rfl, h⟩
theorem r_I {C : Int → Int → Prop} {g : Int → Int → V} {i j : Int} (c : C i j) (h : Q (g i j) H) : rI C g (.int i) (.int j) H Q := ⟨i, j, rfl, rfl, c, h⟩
theorem r_U {g : Int → V} {i : Int} (h : Q (g i) H) : rU g (.int i) H Q := ⟨i, rfl, h⟩
theorem r_ixL {xs : List V} {i : Int} (hp : SqL K H p xs) (hi : atI xs i = some v) (h : Q v H) : rIxL K (.ref p) (.int i) H Q := ⟨p, xs, i, v, rfl, rfl, hp, hi, h⟩
theorem r_ixT {xs : List V} {i : Int} (hp : SqT K H p xs) (hi : atI xs i = some v) (h : Q v H) : rIxT K (.ref p) (.int i) H Q := ⟨p, xs, i, v, rfl, rfl, hp, hi, h⟩
theorem r_ixS {z : Str} {i : Int} {c : Nat} (hz : z.length ≤ sizeLine) (hi : atI z.cps.toList i = some c) (h : Q (.str ⟨#[c]⟩) H) : rIxS (.str z) (.int i) H Q := ⟨z, i, c, rfl, rfl, hz, hi, h⟩
theorem r_gsub {to ti : TE} {t : TSet} {q : L2.St → Hp → Prop} (h : to σ H fun o H1 => ti σ H1 fun i H2 => t o i v H2 fun H3 => q σ H3) : gSub to ti t v σ H q := h
theorem r_setL {xs : List V} {k : Int} {q : Hp → Prop} (hp : H p = some (.lst xs)) (hj : ixN xs.length k = some j) (h : q (upd H p (.lst (xs.set j v)))) : rSetL (.ref p) (.int k) v H q := ⟨p, xs, k, j, rfl, rfl, hp, hj, h⟩
theorem r_eq (hs : scal x y = true) (h : Q (.bl (decide (x = y))) H) : rEq x y H Q := ⟨hs, h⟩
theorem r_ne (hs : scal x y = true) (h : Q (.bl (!decide (x = y))) H) : rNe x y H Q := ⟨hs, h⟩
theorem r_tup (h : tr σ H fun xs H1 => xs.length ≤ sizeLine ∧ ∀ p, H1 p = none → Q (.ref p) (upd H1 p (.tup xs))) : tTup tr σ H Q := h
theorem r_lst (h : tr σ H fun xs H1 => xs.length ≤ sizeLine ∧ ∀ p, H1 p = none → Q (.ref p) (upd H1 p (.lst xs))) : tLst tr σ H Q := h
theorem r_bm {T : String} {r : V → List V → Hp → VK → Prop} (h : ta σ H fun x H1 => tyV K T x H1 ∧ tr σ H1 fun xs H2 => r x xs H2 Q) : tBM K T r ta tr σ H Q := h
/-! tests whose outcome is open -/
theorem ite_d {c A B : Prop} [Decidable c] (h1 : c → A) (h2 : ¬ c → B) : if decide c = true then A else B := ite2 (fun h => h1 (of_decide_eq_true h)) (fun h => h2 (fun z => h (decide_eq_true z)))
theorem ite_nd {c A B : Prop} [Decidable c] (h1 : ¬ c → A) (h2 : c → B) : if (!decide c) = true then A else B := ite2 (fun h => h1 (fun z => by rw [decide_eq_true z] at h; exact Bool.noConfusion h)) (fun h => h2 (by
  by_cases z : c
  · exact z
  · rw [decide_eq_false z] at h; exact absurd rfl h))
theorem ite_dT {c A B : Prop} [Decidable c] (hc : c) (h : A) : if decide c = true then A else B := by rw [decide_eq_true hc]; exact iteT h
theorem ite_dF {c A B : Prop} [Decidable c] (hc : ¬ c) (h : B) : if decide c = true then A else B := by rw [decide_eq_false hc]; exact iteF h
theorem ite_ndT {c A B : Prop} [Decidable c] (hc : ¬ c) (h : A) : if (!decide c) = true then A else B := by rw [decide_eq_false hc]; exact iteT h
theorem ite_ndF {c A B : Prop} [Decidable c] (hc : c) (h : B) : if (!decide c) = true then A else B := by rw [decide_eq_true hc]; exact iteF h
end
/-! frames -/
/-- all that was tracked but what stands at a is as it was -/
def Kp (a : Addr) (H H' : Hp) : Prop := ∀ c o, H c = some o → c ≠ a → H' c = some o
theorem Kp.refl (a : Addr) (H : Hp) : Kp a H H := fun _ _ h _ => h
theorem Kp.trans {a : Addr} {H H1 H2 : Hp} (h : Kp a H H1) (h' : Kp a H1 H2) : Kp a H H2 := fun c o e n => h' c o (h c o e n) n
theorem Kp.at {a c : Addr} {H H' : Hp} {o : HO} (h : Kp a H H') (e : H c = some o) (n : c ≠ a) : H' c = some o := h c o e n
theorem Kp.of {a : Addr} {H H' : Hp} (h : Same H H') : Kp a H H' := fun c o e _ => h c o e
theorem Same.at {c : Addr} {H H' : Hp} {o : HO} (h : Same H H') (e : H c = some o) : H' c = some o := h c o e
theorem upd_at {H : Hp} {a b : Addr} {o u : HO} (e : H b = some u) (n : b ≠ a) : upd H a o b = some u := (upd_ne n).trans e
theorem Kp.free {a p : Addr} {H H' : Hp} (h : Kp a H H') (e : H' p = none) (n : p ≠ a) : H p = none := by
  cases q : H p with
  | none => rfl
  | some o => rw [h p o q n] at e; cases e
end My
namespace My
open PySem L2
theorem sz {n : Nat} (h : n ≤ 100000) : n ≤ sizeLine := Nat.le_trans h (by decide)
theorem szl {n : Nat} (h : n < 100000) : n < sizeLine := Nat.lt_of_lt_of_le h (by decide)
/-! calls -/
structure Cal (P : Program) (w : World) (K : PySem.W.Frag) (mg : Str → Option Value) (base : Heap) (CX : CXT) (k : Nat) (x : Str) (ps : List Str) (sp : Sp) : Prop where
  ex : ∃ (f : Addr) (fd : FuncData), FnOk P w K mg base CX k f fd ps sp ∧ mg x = some (.ref f) ∧ PySem.W.keepIn K (.ref f) = true ∧ Binds K fd ps []
def tCal (sp : Sp) (E : XK) (t : TA) : TE := fun σ H Q => t σ H fun vs H1 => sp vs H1 Q E
section
variable {X : Cx} {CX : CXT} {k : Nat} {ps : List Str} {sp : Sp} {E : XK} {x : Str} {p pos : Pos} {e : Expr} {es : List Expr} {t : TA}
theorem pe_cal (C : Cal X.prog X.w X.K X.mg X.base CX k x ps sp) (hr : Room k X.A) (hx : Passes CX X E) (ha : PA X (e :: es) t) (hg : Gl X x := by rfl)
    (hdb : (x == ("__debug__" : Str)) = false := by decide) (he : starEach (e :: es) X.env = (false, eval e X.env) :: starEach es X.env := by rfl) (hpl : (backTo pos (starEach es X.env)).any (·.1) = false := by rfl) :
    PE X (.Call (.Name x p) (e :: es) [] pos) (tCal sp E t) := by
  obtain ⟨f, fd, F, hm, hk, hb⟩ := C.ex
  have h := pe_call (p := p) (pos := pos) F hr hg hm hk hb (dvs := []) .nil hx ha hdb he hpl
  refine ⟨fun pins s σ H Q I q => h.run pins s σ H Q I ?_⟩
  have e : (fun vs H1 => sp (vs ++ []) H1 Q E) = fun vs H1 => sp vs H1 Q E := by
    funext vs H1
    rw [List.append_nil]
  show t σ H (fun vs H1 => sp (vs ++ []) H1 Q E)
  rw [e]
  exact q
theorem r_cal {σ : L2.St} {H : Hp} {Q : VK} (h : t σ H fun vs H1 => sp vs H1 Q E) : tCal sp E t σ H Q := h
end
end My
namespace My
open PySem L2
/-! built-ins with a name of their own -/
def rLenL (K : PySem.W.Frag) : List V → Hp → VK → Prop := fun vs H Q => ∃ a xs, vs = [V.ref a] ∧ SqL K H a xs ∧ Q (.int xs.length) H
def rLenT (K : PySem.W.Frag) : List V → Hp → VK → Prop := fun vs H Q => ∃ a xs, vs = [V.ref a] ∧ SqT K H a xs ∧ Q (.int xs.length) H
def rLenS : List V → Hp → VK → Prop := fun vs H Q => ∃ z : Str, vs = [V.str z] ∧ z.length ≤ sizeLine ∧ Q (.int z.length) H
def rLenD : List V → Hp → VK → Prop := fun vs H Q => ∃ a kvs, vs = [V.ref a] ∧ H a = some (.dK kvs) ∧ Q (.int kvs.length) H
def rAbs : List V → Hp → VK → Prop := fun vs H Q => ∃ i, vs = [V.int i] ∧ Q (.int (if i < 0 then -i else i)) H
def rInt : List V → Hp → VK → Prop := fun xs H Q => (∃ i, xs = [V.int i] ∧ Q (.int i) H) ∨ ∃ k, xs = [V.bl k] ∧ Q (.int (if k then 1 else 0)) H
def rList (K : PySem.W.Frag) : List V → Hp → VK → Prop := fun xs H Q => ∃ p ys, xs = [.ref p] ∧ (SqL K H p ys ∨ SqT K H p ys) ∧ ∀ l, H l = none → Q (.ref l) (upd H l (.lst ys))
def rTupL (K : PySem.W.Frag) : List V → Hp → VK → Prop := fun xs H Q => ∃ p ys, xs = [.ref p] ∧ SqL K H p ys ∧ ∀ l, H l = none → Q (.ref l) (upd H l (.tup ys))
def rTupT (K : PySem.W.Frag) : List V → Hp → VK → Prop := fun xs H Q => ∃ p ys, xs = [.ref p] ∧ SqT K H p ys ∧ Q (.ref p) H
def rJoin (K : PySem.W.Frag) : V → List V → Hp → VK → Prop := fun x xs H Q => ∃ a p, ∃ ys : List Str, x = .str a ∧ xs = [.ref p] ∧ (SqL K H p (ys.map V.str) ∨ SqT K H p (ys.map V.str)) ∧ (ys.map (·.length)).sum + ys.length * a.length ≤ 16777216 ∧ Q (.str (Txt.join a ys)) H
def rCatS : R2 := fun x y H Q => ∃ i j, x = .str i ∧ y = .str j ∧ i.length + j.length ≤ sizeLine ∧ Q (.str (i ++ j)) H
section
variable {X : Cx}
theorem c_lenL : CallR X (.builtin "len") (rLenL X.K) := fun pins s σ H xs us Q I r ⟨a, ys, e, h, q⟩ => call_len pins s σ H xs us Q I r ⟨.ref a, ys.length, e, Or.inl ⟨ys, h, rfl⟩, q⟩
theorem c_lenT : CallR X (.builtin "len") (rLenT X.K) := fun pins s σ H xs us Q I r ⟨a, ys, e, h, q⟩ => call_len pins s σ H xs us Q I r ⟨.ref a, ys.length, e, Or.inr ⟨ys, h, rfl⟩, q⟩
theorem c_lenS : CallR X (.builtin "len") rLenS := fun pins s σ H xs us Q I r ⟨z, e, h, q⟩ => call_len pins s σ H xs us Q I r ⟨.str z, z.length, e, ⟨h, rfl⟩, q⟩
theorem c_lenD : CallR X (.builtin "len") rLenD := call_lenD
theorem c_abs : CallR X (.builtin "abs") rAbs := call_abs
theorem c_int : CallR X (.type "int") rInt := call_int1
theorem c_list : CallR X (.type "list") (rList X.K) := call_list_of
theorem c_tupL : CallR X (.type "tuple") (rTupL X.K) := fun pins s σ H xs us Q I r ⟨a, ys, e, h, q⟩ => call_tuple_of pins s σ H xs us Q I r ⟨a, ys, e, Or.inl ⟨h, q⟩⟩
theorem c_tupT : CallR X (.type "tuple") (rTupT X.K) := call_tupleT
theorem m_join : MtR X "str.join" (rJoin X.K) := mt_join
theorem o_catS : OpR X (binaryOp .Add) rCatS := op_add_str
theorem pe_joinR {o e : Expr} {to te : TE} {apos pos : Pos} (ho : PE X o to) (he : PE X e te) (hs : starEach [e] X.env = [(false, eval e X.env)] := by rfl) (hbase : attributeBase o "join" X.env (eval o X.env) = eval o X.env := by rfl) (hline : (apos.endLine == pos.line) = true := by rfl) :
    PE X (.Call (.Attribute o "join" apos) [e] [] pos) (tM1 (rJoin X.K) to te) := pe_m1 PySem.F.slot_str_join PySem.F.type_str_join m_join ho he hs hbase hline
end
section
variable {σ : L2.St} {H : Hp} {Q : VK} {K : PySem.W.Frag} {a p : Addr} {xs : List V} {x y v : V} {D : Ends}
theorem r_lenL (h : SqL K H a xs) (q : Q (.int xs.length) H) : rLenL K [.ref a] H Q := ⟨a, xs, rfl, h, q⟩
theorem r_lenT (h : SqT K H a xs) (q : Q (.int xs.length) H) : rLenT K [.ref a] H Q := ⟨a, xs, rfl, h, q⟩
theorem r_lenS {z : Str} (h : z.length ≤ sizeLine) (q : Q (.int z.length) H) : rLenS [.str z] H Q := ⟨z, rfl, h, q⟩
theorem r_lenD {kvs : List (Key × V)} (h : H a = some (.dK kvs)) (q : Q (.int kvs.length) H) : rLenD [.ref a] H Q := ⟨a, kvs, rfl, h, q⟩
theorem r_abs {i : Int} (q : Q (.int (if i < 0 then -i else i)) H) : rAbs [.int i] H Q := ⟨i, rfl, q⟩
theorem r_intI {i : Int} (q : Q (.int i) H) : rInt [.int i] H Q := .inl ⟨i, rfl, q⟩
theorem r_intB {k : Bool} (q : Q (.int (if k then 1 else 0)) H) : rInt [.bl k] H Q := .inr ⟨k, rfl, q⟩
theorem r_list (h : SqL K H p xs ∨ SqT K H p xs) (q : ∀ l, H l = none → Q (.ref l) (upd H l (.lst xs))) : rList K [.ref p] H Q := ⟨p, xs, rfl, h, q⟩
theorem r_tupL (h : SqL K H p xs) (q : ∀ l, H l = none → Q (.ref l) (upd H l (.tup xs))) : rTupL K [.ref p] H Q := ⟨p, xs, rfl, h, q⟩
theorem r_tupT (h : SqT K H p xs) (q : Q (.ref p) H) : rTupT K [.ref p] H Q := ⟨p, xs, rfl, h, q⟩
theorem r_join {b : Str} {ys : List Str} (h : SqL K H p (ys.map V.str)) (l : (ys.map (·.length)).sum + ys.length * b.length ≤ 16777216) (q : Q (.str (Txt.join b ys)) H) : rJoin K (.str b) [.ref p] H Q := ⟨b, p, ys, rfl, rfl, .inl h, l, q⟩
theorem r_m1 {r : V → List V → Hp → VK → Prop} {to te : TE} (h : to σ H fun x H1 => (∃ a, x = .str a) ∧ te σ H1 fun y H2 => r x [y] H2 Q) : tM1 r to te σ H Q := h
theorem r_catS {i j : Str} (l : i.length + j.length ≤ sizeLine) (q : Q (.str (i ++ j)) H) : rCatS (.str i) (.str j) H Q := ⟨i, j, rfl, rfl, l, q⟩
theorem r_cat {l b : Addr} {xs zs : List V} (h1 : H l = some (.lst xs)) (h2 : H b = some (.lst zs)) (h3 : xs.length + zs.length ≤ sizeLine) (q : ∀ p, H p = none → Q (.ref p) (upd H p (.lst (xs ++ zs)))) : rCat (.ref l) (.ref b) H Q := ⟨l, b, xs, zs, rfl, rfl, h1, h2, h3, q⟩
theorem r_slL {lo hi : Option Int} (h : SqL K H a xs) (q : ∀ p, H p = none → Q (.ref p) (upd H p (.lst (cutV xs lo hi)))) : rSlL K (.ref a) lo hi H Q := ⟨a, xs, rfl, h, q⟩
theorem r_slS {z : Str} {lo hi : Option Int} (h : z.length ≤ sizeLine) (q : Q (.str (cutS z lo hi)) H) : rSlS (.str z) lo hi H Q := ⟨z, rfl, h, q⟩
theorem r_append {l : Addr} (h : H l = some (.lst xs)) (hl : xs.length < sizeLine) (q : Q .non (upd H l (.lst (xs ++ [y])))) : rAppend (.ref l) [y] H Q := ⟨l, xs, y, rfl, rfl, h, hl, q⟩
theorem r_all {bs : List Bool} (h : SqL K H a (bs.map V.bl)) (q : Q (.bl (bs.all id)) H) : rAll K [.ref a] H Q := ⟨a, bs, rfl, h, q⟩
theorem r_sum {ns : List Int} (h : SqL K H a (ns.map V.int)) (q : Q (.int ns.sum) H) : rSum K [.ref a] H Q := ⟨a, ns, rfl, h, q⟩
theorem r_dnewK (q : ∀ p, H p = none → Q (.ref p) (upd H p (.dK []))) : tDNewK σ H Q := q
theorem r_bmL {r : V → List V → Hp → VK → Prop} {ta : TE} {tr : TA} (h : ta σ H fun x H1 => (∃ a xs, x = .ref a ∧ H1 a = some (.lst xs)) ∧ tr σ H1 fun xs H2 => r x xs H2 Q) (mono : ∀ f g : VK, (∀ x H, f x H → g x H) → ta σ H f → ta σ H g) : tBM K "list" r ta tr σ H Q :=
  mono _ _ (fun x H1 ⟨⟨a, ys, e, ha⟩, z⟩ => ⟨by subst e; exact .inl ⟨rfl, _, SqL.of ha⟩, z⟩) h
end
/-! the box -/
/-- the box: three ints, its draws' count with the room b below a line -/
def Bx (H : Hp) (a : Addr) (b : Nat) : Prop := ∃ x y z : Int, H a = some (.lst [.int x, .int y, .int z]) ∧ 0 ≤ x ∧ 0 ≤ y ∧ y < 3000000000000000000 ∧ 0 ≤ z ∧ z + b ≤ 1000000000
theorem Bx.mono {H : Hp} {a : Addr} {b c : Nat} (h : Bx H a b) (l : c ≤ b) : Bx H a c := by
  obtain ⟨x, y, z, h1, h2, h3, h4, h5, h6⟩ := h
  exact ⟨x, y, z, h1, h2, h3, h4, h5, by omega⟩
theorem Bx.hp {H : Hp} {a : Addr} {b : Nat} (h : Bx H a b) : ∃ o, H a = some o := let ⟨_, _, _, h1, _⟩ := h; ⟨_, h1⟩
theorem Bx.ne {H : Hp} {a p : Addr} {b : Nat} (h : Bx H a b) (hp : H p = none) : a ≠ p := let ⟨_, e⟩ := h.hp; ne_of_none e hp
theorem Bx.upd {H : Hp} {a p : Addr} {b : Nat} {o : HO} (h : Bx H a b) (hp : a ≠ p) : Bx (L2.upd H p o) a b := by
  obtain ⟨x, y, z, h1, h2⟩ := h
  exact ⟨x, y, z, upd_at h1 hp, h2⟩
theorem Bx.same {H H' : Hp} {a : Addr} {b : Nat} (h : Bx H a b) (e : Same H H') : Bx H' a b := by
  obtain ⟨x, y, z, h1, h2⟩ := h
  exact ⟨x, y, z, e _ _ h1, h2⟩
end My
namespace My
open PySem L2
section
variable {σ : L2.St} {H : Hp} {Q : VK} {q : Option Int → Hp → Prop} {te : TE} {tl th : TO}
theorem r_slice {r : V → Option Int → Option Int → Hp → VK → Prop} (h : te σ H fun x H1 => tl σ H1 fun l H2 => th σ H2 fun u H3 => r x l u H3 Q) : tSl r te tl th σ H Q := h
theorem r_part (h : te σ H fun x H1 => ∃ i, x = .int i ∧ q (some i) H1) : tPart te σ H q := h
theorem r_nopart (h : q none H) : tNoPart σ H q := h
end
end My
namespace My
open PySem L2
theorem r_mulL {H : Hp} {Q : VK} {i j : Int} {g : Int → Int → V} (h : -(2 ^ 64) < i ∧ i < 2 ^ 64) (q : Q (g i j) H) : rI CMul g (.int i) (.int j) H Q := r_I (C := CMul) (Or.inl h) q
theorem r_mulR {H : Hp} {Q : VK} {i j : Int} {g : Int → Int → V} (h : -(2 ^ 64) < j ∧ j < 2 ^ 64) (q : Q (g i j) H) : rI CMul g (.int i) (.int j) H Q := r_I (C := CMul) (Or.inr h) q
end My
namespace My
open PySem L2
theorem noxK {CX : CXT} {P : Program} {w : World} {K : PySem.W.Frag} {mg : Str → Option Value} {base : Heap} {N : List Str} {qual : Str} {scope : Scope} {f : Addr} {cd : Value} {A : Around} {outer : List Env} {s : Shared} {H : Hp} {E : XK} : (cxOf CX P w K mg base N qual scope f cd A outer s H E).nox.K = K := rfl
theorem cxK {CX : CXT} {P : Program} {w : World} {K : PySem.W.Frag} {mg : Str → Option Value} {base : Heap} {N : List Str} {qual : Str} {scope : Scope} {f : Addr} {cd : Value} {A : Around} {outer : List Env} {s : Shared} {H : Hp} {E : XK} : (cxOf CX P w K mg base N qual scope f cd A outer s H E).K = K := rfl
end My
namespace My
open PySem L2
section
variable {σ : L2.St} {H : Hp} {Q : VK} {K : PySem.W.Frag} {R : It → Hp → Prop} {tl : TE} {ta : TA} {D : Ends} {wi : TI} {g : TG} {tb : TS} {a : Addr} {xs : List V} {j : Int}
theorem r_for (h : wi σ H fun J H1 => ∃ W : Nat → Nat → L2.St → Hp → Prop, (∃ m, W 0 m σ H1) ∧ ∀ i m σ H, W i m σ H →
  (J.stop i H ∧ D.nx σ H) ∨ (J.go i H ∧ ∃ N : L2.St → Hp → Prop, (∀ σ' H', N σ' H' → ∃ m', m' < m ∧ W (i + 1) m' σ' H') ∧ ∀ x H', J.yld i H x H' → g x σ H' fun σ2 H2 => tb { D with nx := N, ct := N, bk := D.nx } σ2 H2)) : tFor wi g tb D σ H := h
theorem r_lc {tt : TT} {te : TE} {vs : List Nat} (h : wi σ H fun J H1 => ∀ D, H1 D = none → ∃ W : Nat → Nat → Hp → Prop, (∃ m, W 0 m (upd H1 D (.lst []))) ∧ ∀ i m H, W i m H →
  (J.stop i H ∧ Q (.ref D) H) ∨ (J.go i H ∧ ∃ Nx : Hp → Prop, (∀ H', Nx H' → ∃ m', m' < m ∧ W (i + 1) m' H') ∧ ∀ x H', J.yld i H x H' → g x (wipe σ vs) H' fun σ2 H2 => wipe σ2 vs = wipe σ vs ∧ tt σ2 H2 fun b H3 =>
    if b = true then te σ2 H3 fun y H4 => ∃ acc, H4 D = some (.lst acc) ∧ acc.length < sizeLine ∧ Nx (upd H4 D (.lst (acc ++ [y]))) else Nx H3)) : tLc wi g tt te vs σ H Q := h
theorem r_iList (h : tl σ H fun x H1 => ∃ a, x = .ref a ∧ (∃ xs, SqL K H1 a xs) ∧ R (Itl K a) H1) : iList K tl σ H R := h
theorem r_iTup (h : tl σ H fun x H1 => ∃ a, x = .ref a ∧ (∃ xs, SqT K H1 a xs) ∧ R (Itt K a) H1) : iTup K tl σ H R := h
theorem r_wLst {B : Prop} (h : SqL K H a xs) (q : B) : (∃ xs, SqL K H a xs) ∧ B := ⟨⟨xs, h⟩, q⟩
theorem r_wTup {B : Prop} (h : SqT K H a xs) (q : B) : (∃ xs, SqT K H a xs) ∧ B := ⟨⟨xs, h⟩, q⟩
theorem r_iRng1 (h : ta σ H fun vs H1 => ∃ j : Int, vs = [.int j] ∧ -(2 ^ 62) ≤ j ∧ j < 2 ^ 62 ∧ R (Itr 0 j.toNat) H1) : iRng1 ta σ H R := h
theorem r_wRng {B : Prop} (h1 : -(2 ^ 62) ≤ j ∧ j < 2 ^ 62) (q : B) : -(2 ^ 62) ≤ j ∧ j < 2 ^ 62 ∧ B := ⟨h1.1, h1.2, q⟩
theorem r_iEnum (h : ta σ H fun vs H1 => ∃ a xs, vs = [.ref a] ∧ SqL K H1 a xs ∧ R (Ite K a) H1) : iEnum K ta σ H R := h
theorem r_orT {ta tb : TE} (h : ta σ H fun x H1 => ∃ k, TruV K x H1 k ∧ if k = true then Q x H1 else tb σ H1 Q) : tOrT K ta tb σ H Q := h
theorem r_truL {P : Bool → Prop} (h : SqL K H a xs) (q : P (!xs.isEmpty)) : ∃ k, TruV K (.ref a) H k ∧ P k := ⟨_, Or.inl ⟨xs, h, rfl⟩, q⟩
/-! slices -/
theorem cutV_to (xs : List V) (k : Nat) : cutV xs none (some (k : Int)) = xs.take k := by
  unfold cutV
  rw [HT.sIx_none, HT.sIx_nat, List.drop_zero, Nat.sub_zero]
  by_cases h : k ≤ xs.length
  · rw [Nat.min_eq_left h]
  · rw [Nat.min_eq_right (by omega), List.take_length, List.take_of_length_le (by omega)]
theorem cutV_from (xs : List V) (k : Nat) : cutV xs (some (k : Int)) none = xs.drop k := by
  unfold cutV
  rw [HT.sIx_none, HT.sIx_nat]
  by_cases h : k ≤ xs.length
  · rw [Nat.min_eq_left h, List.take_of_length_le (by rw [List.length_drop]; omega)]
  · rw [Nat.min_eq_right (by omega), List.drop_length, List.drop_of_length_le (by omega), List.take_nil]
theorem cutV_mid (xs : List V) (i j : Nat) : cutV xs (some (i : Int)) (some (j : Int)) = (xs.drop i).take (j - i) := by
  unfold cutV
  rw [HT.sIx_nat, HT.sIx_nat]
  by_cases h : i ≤ xs.length
  · rw [Nat.min_eq_left h]
    by_cases h2 : j ≤ xs.length
    · rw [Nat.min_eq_left h2]
    · rw [Nat.min_eq_right (by omega), List.take_of_length_le (i := j - i) (by rw [List.length_drop]; omega), List.take_of_length_le (by rw [List.length_drop]; omega)]
  · rw [Nat.min_eq_right (a := i) (by omega), List.drop_length, List.drop_of_length_le (by omega), List.take_nil, List.take_nil]
theorem cutS_to (z : Str) (k : Nat) : (cutS z none (some (k : Int))).cps.toList = z.cps.toList.take k := by
  have hz : z.length = z.cps.toList.length := by rw [Array.length_toList]; rfl
  show ((z.cps.toList.drop (HT.sIx z.length 0 none)).take (HT.sIx z.length z.length (some (k : Int)) - HT.sIx z.length 0 none)).toArray.toList = _
  rw [List.toList_toArray, HT.sIx_none, HT.sIx_nat, List.drop_zero, Nat.sub_zero, hz]
  by_cases h : k ≤ z.cps.toList.length
  · rw [Nat.min_eq_left h]
  · rw [Nat.min_eq_right (by omega), List.take_length, List.take_of_length_le (by omega)]
theorem cutS_from (z : Str) (k : Nat) : (cutS z (some (k : Int)) none).cps.toList = z.cps.toList.drop k := by
  have hz : z.length = z.cps.toList.length := by rw [Array.length_toList]; rfl
  show ((z.cps.toList.drop (HT.sIx z.length 0 (some (k : Int)))).take (HT.sIx z.length z.length none - HT.sIx z.length 0 (some (k : Int)))).toArray.toList = _
  rw [List.toList_toArray, HT.sIx_none, HT.sIx_nat, hz]
  by_cases h : k ≤ z.cps.toList.length
  · rw [Nat.min_eq_left h, List.take_of_length_le (by rw [List.length_drop]; omega)]
  · rw [Nat.min_eq_right (by omega), List.drop_length, List.drop_of_length_le (by omega), List.take_nil]
end
end My
namespace My
open PySem L2
section
variable {σ : L2.St} {H : Hp} {K : PySem.W.Frag} {a p : Addr} {xs : List V} {R : Prop} {S : Addr → Prop}
theorem r_exb {b : Bool} {q : Bool → Prop} (h : q b) : ∃ k, V.bl b = V.bl k ∧ q k := ⟨b, rfl, h⟩
theorem r_exi {i : Int} {q : Int → Prop} (h : q i) : ∃ k, V.int i = V.int k ∧ q k := ⟨i, rfl, h⟩
theorem r_exr {q : Addr → Prop} (h : q a) : ∃ k, V.ref a = V.ref k ∧ q k := ⟨a, rfl, h⟩
theorem r_exs {z : Str} {q : Str → Prop} (h : q z) : ∃ k, V.str z = V.str k ∧ q k := ⟨z, rfl, h⟩
theorem r_exli {i : Int} {q : Int → Prop} (h : q i) : ∃ k, [V.int i] = [V.int k] ∧ q k := ⟨i, rfl, h⟩
theorem r_strV {z : Str} (h : R) : (∃ a, V.str z = .str a) ∧ R := ⟨⟨z, rfl⟩, h⟩
theorem r_tyL (h : SqL K H p xs) (q : R) : tyV K "list" (.ref p) H ∧ R := ⟨.inl ⟨rfl, xs, h⟩, q⟩
theorem r_disp {n : Nat} (h : n ≤ 100000) (q : ∀ p, S p) : n ≤ sizeLine ∧ ∀ p, S p := ⟨sz h, q⟩
end
end My
namespace My
open PySem L2
section
variable {σ : L2.St} {H : Hp} {K : PySem.W.Frag} {a : Addr} {x : V} {xs : List V} {g : TG} {gs : TGs} {n : Nat} {Q : L2.St → Hp → Prop}
theorem r_gtup (h : SqT K H a xs) (hl : xs.length = n) (q : gs xs σ H Q) : gTup K n gs (.ref a) σ H Q := ⟨a, xs, rfl, h, hl, q⟩
theorem r_gcons (q : g x σ H fun σ' H' => gs xs σ' H' Q) : gCons g gs (x :: xs) σ H Q := ⟨x, xs, rfl, q⟩
theorem r_gnil (q : Q σ H) : gNil [] σ H Q := ⟨rfl, q⟩
theorem ite01 (k : Bool) : (0 : Int) ≤ (if k = true then 1 else 0) := by cases k <;> decide
end
end My
namespace My
open PySem L2
theorem ixN_lt {n j : Nat} (h : j < n) : ixN n (j : Int) = some j := by
  unfold ixN
  rw [if_pos (by omega), if_pos (by omega), Int.toNat_natCast]
theorem map_get {xs : List Int} {j : Nat} (h : j < xs.length) : (xs.map V.int)[j]? = some (V.int xs[j]) := by rw [List.getElem?_map, List.getElem?_eq_getElem h]; rfl
theorem map_some {α : Type} {f : α → V} {xs : List α} {i : Nat} {v : V} (h : (xs.map f)[i]? = some v) : ∃ c, v = f c ∧ xs[i]? = some c := by
  rw [List.getElem?_map] at h
  cases e : xs[i]? with
  | none => rw [e] at h; cases h
  | some c => rw [e] at h; exact ⟨c, (Option.some.inj h).symm, rfl⟩
end My
namespace My
open PySem L2
section
variable {σ : L2.St} {H : Hp} {D : Ends} {ta : TA} {i j l : Nat}
theorem r_par (h : ta σ H fun vs H1 => ∃ v w, vs = [v, w] ∧ D.nx ((σ.set i (some v)).set j (some w)) H1) : tPar i j ta D σ H := h
theorem r_par3 (h : ta σ H fun vs H1 => ∃ u v w, vs = [u, v, w] ∧ D.nx (((σ.set i (some u)).set j (some v)).set l (some w)) H1) : tPar3 i j l ta D σ H := h
theorem r_ex2 {v w : V} {q : V → V → Prop} (h : q v w) : ∃ a b, [v, w] = [a, b] ∧ q a b := ⟨v, w, rfl, h⟩
theorem r_ex3 {u v w : V} {q : V → V → V → Prop} (h : q u v w) : ∃ a b c, [u, v, w] = [a, b, c] ∧ q a b c := ⟨u, v, w, rfl, h⟩
end
end My
namespace My
open PySem L2
section
variable {K : PySem.W.Frag} {H H' : Hp} {a b p : Addr} {xs : List V} {o : HO} {n : Nat}
theorem Rd_upd {u : HO} (h : Rd H a u) (hp : H p = none) : Rd (upd H p o) a u := by
  rcases h with h | ⟨w, h⟩
  · exact .inl (upd_at h (ne_of_none h hp))
  · exact .inr ⟨w, upd_at h (ne_of_none h hp)⟩
theorem SqT.upd (h : SqT K H a xs) (hp : H p = none) : SqT K (L2.upd H p o) a xs := h.elim (fun h => .inl (Rd_upd h hp)) .inr
theorem SqL.upd (h : SqL K H a xs) (hp : H p = none) : SqL K (L2.upd H p o) a xs := h.elim (fun h => .inl (Rd_upd h hp)) .inr
theorem SqT.same (h : SqT K H a xs) (e : Same H H') : SqT K H' a xs := by
  rcases h with (h | ⟨o, h⟩) | h
  · exact .inl (.inl (e _ _ h))
  · exact .inl (.inr ⟨o, e _ _ h⟩)
  · exact .inr h
theorem SqT.kp (h : SqT K H a xs) (k : Kp b H H') (x : Bx H b n) : SqT K H' a xs := by
  obtain ⟨_, _, _, hb, _⟩ := x
  rcases h with (h | ⟨o, h⟩) | h
  · exact .inl (.inl (k _ _ h (ne_of h hb (by intro z; cases z))))
  · exact .inl (.inr ⟨o, k _ _ h (ne_of h hb (by intro z; cases z))⟩)
  · exact .inr h
theorem SqL.kp (h : SqL K H a xs) (k : Kp b H H') (ne : a ≠ b) : SqL K H' a xs := by
  rcases h with (h | ⟨o, h⟩) | h
  · exact .inl (.inl (k _ _ h ne))
  · exact .inl (.inr ⟨o, k _ _ h ne⟩)
  · exact .inr h
end
theorem perm_out {α : Type} (ys rs : List α) {j : Nat} (h : j < rs.length) : ((ys ++ [rs[j]]) ++ (rs.take j ++ rs.drop (j + 1))).Perm (ys ++ rs) := by
  rw [List.append_assoc]
  refine List.Perm.append_left ys ?_
  have e : rs = rs.take j ++ rs[j] :: rs.drop (j + 1) := by rw [List.getElem_cons_drop, List.take_append_drop]
  have e2 : ([rs[j]] ++ (rs.take j ++ rs.drop (j + 1))).Perm (rs.take j ++ rs[j] :: rs.drop (j + 1)) := by
    show (rs[j] :: (rs.take j ++ rs.drop (j + 1))).Perm _
    exact List.perm_middle.symm
  exact e2.trans (List.Perm.of_eq e.symm)
end My
namespace My
open PySem L2
section
variable {H : Hp} {Q : VK} {K : PySem.W.Frag} {x : V} {p : Addr} {T c c1 c2 : String} {b b1 b2 : Bool}
theorem r_isi (b : Bool) (ty : TyX K H x (.type T)) (e : kitB T c = some b) (q : Q (.bl b) H) : rIsi K [x, .ty c] H Q := ⟨x, .ty c, .type T, .type c, b, rfl, .ty c, ty, kit_ty e, q⟩
theorem r_isiT (b1 b2 : Bool) (ty : TyX K H x (.type T)) (hp : H p = some (.tup [.ty c1, .ty c2])) (e1 : kitB T c1 = some b1) (e2 : kitB T c2 = some b2) (q : Q (.bl (b1 || b2)) H) : rIsiT K [x, .ref p] H Q :=
  ⟨x, p, [.ty c1, .ty c2], .type T, [.type c1, .type c2], b1 || b2, rfl, hp, .cons (.ty c1) (.cons (.ty c2) .nil), ty, by
    refine kitAny_cons (kit_ty e1) (fun z => ?_) (fun z => by rw [z]; rfl)
    rw [z]
    exact kitAny_cons (kit_ty e2) (fun z => by rw [z]; exact kitAny_nil) (fun z => by rw [z]; rfl), q⟩
def rIsN : R2 := fun x y H Q => y = .non ∧ Q (.bl (decide (x = .non))) H
def rNotN : R2 := fun x y H Q => y = .non ∧ Q (.bl (!decide (x = .non))) H
theorem o_isN {X : Cx} : OpR X (compareOp .Is) rIsN := op_isN
theorem o_notN {X : Cx} : OpR X (compareOp .IsNot) rNotN := op_notN
theorem r_isN (q : Q (.bl (decide (x = .non))) H) : rIsN x .non H Q := ⟨rfl, q⟩
theorem r_notN (q : Q (.bl (!decide (x = .non))) H) : rNotN x .non H Q := ⟨rfl, q⟩
theorem tyL {K : PySem.W.Frag} {a : Addr} {xs : List V} (h : H a = some (.lst xs)) : TyX K H (.ref a) (.type "list") := .base (.lst h)
theorem tyT {K : PySem.W.Frag} {a : Addr} {xs : List V} (h : H a = some (.tup xs)) : TyX K H (.ref a) (.type "tuple") := .base (.tup h)
end
end My
namespace My
open PySem L2
theorem r_iZipA {σ : L2.St} {H : Hp} {K : PySem.W.Frag} {ta : TA} {R : It → Hp → Prop} (h : ta σ H fun vs H1 => ∃ a b xs ys, vs = [.ref a, .ref b] ∧ ((SqL K H1 a xs ∧ SqL K H1 b ys ∧ R (Itz K a b) H1) ∨ (SqT K H1 a xs ∧ SqT K H1 b ys ∧ R (RZ.ItzT K a b) H1))) : RZ.iZipA K ta σ H R := h
end My
namespace My
open PySem L2
section
variable {X : Cx}
theorem opK {f : Value → Value → Sem Value} {r : PySem.W.Frag → R2} (K : PySem.W.Frag) (h : OpR X f (r X.K)) (e : X.K = K := by rfl) : OpR X f (r K) := by subst e; exact h
theorem ixK {r : PySem.W.Frag → R2} (K : PySem.W.Frag) (h : IxR X (r X.K)) (e : X.K = K := by rfl) : IxR X (r K) := by subst e; exact h
theorem caK {f : Value} {r : PySem.W.Frag → List V → Hp → VK → Prop} (K : PySem.W.Frag) (h : CallR X f (r X.K)) (e : X.K = K := by rfl) : CallR X f (r K) := by subst e; exact h
theorem slK {r : PySem.W.Frag → V → Option Int → Option Int → Hp → VK → Prop} (K : PySem.W.Frag) (h : SlR X (r X.K)) (e : X.K = K := by rfl) : SlR X (r K) := by subst e; exact h
end
end My

namespace My
open PySem L2
abbrev cds (z : Str) : List Nat := z.cps.toList
def AllL (l : List Nat) : Prop := ∀ c ∈ l, 97 ≤ c ∧ c ≤ 122
/-- one small letter -/
def Lt1 (s : Str) : Prop := ∃ c, s = ⟨#[c]⟩ ∧ 97 ≤ c ∧ c ≤ 122
def KindS (s : Str) : Prop := 1 ≤ (cds s).length ∧ (cds s).length ≤ 8 ∧ AllL (cds s)
theorem len_cds (z : Str) : z.length = (cds z).length := by
  rw [Array.length_toList]
  rfl
theorem joinL_nil : ∀ ps : List (List Nat), TL.joinL [] ps = ps.flatten
  | [] => rfl
  | [p] => by rw [List.flatten_cons, List.flatten_nil, List.append_nil]; rfl
  | p :: q :: r => by
    rw [List.flatten_cons, ← joinL_nil (q :: r)]
    rfl
theorem cds_join (ys : List Str) : cds (Txt.join (Str.ofString "") ys) = (ys.map cds).flatten := by
  rw [TL.join_eq]
  have e := TL.tl_join (Str.ofString "") ys
  have e0 : TL.tl (Str.ofString "") = [] := by decide +kernel
  rw [e0, joinL_nil] at e
  exact e
theorem flat_len : ∀ (ys : List Str), (∀ s ∈ ys, Lt1 s) → ((ys.map cds).flatten.length = ys.length ∧ AllL (ys.map cds).flatten)
  | [], _ => ⟨rfl, fun c h => by simp at h⟩
  | y :: r, h => by
    obtain ⟨h1, h2⟩ := flat_len r fun s hs => h s (List.mem_cons_of_mem _ hs)
    obtain ⟨c, rfl, c1, c2⟩ := h y List.mem_cons_self
    rw [List.map_cons, List.flatten_cons, List.length_append, h1, List.length_cons]
    refine ⟨Nat.add_comm _ _, fun d hd => ?_⟩
    rcases List.mem_append.mp hd with hd | hd
    · have : d = c := by simpa using hd
      subst this
      exact ⟨c1, c2⟩
    · exact h2 d hd
theorem sum_len : ∀ (ys : List Str), (∀ s ∈ ys, Lt1 s) → (ys.map (·.length)).sum = ys.length
  | [], _ => rfl
  | y :: r, h => by
    obtain ⟨c, rfl, _⟩ := h y List.mem_cons_self
    rw [List.map_cons, List.sum_cons, sum_len r fun s hs => h s (List.mem_cons_of_mem _ hs), List.length_cons]
    exact Nat.add_comm 1 _
theorem letters_at : ∀ j : Nat, j < 26 → (cds (Str.ofString "abcdefghijklmnopqrstuvwxyz"))[j]? = some (97 + j) := by decide +kernel
theorem empty_len : (Str.ofString "").length = 0 := by decide +kernel
theorem letters_len : (Str.ofString "abcdefghijklmnopqrstuvwxyz").length = 26 := by decide +kernel
/-- a name as the law draws it: a letter of its own at a place that hangs on its size -/
def NameAt (w : Str) (p c : Nat) : Prop := 1 ≤ (cds w).length ∧ (cds w).length ≤ 8 ∧ (cds w)[p % (cds w).length]? = some c ∧ AllL (cds w)
theorem NameAt.kind {w : Str} {p c : Nat} (h : NameAt w p c) : KindS w := ⟨h.1, h.2.1, h.2.2.2⟩
def steps : List Nat := [1, 3, 5, 7, 9, 11, 15, 17, 19, 21, 23, 25]
theorem names_nodup {p f s : Nat} (hs : s ∈ steps) {ws : List Str} (hl : ws.length ≤ 13) (h : ∀ (k : Nat) (w : Str), ws[k]? = some w → NameAt w p (97 + (f + s * k) % 26)) : ws.Nodup := by
  refine List.pairwise_iff_getElem.mpr fun i j hi hj hij e => ?_
  have h1 := h i ws[i] (List.getElem?_eq_getElem hi)
  have h2 := h j ws[j] (List.getElem?_eq_getElem hj)
  rw [e] at h1
  have e2 := h1.2.2.1.symm.trans h2.2.2.1
  have e3 := Option.some.inj e2
  unfold steps at hs
  simp only [List.mem_cons, List.not_mem_nil, or_false] at hs
  rcases hs with rfl | rfl | rfl | rfl | rfl | rfl | rfl | rfl | rfl | rfl | rfl | rfl <;> omega
/-- a word with one letter put in -/
theorem put_letter {w w' : Str} {c p n : Nat} (hw : (cds w).length = n) (ha : AllL (cds w)) (hn : 1 ≤ n ∧ n ≤ 8) (hc : 97 ≤ c ∧ c ≤ 122) (e : cds w' = (cds w).take (p % n) ++ [c] ++ (cds w).drop (p % n + 1)) : NameAt w' p c := by
  have hp : p % n < n := Nat.mod_lt _ (by omega)
  have hl : (cds w').length = n := by
    rw [e, List.length_append, List.length_append, List.length_take, List.length_drop, hw]
    show min (p % n) n + 1 + (n - (p % n + 1)) = n
    omega
  refine ⟨by omega, by omega, ?_, fun d hd => ?_⟩
  · rw [hl, e, List.append_assoc, List.getElem?_append_right (by rw [List.length_take, hw]; omega), List.length_take, hw, Nat.min_eq_left (by omega), Nat.sub_self]
    rfl
  · rw [e] at hd
    rcases List.mem_append.mp hd with hd | hd
    · rcases List.mem_append.mp hd with hd | hd
      · exact ha d (List.mem_of_mem_take hd)
      · have : d = c := by simpa using hd
        subst this
        exact hc
    · exact ha d (List.mem_of_mem_drop hd)
theorem cds_app (a b : Str) : cds (a ++ b) = cds a ++ cds b := by
  show (a.cps ++ b.cps).toList = _
  rw [Array.toList_append]
section
variable {σ : L2.St} {H : Hp} {Q : VK}
theorem r_yes {q : Bool → Hp → Prop} (h : q true H) : tYes σ H q := h
/-- one of the letters -/
theorem r_ixSl {d : Nat} (h : d < 26 ∧ Q (.str ⟨#[97 + d]⟩) H) : rIxS (.str (Str.ofString "abcdefghijklmnopqrstuvwxyz")) (.int (d : Int)) H Q :=
  r_ixS (sz (by rw [letters_len]; decide)) (atI_nat (letters_at d h.1)) h.2
end
theorem cds_to (z : Str) (k : Nat) : cds (cutS z none (some (k : Int))) = (cds z).take k := cutS_to z k
theorem cds_from (z : Str) (k : Nat) : cds (cutS z (some (k : Int)) none) = (cds z).drop k := cutS_from z k
end My

namespace My
open PySem L2
/-! the order of texts, of pairs (text, number) -/
def sle (s t : Str) : Bool := !decide (cds t < cds s)
theorem sle_iff {s t : Str} : sle s t = true ↔ cds s ≤ cds t := by
  unfold sle
  rw [Bool.not_eq_true', decide_eq_false_iff_not, List.not_lt]
theorem sle_total (s t : Str) : sle s t = true ∨ sle t s = true := by
  rw [sle_iff, sle_iff]
  exact List.le_total _ _
theorem sle_trans {s t u : Str} (h : sle s t = true) (h' : sle t u = true) : sle s u = true := by
  rw [sle_iff] at *
  exact List.le_trans h h'
theorem str_ext {s t : Str} (h : cds s = cds t) : s = t := by
  obtain ⟨a⟩ := s
  obtain ⟨b⟩ := t
  have e : a = b := Array.toList_inj.mp h
  rw [e]
theorem sle_anti {s t : Str} (h : sle s t = true) (h' : sle t s = true) : s = t := by
  rw [sle_iff] at *
  exact str_ext (List.le_antisymm h h')
theorem sle_refl (s : Str) : sle s s = true := (sle_total s s).elim id id
def ple (p q : Str × Int) : Bool := if p.1 = q.1 then decide (p.2 ≤ q.2) else sle p.1 q.1
theorem ple_total (p q : Str × Int) : ple p q = true ∨ ple q p = true := by
  unfold ple
  by_cases e : p.1 = q.1
  · rw [if_pos e, if_pos e.symm, decide_eq_true_iff, decide_eq_true_iff]
    omega
  · rw [if_neg e, if_neg (Ne.symm e)]
    exact sle_total _ _
theorem ple_trans {p q r : Str × Int} (h : ple p q = true) (h' : ple q r = true) : ple p r = true := by
  unfold ple at *
  by_cases e : p.1 = q.1
  · rw [if_pos e, decide_eq_true_iff] at h
    by_cases e2 : q.1 = r.1
    · rw [if_pos e2, decide_eq_true_iff] at h'
      rw [if_pos (e.trans e2), decide_eq_true_iff]
      omega
    · rw [if_neg e2] at h'
      rw [if_neg (fun z => e2 (e.symm.trans z)), e]
      exact h'
  · rw [if_neg e] at h
    by_cases e2 : q.1 = r.1
    · rw [if_neg (fun z => e (z.trans e2.symm)), ← e2]
      exact h
    · rw [if_neg e2] at h'
      by_cases e3 : p.1 = r.1
      · exact absurd (sle_anti h (by rw [e3]; exact h')) e
      · rw [if_neg e3]
        exact sle_trans h h'
theorem ple_anti {p q : Str × Int} (h : ple p q = true) (h' : ple q p = true) : p = q := by
  unfold ple at *
  by_cases e : p.1 = q.1
  · rw [if_pos e, decide_eq_true_iff] at h
    rw [if_pos e.symm, decide_eq_true_iff] at h'
    exact Prod.ext e (by omega)
  · rw [if_neg e] at h
    rw [if_neg (Ne.symm e)] at h'
    exact absurd (sle_anti h h') e
/-! putting one more into a rising list -/
section
variable {α : Type} {le : α → α → Bool}
def cnt (le : α → α → Bool) (qs : List α) (p : α) : Nat := (qs.filter fun q => le q p).length
theorem put_rising (tot : ∀ p q, le p q = true ∨ le q p = true) (tr : ∀ {p q r}, le p q = true → le q r = true → le p r = true) : ∀ {qs : List α} (p : α), qs.Pairwise (fun a b => le a b = true) →
    (qs.take (cnt le qs p) ++ [p] ++ qs.drop (cnt le qs p)).Pairwise (fun a b => le a b = true) ∧ (∀ q ∈ qs.take (cnt le qs p), le q p = true) ∧ ∀ q ∈ qs.drop (cnt le qs p), le p q = true
  | [], p, _ => ⟨by simp [cnt], by simp, by simp⟩
  | q :: r, p, h => by
    obtain ⟨h1, h2⟩ := List.pairwise_cons.mp h
    by_cases c : le q p = true
    · obtain ⟨i1, i2, i3⟩ := put_rising tot tr p h2
      have e : cnt le (q :: r) p = cnt le r p + 1 := by
        unfold cnt
        rw [List.filter_cons, if_pos c, List.length_cons]
      rw [e, List.take_succ_cons, List.drop_succ_cons]
      refine ⟨?_, ?_, i3⟩
      · show (q :: (r.take (cnt le r p) ++ [p] ++ r.drop (cnt le r p))).Pairwise _
        refine List.pairwise_cons.mpr ⟨fun x hx => ?_, i1⟩
        rcases List.mem_append.mp hx with hx | hx
        · rcases List.mem_append.mp hx with hx | hx
          · exact h1 x (List.mem_of_mem_take hx)
          · have : x = p := by simpa using hx
            rw [this]
            exact c
        · exact h1 x (List.mem_of_mem_drop hx)
      · intro x hx
        rcases List.mem_cons.mp hx with rfl | hx
        · exact c
        · exact i2 x hx
    · have c' : le p q = true := (tot p q).resolve_right c
      have no : ∀ x ∈ r, ¬ le x p = true := fun x hx z => c (tr (h1 x hx) z)
      have e : cnt le (q :: r) p = 0 := by
        unfold cnt
        rw [List.filter_cons, if_neg c, List.filter_eq_nil_iff.mpr (fun x hx => no x hx)]
        rfl
      rw [e]
      refine ⟨?_, by simp, fun x hx => ?_⟩
      · show (p :: q :: r).Pairwise _
        exact List.pairwise_cons.mpr ⟨fun x hx => by
          rcases List.mem_cons.mp hx with rfl | hx
          · exact c'
          · exact tr c' (h1 x hx), h⟩
      · rcases List.mem_cons.mp hx with rfl | hx
        · exact c'
        · exact tr c' (h1 x hx)
theorem cnt_le (le : α → α → Bool) (qs : List α) (p : α) : cnt le qs p ≤ qs.length := List.length_filter_le _ _
theorem perm_in (qs : List α) (p : α) (c : Nat) : (qs.take c ++ [p] ++ qs.drop c).Perm (qs ++ [p]) := by
  have h : (qs.take c ++ [p] ++ qs.drop c).Perm ([p] ++ (qs.take c ++ qs.drop c)) := by
    rw [← List.append_assoc]
    exact List.Perm.append_right _ List.perm_append_comm
  rw [List.take_append_drop] at h
  exact h.trans List.perm_append_comm
end
/-! <= of such pairs -/
def rLeP (K : PySem.W.Frag) : R2 := fun x y H Q => ∃ (a b : Addr) (p q : Str × Int), x = .ref a ∧ y = .ref b ∧ SqT K H a [.str p.1, .int p.2] ∧ SqT K H b [.str q.1, .int q.2] ∧ Q (.bl (ple p q)) H
theorem RcOp.le_str {A : Around} {s : Shared} (a b : Str) (t u : Tok) : Ob.RcOp .LtE A s (.str a t) (.str b u) (sle a b) := fun _ _ _ _ h => PySem.P.le_str h
theorem pair_shape {p : Str × Int} {its : List Value} (r : Vals [.str p.1, .int p.2] its) : ∃ t u, its = [.str p.1 t, .int p.2 u] := by
  cases r with
  | cons r1 r =>
    cases r with
    | cons r2 r =>
      cases r
      obtain ⟨t, rfl⟩ := (show ∃ t, _ = Value.str p.1 t from r1)
      obtain ⟨u, rfl⟩ := (show ∃ t, _ = Value.int p.2 t from r2)
      exact ⟨t, u, rfl⟩
theorem o_leP {X : Cx} (hu : X.A.units < cLine) : OpR X (compareOp .LtE) (rLeP X.K) := by
  intro pins s σ H x y v u Q I rx ry h
  obtain ⟨a, b, p, q, rfl, rfl, ha, hb, q0⟩ := h
  cases rx
  cases ry
  obtain ⟨its, r1, p1, _⟩ := I.tuple ha
  obtain ⟨its2, r2, p2, _⟩ := I.tuple hb
  obtain ⟨t1, u1, rfl⟩ := pair_shape r1
  obtain ⟨t2, u2, rfl⟩ := pair_shape r2
  have R := Ob.RcOp.tuples_le (A := X.A) (s := s) (e := fun j => if j = 0 then (p.1 == q.1) else (p.2 == q.2)) (r := fun j => if j = 0 then sle p.1 q.1 else decide (p.2 ≤ q.2)) p1 p2 hu (fun j h1 h2 => by
    match j, h1, h2 with
    | 0, _, _ => exact SeqAt.EqAt.str_str _ _ _ _
    | 1, _, _ => exact SeqAt.EqAt.int_int _ _ _ _) (fun j h1 h2 _ => by
    match j, h1, h2 with
    | 0, _, _ => exact RcOp.le_str _ _ _ _
    | 1, _, _ => exact Ob.RcOp.le_int _ _ _ _)
  have e : Ob.lexAt (fun j => if j = 0 then (p.1 == q.1) else (p.2 == q.2)) (fun j => if j = 0 then sle p.1 q.1 else decide (p.2 ≤ q.2)) (decide ([Value.str p.1 t1, .int p.2 u1].toArray.size ≤ [Value.str q.1 t2, .int q.2 u2].toArray.size)) 0 (min [Value.str p.1 t1, .int p.2 u1].toArray.size [Value.str q.1 t2, .int q.2 u2].toArray.size) = ple p q := by
    show (if (p.1 == q.1) = true then (if (p.2 == q.2) = true then true else decide (p.2 ≤ q.2)) else sle p.1 q.1) = ple p q
    unfold ple
    by_cases e1 : p.1 = q.1
    · rw [if_pos (beq_iff_eq.mpr e1), if_pos e1]
      by_cases e2 : p.2 = q.2
      · rw [if_pos (beq_iff_eq.mpr e2), e2]
        exact (decide_eq_true (Int.le_refl _)).symm
      · rw [if_neg (fun z => e2 (beq_iff_eq.mp z))]
    · rw [if_neg (fun z => e1 (beq_iff_eq.mp z)), if_neg e1]
  rw [e] at R
  have z : wpAny (model X.prog X.w) X.A (compareOp .LtE (.ref a) (.ref b)) (EP X pins σ Q) X.xe s := R X.prog X.w X.xe (EP X pins σ Q) ⟨.bl _, H, I, rfl, q0⟩
  exact z
/-- a tuple of a text and a number stands there -/
def PrA (H : Hp) (x : V) (p : Str × Int) : Prop := ∃ t, x = .ref t ∧ H t = some (.tup [.str p.1, .int p.2])
theorem PrA.same {H H' : Hp} {x : V} {p : Str × Int} (h : PrA H x p) (e : Same H H') : PrA H' x p := let ⟨t, h1, h2⟩ := h; ⟨t, h1, e _ _ h2⟩
theorem PrA.all {H H' : Hp} {xs : List V} {ps : List (Str × Int)} (h : Paired (PrA H) xs ps) (e : Same H H') : Paired (PrA H') xs ps := Paired.mapP h fun _ _ z => z.same e
theorem PrA.kp {a : Addr} {b : Nat} {H H' : Hp} {x : V} {p : Str × Int} (h : PrA H x p) (e : Kp a H H') (bx : Bx H a b) : PrA H' x p := by
  obtain ⟨t, h1, h2⟩ := h
  obtain ⟨_, _, _, hb, _⟩ := bx
  exact ⟨t, h1, e _ _ h2 (ne_of h2 hb (by intro z; cases z))⟩
theorem Paired.len {α β : Type} {R : α → β → Prop} : ∀ {xs : List α} {ys : List β}, Paired R xs ys → xs.length = ys.length
  | _, _, .nil => rfl
  | _, _, .cons _ t => by rw [List.length_cons, List.length_cons, Paired.len t]
theorem Paired.at {α β : Type} {R : α → β → Prop} : ∀ {xs : List α} {ys : List β} {i : Nat} {x : α}, Paired R xs ys → xs[i]? = some x → ∃ y, ys[i]? = some y ∧ R x y
  | _, _, _, _, .nil, e => by simp at e
  | _, _, 0, _, .cons r _, e => by simp at e; subst e; exact ⟨_, rfl, r⟩
  | _, _, i + 1, x, .cons _ t, e => by
    obtain ⟨y, h1, h2⟩ := Paired.at (i := i) t (by simpa using e)
    exact ⟨y, by simpa using h1, h2⟩
theorem Paired.app {α β : Type} {R : α → β → Prop} : ∀ {xs xs' : List α} {ys ys' : List β}, Paired R xs ys → Paired R xs' ys' → Paired R (xs ++ xs') (ys ++ ys')
  | _, _, _, _, .nil, h => h
  | _, _, _, _, .cons r t, h => .cons r (Paired.app t h)
theorem Paired.tk {α β : Type} {R : α → β → Prop} : ∀ {xs : List α} {ys : List β} (n : Nat), Paired R xs ys → Paired R (xs.take n) (ys.take n)
  | _, _, 0, _ => .nil
  | _, _, _ + 1, .nil => .nil
  | _, _, n + 1, .cons r t => .cons r (Paired.tk n t)
theorem Paired.dr {α β : Type} {R : α → β → Prop} : ∀ {xs : List α} {ys : List β} (n : Nat), Paired R xs ys → Paired R (xs.drop n) (ys.drop n)
  | _, _, 0, h => h
  | _, _, _ + 1, .nil => .nil
  | _, _, n + 1, .cons _ t => Paired.dr n t
end My
namespace My
open PySem L2
theorem filter_take {α : Type} {f : α → Bool} {qs : List α} {j : Nat} {r : α} (h : qs[j]? = some r) : ((qs.take (j + 1)).filter f).length = ((qs.take j).filter f).length + (if f r = true then 1 else 0) := by
  rw [List.take_add_one, h, List.filter_append, List.length_append]
  congr 1
  show ([r].filter f).length = _
  rw [List.filter_cons]
  split <;> rfl
theorem r_leP {H : Hp} {Q : VK} {K : PySem.W.Frag} {a b : Addr} {p q : Str × Int} (ha : SqT K H a [.str p.1, .int p.2]) (hb : SqT K H b [.str q.1, .int q.2]) (h : Q (.bl (ple p q)) H) : rLeP K (.ref a) (.ref b) H Q := ⟨a, b, p, q, rfl, rfl, ha, hb, h⟩
end My

namespace My
open PySem L2
/-! a dict of texts to numbers, as its pairs -/
abbrev AL := List (Str × Int)
def enc (m : AL) : List (Key × V) := m.map fun p => (Sum.inr p.1, V.int p.2)
def look (m : AL) (k : Str) : Option Int := (m.find? fun p => decide (p.1 = k)).map (·.2)
def put (m : AL) (k : Str) (n : Int) : AL := if (m.any fun p => decide (p.1 = k)) = true then m.map (fun p => if p.1 = k then (p.1, n) else p) else m ++ [(k, n)]
def get (m : AL) (k : Str) : Int := (look m k).getD 0
def keys (m : AL) : List Str := m.map (·.1)
theorem enc_len (m : AL) : (enc m).length = m.length := List.length_map _
theorem inr_eq {a b : Str} : decide ((Sum.inr a : Key) = Sum.inr b) = decide (a = b) := key_rr a b
theorem enc_look : ∀ (m : AL) (k : Str), valV (enc m) (Sum.inr k) = (look m k).map V.int
  | [], _ => rfl
  | p :: r, k => by
    show valV ((Sum.inr p.1, V.int p.2) :: enc r) (Sum.inr k) = (look (p :: r) k).map V.int
    by_cases e : p.1 = k
    · rw [valV_pos (by rw [e])]
      unfold look
      rw [List.find?_cons, decide_eq_true e]
      rfl
    · rw [valV_neg (fun z => e (Sum.inr.inj z)), enc_look r k]
      unfold look
      rw [List.find?_cons, decide_eq_false e]
theorem enc_any (m : AL) (k : Str) : ((enc m).any fun kv => decide (kv.1 = (Sum.inr k : Key))) = (m.any fun p => decide (p.1 = k)) := by
  unfold enc
  rw [List.any_map]
  congr 1
  funext p
  exact inr_eq
theorem enc_put (m : AL) (k : Str) (n : Int) : putK (enc m) (Sum.inr k) (V.int n) = enc (put m k n) := by
  unfold putK put
  rw [enc_any]
  split
  · unfold enc
    rw [List.map_map, List.map_map]
    congr 1
    funext p
    show (if (Sum.inr p.1 : Key) = Sum.inr k then ((Sum.inr p.1 : Key), V.int n) else ((Sum.inr p.1 : Key), V.int p.2)) = _
    by_cases e : p.1 = k
    · rw [if_pos (by rw [e])]
      show _ = (Sum.inr (if p.1 = k then (p.1, n) else p).1, V.int (if p.1 = k then (p.1, n) else p).2)
      rw [if_pos e]
    · rw [if_neg (fun z => e (Sum.inr.inj z))]
      show _ = (Sum.inr (if p.1 = k then (p.1, n) else p).1, V.int (if p.1 = k then (p.1, n) else p).2)
      rw [if_neg e]
  · unfold enc
    rw [List.map_append]
    rfl
theorem look_cons (p : Str × Int) (r : AL) (k : Str) : look (p :: r) k = if p.1 = k then some p.2 else look r k := by
  unfold look
  rw [List.find?_cons]
  by_cases e : p.1 = k
  · rw [decide_eq_true e, if_pos e]
    rfl
  · rw [decide_eq_false e, if_neg e]
theorem look_none : ∀ {m : AL} {k : Str}, look m k = none ↔ k ∉ keys m
  | [], _ => by simp [look, keys]
  | p :: r, k => by
    rw [look_cons]
    show _ ↔ k ∉ p.1 :: keys r
    by_cases e : p.1 = k
    · rw [if_pos e, e]
      simp
    · rw [if_neg e, look_none, List.mem_cons, not_or]
      exact ⟨fun h => ⟨Ne.symm e, h⟩, fun h => h.2⟩
theorem any_look (m : AL) (k : Str) : (m.any fun p => decide (p.1 = k)) = true ↔ k ∈ keys m := by
  rw [List.any_eq_true]
  constructor
  · rintro ⟨p, hp, e⟩
    exact List.mem_map.mpr ⟨p, hp, of_decide_eq_true e⟩
  · intro h
    obtain ⟨p, hp, e⟩ := List.mem_map.mp h
    exact ⟨p, hp, decide_eq_true e⟩
theorem keys_put (m : AL) (k : Str) (n : Int) : keys (put m k n) = if k ∈ keys m then keys m else keys m ++ [k] := by
  unfold put
  by_cases h : k ∈ keys m
  · rw [if_pos ((any_look m k).mpr h), if_pos h]
    unfold keys
    rw [List.map_map]
    congr 1
    funext p
    show (if p.1 = k then (p.1, n) else p).1 = p.1
    split <;> rfl
  · rw [if_neg (fun z => h ((any_look m k).mp z)), if_neg h]
    unfold keys
    rw [List.map_append]
    rfl
theorem put_nodup {m : AL} {k : Str} {n : Int} (h : (keys m).Nodup) : (keys (put m k n)).Nodup := by
  rw [keys_put]
  split
  · exact h
  · exact nd_snoc h (by assumption)
theorem put_len (m : AL) (k : Str) (n : Int) : (put m k n).length ≤ m.length + 1 := by
  have e : (put m k n).length = (keys (put m k n)).length := (List.length_map _).symm
  rw [e, keys_put]
  have e2 : (keys m).length = m.length := List.length_map _
  split
  · omega
  · rw [List.length_append]
    show (keys m).length + 1 ≤ _
    omega
theorem look_map (m : AL) (k j : Str) (n : Int) : look (m.map (fun p => if p.1 = k then (p.1, n) else p)) j = if j = k then (if k ∈ keys m then some n else none) else look m j := by
  induction m with
  | nil =>
    show none = _
    split
    · rw [if_neg (by simp [keys])]
    · rfl
  | cons p r ih =>
    rw [List.map_cons, look_cons, ih, look_cons]
    show (if (if p.1 = k then (p.1, n) else p).1 = j then some (if p.1 = k then (p.1, n) else p).2 else _) = if j = k then (if k ∈ p.1 :: keys r then some n else none) else _
    by_cases e : p.1 = k
    · rw [if_pos e]
      by_cases ej : j = k
      · subst ej
        rw [if_pos e, if_pos rfl, if_pos (by rw [e]; exact List.mem_cons_self)]
      · rw [if_neg (fun z : p.1 = j => ej (z.symm.trans e)), if_neg ej, if_neg ej, if_neg (fun z : p.1 = j => ej (z.symm.trans e))]
    · rw [if_neg e]
      by_cases ej : j = k
      · subst ej
        rw [if_neg e, if_pos rfl, if_pos rfl]
        by_cases hk : j ∈ keys r
        · rw [if_pos hk, if_pos (List.mem_cons_of_mem _ hk)]
        · rw [if_neg hk, if_neg (fun z => (List.mem_cons.mp z).elim (fun q => e q.symm) hk)]
      · rw [if_neg ej, if_neg ej]
theorem look_app (m : AL) (k j : Str) (n : Int) : look (m ++ [(k, n)]) j = (look m j).or (if k = j then some n else none) := by
  induction m with
  | nil =>
    show look [(k, n)] j = _
    rw [look_cons]
    rfl
  | cons p r ih =>
    rw [List.cons_append, look_cons, ih, look_cons]
    split <;> rfl
theorem look_put (m : AL) (k j : Str) (n : Int) : look (put m k n) j = if j = k then some n else look m j := by
  unfold put
  by_cases h : k ∈ keys m
  · rw [if_pos ((any_look m k).mpr h), look_map, if_pos h]
  · rw [if_neg (fun z => h ((any_look m k).mp z)), look_app]
    by_cases e : j = k
    · subst e
      rw [look_none.mpr h, if_pos rfl]
      rfl
    · rw [if_neg (Ne.symm e), if_neg e]
      cases look m j <;> rfl
theorem get_put (m : AL) (k j : Str) (n : Int) : get (put m k n) j = if j = k then n else get m j := by
  unfold get
  rw [look_put]
  split <;> rfl
theorem look_mem : ∀ {m : AL} {k : Str} {n : Int}, (keys m).Nodup → (look m k = some n ↔ (k, n) ∈ m)
  | [], _, _, _ => by simp [look]
  | p :: r, k, n, h => by
    obtain ⟨h1, h2⟩ := List.nodup_cons.mp (show (p.1 :: keys r).Nodup from h)
    rw [look_cons]
    by_cases e : p.1 = k
    · rw [if_pos e, List.mem_cons]
      constructor
      · intro z
        left
        have z := Option.some.inj z
        exact Prod.ext e.symm z.symm
      · rintro (z | z)
        · rw [← z]
        · exact absurd (List.mem_map.mpr ⟨_, z, rfl⟩ : k ∈ keys r) (by rw [← e]; exact h1)
    · rw [if_neg e, look_mem h2, List.mem_cons]
      exact ⟨.inr, fun z => z.resolve_left fun q => e (by rw [← q])⟩
theorem nodup_of_keys {m : AL} (h : (keys m).Nodup) : m.Nodup := List.Pairwise.of_map (fun p => p.1) (fun _ _ q z => q (by rw [z])) h
/-- the pairs above 0 -/
def pos (m : AL) : AL := m.filter fun p => decide (0 < p.2)
theorem mem_pos {m : AL} (h : (keys m).Nodup) {k : Str} {n : Int} : (k, n) ∈ pos m ↔ get m k = n ∧ 0 < n := by
  unfold pos
  rw [List.mem_filter, ← look_mem h]
  unfold get
  constructor
  · rintro ⟨h1, h2⟩
    rw [h1]
    exact ⟨rfl, of_decide_eq_true h2⟩
  · rintro ⟨h1, h2⟩
    cases e : look m k with
    | none => rw [e] at h1; have : (0 : Int) = n := h1; omega
    | some v =>
      rw [e] at h1
      have : v = n := h1
      rw [this]
      exact ⟨rfl, decide_eq_true h2⟩
theorem pos_perm {m m' : AL} (h : (keys m).Nodup) (h' : (keys m').Nodup) (e : ∀ k, 0 < get m k ∨ 0 < get m' k → get m k = get m' k) : (pos m).Perm (pos m') := by
  refine (List.perm_ext_iff_of_nodup ((nodup_of_keys h).filter _) ((nodup_of_keys h').filter _)).mpr fun ⟨k, n⟩ => ?_
  show (k, n) ∈ pos m ↔ (k, n) ∈ pos m'
  rw [mem_pos h, mem_pos h']
  constructor
  · rintro ⟨h1, h2⟩
    exact ⟨by rw [← e k (.inl (by omega)), h1], h2⟩
  · rintro ⟨h1, h2⟩
    exact ⟨by rw [e k (.inr (by omega)), h1], h2⟩
/-- a dict's pairs above 0, rising -/
def Cn (m qs : AL) : Prop := qs.Perm (pos m) ∧ qs.Pairwise (fun a b => ple a b = true)
theorem cn_unique {m m' qs qs' : AL} (h : (keys m).Nodup) (h' : (keys m').Nodup) (c : Cn m qs) (c' : Cn m' qs') (e : ∀ k, 0 < get m k ∨ 0 < get m' k → get m k = get m' k) : qs = qs' :=
  List.Perm.eq_of_pairwise (le := fun a b => ple a b = true) (fun _ _ _ _ z z' => ple_anti z z') c.2 c'.2 (c.1.trans ((pos_perm h h' e).trans c'.1.symm))
/-- the numbers of a kind in a row of pairs, added up -/
def tot : AL → Str → Int
  | [], _ => 0
  | p :: r, k => (if p.1 = k then p.2 else 0) + tot r k
theorem tot_app (a b : AL) (k : Str) : tot (a ++ b) k = tot a k + tot b k := by
  induction a with
  | nil => exact (Int.zero_add _).symm
  | cons p r ih =>
    show (if p.1 = k then p.2 else 0) + tot (r ++ b) k = (if p.1 = k then p.2 else 0) + tot r k + tot b k
    rw [ih, Int.add_assoc]
theorem tot_nodup : ∀ {m : AL} (k : Str), (keys m).Nodup → tot m k = get m k
  | [], _, _ => rfl
  | p :: r, k, h => by
    obtain ⟨h1, h2⟩ := List.nodup_cons.mp (show (p.1 :: keys r).Nodup from h)
    show (if p.1 = k then p.2 else 0) + tot r k = get (p :: r) k
    unfold get
    rw [look_cons, tot_nodup k h2]
    by_cases e : p.1 = k
    · rw [if_pos e, if_pos e]
      unfold get
      rw [look_none.mpr (by rw [← e]; exact h1)]
      exact Int.add_zero _
    · rw [if_neg e, if_neg e, Int.zero_add]
      rfl
theorem tot_perm {a b : AL} (h : a.Perm b) (k : Str) : tot a k = tot b k := by
  induction h with
  | nil => rfl
  | cons p _ ih => show _ + _ = _ + _; rw [ih]
  | swap p q r => show _ + (_ + _) = _ + (_ + _); omega
  | trans _ _ i1 i2 => exact i1.trans i2
theorem tot_pos {m : AL} (h : (keys m).Nodup) (h0 : ∀ k, 0 ≤ get m k) (k : Str) : tot (pos m) k = get m k := by
  have hk : (keys (pos m)).Nodup := List.Nodup.sublist (List.Sublist.map _ List.filter_sublist) h
  rw [tot_nodup k hk]
  unfold get
  cases e : look (pos m) k with
  | some v =>
    have := (mem_pos h).mp ((look_mem hk).mp e)
    exact this.1.symm
  | none =>
    have h1 := h0 k
    have h2 : ¬ 0 < get m k := fun z => by
      have := (mem_pos h).mpr ⟨rfl, z⟩
      rw [(look_mem hk).mpr this] at e
      cases e
    show (0 : Int) = get m k
    omega
end My
namespace My
open PySem L2
theorem PrA.kpd {d : Addr} {u : HO} {H H' : Hp} {x : V} {p : Str × Int} (h : PrA H x p) (e : Kp d H H') (hd : H d = some u) (hu : ∀ xs, HO.tup xs ≠ u) : PrA H' x p := by
  obtain ⟨t, h1, h2⟩ := h
  exact ⟨t, h1, e _ _ h2 (ne_of h2 hd (hu _))⟩
theorem PrA.kpdAll {d : Addr} {u : HO} {H H' : Hp} {xs : List V} {ps : AL} (h : Paired (PrA H) xs ps) (e : Kp d H H') (hd : H d = some u) (hu : ∀ xs, HO.tup xs ≠ u) : Paired (PrA H') xs ps := Paired.mapP h fun _ _ z => z.kpd e hd hu
theorem pos_take {m : AL} {i : Nat} {p : Str × Int} (h : m[i]? = some p) : pos (m.take (i + 1)) = pos (m.take i) ++ (if 0 < p.2 then [p] else []) := by
  unfold pos
  rw [List.take_add_one, h, List.filter_append]
  congr 1
  show [p].filter _ = _
  rw [List.filter_cons]
  by_cases c : 0 < p.2
  · rw [if_pos (decide_eq_true c), if_pos c]
    rfl
  · rw [if_neg (fun z => c (of_decide_eq_true z)), if_neg c]
    rfl
theorem enc_at {m : AL} {i : Nat} {k : Key} {v : V} (h : (enc m)[i]? = some (k, v)) : ∃ p, m[i]? = some p ∧ k = Sum.inr p.1 ∧ v = V.int p.2 := by
  unfold enc at h
  rw [List.getElem?_map] at h
  cases e : m[i]? with
  | none => rw [e] at h; cases h
  | some p =>
    rw [e] at h
    have h := Option.some.inj h
    exact ⟨p, rfl, (congrArg Prod.fst h).symm, (congrArg Prod.snd h).symm⟩
theorem DGet_enc {H : Hp} {d : Addr} {m : AL} {k : Str} {r : Option Int} (h : L2.Rd H d (.dK (enc m))) (e : look m k = r) : DGet H d (.str k) (r.map V.int) := .inl ⟨enc m, Sum.inr k, h, rfl, by rw [enc_look, e]⟩
theorem look_at {m : AL} {i : Nat} {p : Str × Int} (hn : (keys m).Nodup) (h : m[i]? = some p) : look m p.1 = some p.2 := (look_mem hn).mpr (List.mem_of_getElem? h)
section
variable {σ : L2.St} {H : Hp} {Q : VK} {td ty tx te : TE} {D : Ends} {ts : TS} {d : Addr} {u : HO}
theorem r_dget (h : td σ H fun x H1 => ty σ H1 fun y H2 => ∃ a v, x = .ref a ∧ DGet H2 a y (some v) ∧ Q v H2) : tDGet td ty σ H Q := h
theorem r_dget2 (h : td σ H fun x H1 => ∃ a, x = .ref a ∧ IsD H1 a ∧ ty σ H1 fun y H2 => tx σ H2 fun z H3 => ∃ o, DGet H3 a y o ∧ Q (o.getD z) H3) : tDGet2 td ty tx σ H Q := h
theorem r_lockE (hd : H d = some u) (m : Mut (some u)) (h : ∀ od, te σ (upd H d (.frz od u)) fun v H' => H' d = some (.frz od u) ∧ Q v (upd H' d u)) : tLockE te σ H Q := ⟨d, u, hd, m, h⟩
theorem r_lock (hd : H d = some u) (m : Mut (some u)) (h : ∀ od, ts ⟨fun σ' H' => H' d = some (.frz od u) ∧ D.nx σ' (upd H' d u), fun v H' => H' d = some (.frz od u) ∧ D.rt v (upd H' d u), fun σ' H' => H' d = some (.frz od u) ∧ D.bk σ' (upd H' d u), fun σ' H' => H' d = some (.frz od u) ∧ D.ct σ' (upd H' d u)⟩ σ (upd H d (.frz od u))) : tLock ts D σ H := ⟨d, u, hd, m, h⟩
theorem r_iKeys {R : It → Hp → Prop} (h : td σ H fun x H1 => ∃ d o, x = .ref d ∧ ((∃ kvs, H1 d = some (.frz o (.dK kvs)) ∧ R (Itk d o kvs) H1) ∨ ∃ kvs, H1 d = some (.frz o (.dT kvs)) ∧ R (Itkt d o kvs) H1)) : iKeys td σ H R := h
theorem r_dput {tv : TE} (h : tv σ H fun v H1 => td σ H1 fun x H2 => ty σ H2 fun y H3 => ∃ a H4, x = .ref a ∧ DPut H3 a y v H4 ∧ D.nx σ H4) : sDPut td ty tv D σ H := h
end
theorem DPut_enc {H : Hp} {d : Addr} {m : AL} {k : Str} {n : Int} (h : H d = some (.dK (enc m))) (hl : m.length < sizeLine) : DPut H d (.str k) (.int n) (upd H d (.dK (enc (put m k n)))) := .inl ⟨enc m, Sum.inr k, h, rfl, by rw [enc_len]; exact hl, by rw [enc_put]⟩
end My
namespace My
open PySem L2
theorem get_look {m : AL} {k : Str} : (Option.map V.int (look m k)).getD (V.int 0) = V.int (get m k) := by
  unfold get
  cases look m k <;> rfl
theorem tot_take {ps : AL} {i : Nat} {p : Str × Int} (h : ps[i]? = some p) (k : Str) : tot (ps.take (i + 1)) k = tot (ps.take i) k + (if p.1 = k then p.2 else 0) := by
  rw [List.take_add_one, h, tot_app]
  show _ + ((if p.1 = k then p.2 else 0) + 0) = _
  rw [Int.add_zero]
end My

/-! an own class's operators, by its own methods -/
namespace My
open PySem L2 PySem.W
/-- a method of the class at C, with its promise -/
structure OCal (P : Program) (w : World) (K : PySem.W.Frag) (mg : Str → Option Value) (base : Heap) (CX : CXT) (k : Nat) (C : Addr) (name : Str) (ps : List Str) (sp : Sp) : Prop where
  ex : ∃ (f : Addr) (fd : FuncData), FnOk P w K mg base CX k f fd ps sp ∧ PySem.W.findIn K (.ref C) name = some (some (.ref f)) ∧ PySem.W.isFn K (.ref f) = true ∧ PySem.W.keepIn K (.ref f) = true ∧ PySem.W.fnIn K f = true ∧ Binds K fd ps []
/-- what an operator asks of the class beside its method -/
structure OCls (K : PySem.W.Frag) (C : Addr) : Prop where
  cl : Cls K C
  sf : PySem.W.selfFirst K C = true
  ns : PySem.W.noSeq K C = true
  si : PySem.W.subIn K (.type "int") (.ref C) = some false
section
variable {X : Cx} {CX : CXT} {k : Nat} {f C : Addr} {fd : FuncData} {ps : List Str} {sp : Sp} {E : XK} {pins : List (Addr × Obj)} {σ : L2.St} {H : Hp} {s : Shared} {Q : VK}
theorem run_at {A : Around} {us : List Value} {vs : List V} (F : FnOk X.prog X.w X.K X.mg X.base CX k f fd ps sp) (hr : Room k A) (hf : A.frames = X.A.frames) (hb : Binds X.K fd ps []) (hx : ∀ e s', CX X.stack H s E e s' → X.xe e s')
    (I : Inv X pins σ H s) (r : Vals vs us) (h : sp vs H Q E) : wpAny (model X.prog X.w) A (call (.ref f) us) (EP X pins σ Q) X.xe s := by
  have hl : us.length = ps.length := by rw [← r.length]; exact F.len _ _ _ _ h
  have e0 : Env0 X.prog X.w X.K X.mg X.base A X.stack s H := by
    have e := I.env0
    exact ⟨by rw [hf]; exact e.frames, e.mod, e.bs, e.bsz, e.funs, e.frf, e.hok, e.bare⟩
  have b := hb s us I.kIn (by rw [List.append_nil]; exact hl)
  rw [List.append_nil] at b
  refine wpAny_call (codeAny_mono (F.run A X.stack s H ⟨us, []⟩ us vs Q E hr e0 b r h) fun r s' hq => ?_)
  cases r with
  | error e => exact hx e s' hq
  | ok fl =>
    cases fl with
    | ret u => exact I.after hq
    | next => exact False.elim hq
    | brk => exact False.elim hq
    | cont => exact False.elim hq
theorem cmpBack {u : Value} {s' : Shared} {R : Value → Shared → Prop} (h : EP X pins σ Q u s') (hR : EP X pins σ Q u s' → R u s') : CmpBack R u s' := by
  obtain ⟨v, H', I, rv, q⟩ := id h
  cases v <;> (first | (cases (show u = _ from rv); exact hR h) | (obtain ⟨t, z⟩ := (show ∃ t, u = _ from rv); cases z; exact hR h))
/-- x op y, both of the class at C -/
def rOwn (C : Addr) (sp : Sp) (E : L2.St → XK) (σ : L2.St) : R2 := fun x y H Q => ∃ a b dx dy fs gs, x = .ref a ∧ y = .ref b ∧ H a = some (.ins C dx fs) ∧ H b = some (.ins C dy gs) ∧ sp [x, y] H Q (E σ)
/-- x op n, n a whole number -/
def rOwnI (C : Addr) (sp : Sp) (E : L2.St → XK) (σ : L2.St) : R2 := fun x y H Q => ∃ a dx fs i, x = .ref a ∧ y = .int i ∧ H a = some (.ins C dx fs) ∧ sp [x, y] H Q (E σ)
def tOpS (r : L2.St → R2) (ta tb : TE) : TE := fun σ H Q => ta σ H fun x H1 => tb σ H1 fun y H2 => r σ x y H2 Q
theorem pe_opS {op : Operator} {r : L2.St → R2} {a b : Expr} {ta tb : TE} {pos : Pos} (ho : ∀ (pins : List (Addr × Obj)) (s : Shared) (σ : L2.St) (H : Hp) (x y : V) (v u : Value) (Q : VK), Inv X pins σ H s → RelV x v → RelV y u → r σ x y H Q →
    wpAny (model X.prog X.w) X.A (binaryOp op v u) (EP X pins σ Q) X.xe s) (ha : PE X a ta) (hb : PE X b tb) : PE X (.BinOp a op b pos) (tOpS r ta tb) := by
  refine ⟨fun pins s σ H Q I h => ?_⟩
  exact wpAny_BinOp (binT ha hb I h fun v u s2 x y H2 I2 rx ry q => ho pins s2 σ H2 x y v u Q I2 rx ry q)
/-- what a call may let out at the slots σ -/
def PassS (CX : CXT) (X : Cx) (E : L2.St → XK) : Prop := ∀ (pins : List (Addr × Obj)) (σ : L2.St) (H : Hp) (s : Shared) (e : Value) (s' : Shared), Inv X pins σ H s → CX X.stack H s (E σ) e s' → X.xe e s'
theorem passS0 {X : Cx} {E : L2.St → XK} : PassS CX0 X E := fun _ _ _ _ _ _ _ h => h.elim
theorem PassS.of {X : Cx} {CX : CXT} {E : XK} (h : Passes CX X E) : PassS CX X (fun _ => E) := h
theorem pe_bin {op : Operator} {E : L2.St → XK} {a b : Expr} {ta tb : TE} {pos : Pos} (O : OCal X.prog X.w X.K X.mg X.base CX k C (PySem.dunder op.info.2) ps sp) (oc : OCls X.K C) (hr : Room k X.A) (hx : PassS CX X E)
    (ha : PE X a ta) (hb : PE X b tb) : PE X (.BinOp a op b pos) (tOpS (rOwn C sp E) ta tb) := by
  refine pe_opS (fun pins s σ H x y v u Q I rx ry h => ?_) ha hb
  obtain ⟨a, b, dx, dy, fs, gs, rfl, rfl, h1, h2, h⟩ := h
  cases rx
  cases ry
  obtain ⟨f, fd, F, hs, hf, hk, hfn, hb⟩ := O.ex
  obtain ⟨mA, J, _⟩ := ins_get I.hok h1
  obtain ⟨mB, J', _⟩ := ins_get I.hok h2
  obtain ⟨od, J, _⟩ := J.look
  obtain ⟨od', J', _⟩ := J'.look
  obtain ⟨m, hF⟩ := I.fr
  refine binop_K hF I.ok.mod.kin J J'.type oc.sf hs hf ?_
  exact wpAny_mono (run_at F hr rfl hb (fun e s' c => hx pins σ H s e s' I c) I (vs := [.ref a, .ref b]) (.cons rfl (.cons rfl .nil)) h) (fun u s' q => cmpBack q fun z => z) fun _ _ z => z
theorem pe_binI {op : Operator} {E : L2.St → XK} {a b : Expr} {ta tb : TE} {pos : Pos} {fo ro rc : Option Value} (O : OCal X.prog X.w X.K X.mg X.base CX k C (PySem.dunder op.info.2) ps sp) (oc : OCls X.K C) (hr : Room k X.A) (hx : PassS CX X E)
    (hrc : PySem.W.findIn X.K (.ref C) (dunderR op.info.2) = some rc) (hp : rc = none ∨ ∃ g : Addr, rc = some (.ref g)) (h1 : PySem.W.findIn X.K (.type "int") (PySem.dunder op.info.2) = some fo) (h2 : PySem.W.findIn X.K (.type "int") (dunderR op.info.2) = some ro)
    (ha : PE X a ta) (hb : PE X b tb) : PE X (.BinOp a op b pos) (tOpS (rOwnI C sp E) ta tb) := by
  refine pe_opS (fun pins s σ H x y v u Q I rx ry h => ?_) ha hb
  obtain ⟨a, dx, fs, i, rfl, rfl, e1, h⟩ := h
  cases rx
  obtain ⟨t, rfl⟩ := (show ∃ t, u = Value.int i t from ry)
  obtain ⟨f, fd, F, hs, hf, hk, hfn, hb⟩ := O.ex
  obtain ⟨mA, J, _⟩ := ins_get I.hok e1
  obtain ⟨od, J, _⟩ := J.look
  obtain ⟨m, hF⟩ := I.fr
  refine ksp_binT (T := "int") hF I.ok.mod.kin J rfl oc.sf hs hf hrc hp h1 h2 oc.si ?_
  exact wpAny_mono (run_at F hr rfl hb (fun e s' c => hx pins σ H s e s' I c) I (vs := [.ref a, .int i]) (.cons rfl (.cons ⟨t, rfl⟩ .nil)) h) (fun u s' q => cmpBack q fun z => z) fun _ _ z => z
/-- x op= y at a name, by the class's own method -/
theorem ip_own {op : Operator} (O : OCal X.prog X.w X.K X.mg X.base CX k C (dunderI op.info.2) ps sp) (oc : OCls X.K C) (hr : Room k X.A) (hx : Passes CX X E) : PIp X op (fun x y H Q => ∃ a dx fs, x = .ref a ∧ H a = some (.ins C dx fs) ∧ sp [x, y] H Q E) := by
  intro pins s σ H x y v u Q I rx ry h
  obtain ⟨a, dx, fs, rfl, e1, h⟩ := h
  cases rx
  obtain ⟨f, fd, F, hs, hf, hk, hfn, hb⟩ := O.ex
  obtain ⟨mA, J, _⟩ := ins_get I.hok e1
  obtain ⟨od, J, _⟩ := J.look
  obtain ⟨m, hF⟩ := I.fr
  refine ksp_inplace hF I.ok.mod.kin J oc.sf hs hf ?_
  exact wpAny_mono (run_at F hr rfl hb (fun e s' c => hx pins σ H s e s' I c) I (vs := [.ref a, y]) (.cons rfl (.cons ry .nil)) h) (fun u s' q => cmpBack q fun z => z) fun _ _ z => z
/-- x[i] -/
def tIxO (C : Addr) (sp : Sp) (E : XK) (ta tb : TE) : TE := fun σ H Q => ta σ H fun x H1 => tb σ H1 fun y H2 => ∃ a dx fs, x = .ref a ∧ H2 a = some (.ins C dx fs) ∧ sp [x, y] H2 Q E
theorem pe_ixO {a b : Expr} {ta tb : TE} {pos : Pos} (O : OCal X.prog X.w X.K X.mg X.base CX k C "__getitem__" ps sp) (hr : Room (k + 1) X.A) (hx : Passes CX X E) (ha : PE X a ta) (hb : PE X b tb)
    (hsl : ∀ o i, subscripted b true o i = runValue (.builtin "lifetime.subscript" ⟨[o, i], []⟩) := by (intro o i; with_unfolding_all rfl)) : PE X (.Subscript a b pos) (tIxO C sp E ta tb) := by
  refine ⟨fun pins s σ H Q I h => ?_⟩
  refine PyProof.Rows.Subscript_ (binT ha hb I h fun v u s2 x y H2 I2 rx ry q => ?_)
  obtain ⟨p, dx, fs, rfl, e1, h⟩ := q
  cases rx
  obtain ⟨f, fd, F, hs, hf, hk, hfn, hb⟩ := O.ex
  obtain ⟨mA, J, _⟩ := ins_get I2.hok e1
  obtain ⟨od, J, _⟩ := J.look
  obtain ⟨m, hF⟩ := I2.fr
  refine sub_K hF I2.ok.mod.kin J hs hfn hf ?_ (hsl _ _)
  exact run_at F hr.in1 rfl hb (fun e s' c => hx pins σ H2 s2 e s' I2 c) I2 (vs := [.ref p, y]) (.cons rfl (.cons ry .nil)) h
/-- len(x) -/
theorem c_lenO (O : OCal X.prog X.w X.K X.mg X.base CX k C "__len__" ps sp) (hr : Room (k + 1) X.A) (hx : Passes CX X E) :
    CallR X (.builtin "len") (fun vs H Q => ∃ a dx fs, vs = [.ref a] ∧ H a = some (.ins C dx fs) ∧ sp vs H (fun v H' => ∃ n : Int, v = .int n ∧ (0 ≤ n ∧ n < 2 ^ 63) ∧ Q v H') E) := by
  intro pins s σ H xs us Q I r h
  obtain ⟨a, dx, fs, rfl, e1, h⟩ := h
  obtain ⟨u, rfl, ru⟩ := vals1 r
  cases ru
  obtain ⟨f, fd, F, hs, hf, hk, hfn, hb⟩ := O.ex
  obtain ⟨mA, J, _⟩ := ins_get I.hok e1
  obtain ⟨od, J, _⟩ := J.look
  obtain ⟨m, hF⟩ := I.fr
  refine len_K hF I.ok.mod.kin J hs hf ?_
  refine wpAny_mono (run_at F hr.in1 rfl hb (fun e s' c => hx pins σ H s e s' I c) I (vs := [.ref a]) (.cons rfl .nil) h) (fun u s' q => ?_) fun _ _ z => z
  obtain ⟨v, H', I', rv, n, rfl, hn, q⟩ := q
  obtain ⟨t, rfl⟩ := (show ∃ t, u = Value.int n t from rv)
  exact ⟨hn, .int n, H', I'.tok _, ⟨_, rfl⟩, q⟩
end
end My

namespace My
open PySem L2
/-! sets of texts: made of a dict, then sorted -/
/-- at a an exact set of just the texts L -/
def SetSR (P : Program) (w : World) (h : Heap) (a : Addr) (L : List Str) : Prop := ∃ (o : Obj) (es : Array (Int × Value)) (ep : Nat) (t : SetTable) (ks : List Str), h.get? a = some o ∧ o.ExactSet ∧ o.data = Data.set es ep t ∧ ElemsOf (mixKind P w) es.toList ∧
  Vals (ks.map V.str) (es.toList.map (·.2)) ∧ ks.Perm L ∧ es.size < scanBound ∧ t.fits es.size = true ∧ Ris t.place.toList ∧ (w.params.followText "set-order" = true ∨ t.led = true)
theorem vals_strs : ∀ {ks : List Str} {us : List Value}, Vals (ks.map V.str) us → ∀ u ∈ us, ∃ k ∈ ks, ∃ tk, u = Value.str k tk
  | [], _, .nil, _, h => by cases h
  | k :: r, _, .cons e h, u, hu => by
    rcases List.mem_cons.mp hu with z | z
    · obtain ⟨tk, e⟩ := (show ∃ tk, _ = Value.str k tk from e)
      exact ⟨k, List.mem_cons_self, tk, z.trans e⟩
    · obtain ⟨k', h1, h2⟩ := vals_strs h u z
      exact ⟨k', List.mem_cons_of_mem _ h1, h2⟩
theorem vals_perm {us us' : List Value} (p : us'.Perm us) : ∀ {ks : List Str}, Vals (ks.map V.str) us → ∃ ks' : List Str, ks'.Perm ks ∧ Vals (ks'.map V.str) us' := by
  induction p with
  | nil => exact fun {ks} h => ⟨ks, .refl _, h⟩
  | cons x _ ih =>
    intro ks h
    match ks, h with
    | k :: r, .cons e h =>
      obtain ⟨ks', p', h'⟩ := ih h
      exact ⟨k :: ks', p'.cons k, .cons e h'⟩
  | swap x y l =>
    intro ks h
    match ks, h with
    | k :: j :: r, .cons e (.cons e2 h) => exact ⟨j :: k :: r, .swap k j r, .cons e2 (.cons e h)⟩
  | trans _ _ i1 i2 =>
    intro ks h
    obtain ⟨k1, p1, h1⟩ := i2 h
    obtain ⟨k2, p2, h2⟩ := i1 h1
    exact ⟨k2, p2.trans p1, h2⟩
theorem find_none {P : Program} {w : World} {ks : List Str} {k : Str} {es : List (Int × Value)} (hv : Vals (ks.map V.str) (es.map (·.2))) (hk : k ∉ ks) : List.findIdx? (fun e => (mixKind P w).is (Sum.inr k) e.2) es = none := by
  rw [List.findIdx?_eq_none_iff]
  intro e he
  obtain ⟨j, hj, tk, ej⟩ := vals_strs hv e.2 (List.mem_map.mpr ⟨e, he, rfl⟩)
  show Value.isStrOf k e.2 = false
  rw [ej]
  show (j == k) = false
  exact beq_eq_false_iff_ne.mpr fun z => hk (z ▸ hj)
theorem SetSR.store {P : Program} {w : World} {h : Heap} {a : Addr} {o : Obj} {es es' : Array (Int × Value)} {ep : Nat} {t t' : SetTable} {ks L : List Str} (ho : h.get? a = some o) (hex : o.ExactSet) (hd : o.data = Data.set es ep t) (hel : ElemsOf (mixKind P w) es'.toList)
    (hv : Vals (ks.map V.str) (es'.toList.map (·.2))) (hp : ks.Perm L) (hb : es'.size < scanBound) (hf : t'.fits es'.size = true) (hr : Ris t'.place.toList) (hl : w.params.followText "set-order" = true ∨ t'.led = true) : SetSR P w (h.update a (Obj.putSet es' t')) a L :=
  ⟨_, es', ep + 1, t', ks, store_at ho hd, hex, rfl, hel, hv, hp, hb, hf, hr, hl⟩
theorem elems_perm {P : Program} {w : World} {xs ys : List (Int × Value)} (p : xs.Perm ys) (h : ElemsOf (mixKind P w) ys) : ElemsOf (mixKind P w) xs := fun e he => h e (p.mem_iff.mp he)
theorem setS_tail {P : Program} {w : World} {A : Around} {E : Value → Shared → Prop} {s : Shared} {a : Addr} {g : Bool → Sem Unit} (hg : ∀ (b : Bool) (s₁ : Shared) (Q' : Unit → Shared → Prop), Q' () s₁ → wpAny (model P w) A (g b) Q' E s₁)
    {o : Obj} {es : Array (Int × Value)} {ep : Nat} {t : SetTable} (ho : s.heap.get? a = some o) (hex : o.ExactSet) (hd : o.data = Data.set es ep t) {es1 : Array (Int × Value)} {t2 : SetTable} {ks L : List Str} (hel : ElemsOf (mixKind P w) es1.toList)
    (hv : Vals (ks.map V.str) (es1.toList.map (·.2))) (hp : ks.Perm L) (hb : es1.size < scanBound) (hf : t2.fits es1.size = true) (hr : Ris t2.place.toList) (hl : w.params.followText "set-order" = true ∨ t2.led = true) {wasDummy : Bool} {R : Option Bool → Shared → Prop}
    (hQ : ∀ h' : Heap, Heap.SameBut a s.heap h' → SetSR P w h' a L → R (some true) { s with heap := h' }) :
    wpAny (model P w) A (do
      storeSet a es1 t2
      if (!wasDummy && t2.tooFull) = true then do
        g (relayAll t2 es1 (SetTable.grown es1.size)).2.2
        storeSet a (relayAll t2 es1 (SetTable.grown es1.size)).1 (relayAll t2 es1 (SetTable.grown es1.size)).2.1
        pure (some true)
      else pure (some true)) R E s := by
  have sb : es1.size ≤ sizeLine := Nat.le_trans (Nat.le_of_lt hb) (by decide)
  refine wpAny_bind (wpAny_storeSet_of ho hd ?_ sb)
  split
  · refine wpAny_bind (hg _ _ _ ?_)
    have p1 := relayAll_perm t2 es1 (SetTable.grown es1.size)
    have l1 : (relayAll t2 es1 (SetTable.grown es1.size)).1.size = es1.size := by
      have := p1.length_eq
      rwa [Array.length_toList, Array.length_toList] at this
    obtain ⟨ks', pk, hv'⟩ := vals_perm (p1.map (·.2)) hv
    refine wpAny_bind (wpAny_storeSet_of (store_at ho hd) rfl ?_ (by rw [l1]; exact sb))
    refine wpAny_pure ?_
    have R1 := SetSR.store (P := P) (w := w) (L := L) (store_at (es' := es1) (t' := t2) ho hd) hex rfl (elems_perm p1 hel) hv' (pk.trans hp) (by rw [l1]; exact hb) (relayAll_fits _ _ _) (relayAll_ris _ _ _) (by rw [relayAll_led]; exact hl)
    exact hQ _ ((Heap.SameBut.update _ _ _).trans (Heap.SameBut.update _ _ _)) R1
  · refine wpAny_pure ?_
    exact hQ _ (Heap.SameBut.update _ _ _) (SetSR.store ho hex hd hel hv hp hb hf hr hl)

theorem setS_add {P : Program} {w : World} {A : Around} {E : Value → Shared → Prop} {s : Shared} {a : Addr} {L : List Str} {k : Str} {tk : Tok} {Q : Bool → Shared → Prop} (R : SetSR P w s.heap a L) (hk : k ∉ L) (room : L.length + 1 < scanBound)
    (hQ : ∀ h' : Heap, Heap.SameBut a s.heap h' → SetSR P w h' a (k :: L) → Q true { s with heap := h' }) : wpAny (model P w) A (setAddHashed a (.str k tk) ((mixKind P w).hash (Sum.inr k))) Q E s := by
  obtain ⟨o, es, ep, t, ks, ho, hex, hd, hel, hv, hp, hb, hf, hr, hl⟩ := R
  have hkey : (mixKind P w).is (Sum.inr k) (Value.str k tk) = true := by show (k == k) = true; exact beq_self_eq_true k
  have hsc : (Value.str k tk).scannable = true := rfl
  have hk' : k ∉ ks := fun z => hk (hp.mem_iff.mp z)
  have le : es.size = L.length := by
    have h1 := Paired.len hv
    have h2 : (ks.map V.str).length = L.length := by rw [List.length_map, hp.length_eq]
    have h3 : (es.toList.map (·.2)).length = es.size := by rw [List.length_map, Array.length_toList]
    omega
  have w1 := layNew_fits t es ((mixKind P w).hash (Sum.inr k)) (Value.str k tk)
  have w2 := layNew_perm t es ((mixKind P w).hash (Sum.inr k)) (Value.str k tk)
  have w3 := layNew_ris t es ((mixKind P w).hash (Sum.inr k)) (Value.str k tk) hr
  have w4 := layNew_led t es ((mixKind P w).hash (Sum.inr k)) (Value.str k tk)
  show wpAny (model P w) A (holding [Value.str k tk] do setAddHashedIn a (.str k tk) ((mixKind P w).hash (Sum.inr k)) (99999 + 1)) Q E s
  rw [setAddHashedIn_succ]
  refine wpAny_holding (wpAny_bind (wpAny_setState_of ho hd hf ?_))
  show wpAny (model P w) _ (if byScan (Value.str k tk) es = true then _ else _) _ _ _
  rw [if_pos (byScan_of hsc hb hel)]
  refine wpAny_bind ?_
  unfold setAddByScan
  refine wpAny_bind (wpAny_rule ?_)
  refine wpAny_bind (wpAny_setScan_of (knd := mixKind P w) (k := Sum.inr k) hkey ho hd hf hel ?_)
  rw [find_none hv hk']
  generalize layNew t es ((mixKind P w).hash (Sum.inr k)) (Value.str k tk) = r at w1 w2 w3 w4 ⊢
  obtain ⟨es1, t1, wd, gv⟩ := r
  replace w1 : t1.fits es1.size = true := w1
  replace w2 : es1.toList.Perm (es.push ((mixKind P w).hash (Sum.inr k), Value.str k tk)).toList := w2
  replace w3 : Ris t1.place.toList := w3
  replace w4 : t1.led = t.led := w4
  have l1 : es1.size = es.size + 1 := by
    have := w2.length_eq
    rwa [Array.length_toList, Array.length_toList, Array.size_push] at this
  have p2 : es1.toList.Perm (es.toList ++ [((mixKind P w).hash (Sum.inr k), Value.str k tk)]) := by rw [Array.toList_push] at w2; exact w2
  have el1 : ElemsOf (mixKind P w) es1.toList := elems_perm p2 fun e he => by
    rcases List.mem_append.mp he with z | z
    · exact hel e z
    · rw [List.mem_singleton.mp z]
      exact ⟨⟨Sum.inr k, hkey, rfl⟩, hsc⟩
  have v0 : Vals ((ks ++ [k]).map V.str) ((es.toList ++ [((mixKind P w).hash (Sum.inr k), Value.str k tk)]).map (·.2)) := by
    rw [List.map_append, List.map_append]
    exact hv.append (.cons ⟨tk, rfl⟩ .nil)
  obtain ⟨ks', pk, hv'⟩ := vals_perm (p2.map (·.2)) v0
  have pk' : ks'.Perm (k :: L) := pk.trans ((List.perm_append_singleton k ks).trans (hp.cons k))
  have hb1 : es1.size < scanBound := by omega
  have hl1 : w.params.followText "set-order" = true ∨ t1.led = true := by rw [w4]; exact hl
  refine wpAny_bind ?_
  cases gv
  case' true => refine (wpAny_rule ?_)
  case' false => refine (wpAny_pure ?_)
  all_goals
    show wpAny (model P w) A (if t1.plain = true then _ else _) _ _ _
    split
    case' isTrue => refine wpAny_bind (wpAny_pure ?_)
    case' isTrue => exact setS_tail (t2 := { t1 with plain := false }) (wasDummy := wd) (fun b s₁ Q' h => by cases b; exact wpAny_pure h; exact wpAny_rule h) ho hex hd el1 hv' pk' hb1 (SetTable.fits_plain_off w1) w3 hl1 fun h' sb R' => wpAny_pure (hQ h' sb R')
    case' isFalse => refine wpAny_bind (wpAny_pure ?_)
    case' isFalse => exact setS_tail (t2 := t1) (wasDummy := wd) (fun b s₁ Q' h => by cases b; exact wpAny_pure h; exact wpAny_rule h) ho hex hd el1 hv' pk' hb1 w1 w3 hl1 fun h' sb R' => wpAny_pure (hQ h' sb R')
end My

namespace My
open PySem L2
theorem SetTR.to_s {P : Program} {w : World} {s : Shared} {a : Addr} {es : Array (Int × Value)} {ep : Nat} {t : SetTable} (R : SetTR P w s.heap a [] es ep t) : SetSR P w s.heap a [] := by
  obtain ⟨o, ho, hex, hd⟩ := R.ob
  have he : es.toList = [] := R.rows
  have h0 : es.size = 0 := by rw [← Array.length_toList, he]; rfl
  refine ⟨o, es, ep, t, [], ho, hex, hd, ?_, ?_, .refl _, ?_, R.fits, R.tab.ris, R.led⟩
  · rw [he]
    intro e z
    cases z
  · rw [he]
    exact .nil
  · rw [h0]
    decide
def relOk (led : Bool) (n : Nat) : Bool := match (SetTable.fresh 0 0 led).relaid #[] (n * 2) with
  | some (t', order) => decide (t'.place = #[] ∧ t'.dummies = #[] ∧ t'.led = led ∧ order = #[]) && decide (SetTable.sizeAbove (n * 2) ≤ 1000)
  | none => false
theorem relOk_all : ∀ led : Bool, ∀ n, n < 31 → relOk led n = true := by decide +kernel
theorem relaid0 (led : Bool) {n : Nat} (h : n < 31) : ∃ t' : SetTable, (SetTable.fresh 0 0 led).relaid #[] (n * 2) = some (t', #[]) ∧ t'.place = #[] ∧ t'.dummies = #[] ∧ t'.led = led ∧ SetTable.sizeAbove (n * 2) ≤ 1000 := by
  have e := relOk_all led n h
  unfold relOk at e
  split at e
  · rename_i t' order q
    rw [Bool.and_eq_true] at e
    obtain ⟨h1, h2, h3, h4⟩ := of_decide_eq_true e.1
    subst h4
    exact ⟨t', q, h1, h2, h3, of_decide_eq_true e.2⟩
  · cases e
theorem set_room {P : Program} {w : World} {A : Around} {E : Value → Shared → Prop} {s : Shared} {a : Addr} {n : Nat} {Q : Unit → Shared → Prop} (ho : s.heap.get? a = some { cls := Value.type "set", data := Data.set #[] 0 (SetTable.fresh 0 0 !w.params.followText "set-order") }) (hn : n ≤ 30)
    (hQ : ∀ h' : Heap, Heap.SameBut a s.heap h' → SetSR P w h' a [] → Q () { s with heap := h' }) : wpAny (model P w) A (setRoomFor a n) Q E s := by
  have R := setTR_fresh (P := P) (w := w) ho
  unfold setRoomFor
  refine wpAny_bind (wpAny_setState_of ho rfl R.fits ?_)
  have e : (SetTable.fresh 0 0 !w.params.followText "set-order").roomFor n = if (0 + n) * 5 ≥ 7 * 3 then some ((0 + n) * 2) else none := rfl
  rw [show ((#[], 0, SetTable.fresh 0 0 !w.params.followText "set-order") : Array (Int × Value) × Nat × SetTable).snd.snd.roomFor n = if (0 + n) * 5 ≥ 7 * 3 then some ((0 + n) * 2) else none from rfl]
  by_cases c : (0 + n) * 5 ≥ 7 * 3
  · rw [if_pos c, Nat.zero_add]
    obtain ⟨t', h1, h2, h3, h4, h5⟩ := relaid0 (!w.params.followText "set-order") (show n < 31 by omega)
    show wpAny (model P w) A (setRelay a (n * 2)) Q E s
    rw [setRelay_eq]
    refine wpAny_bind (wpAny_setState_of ho rfl R.fits ?_)
    have big : ¬ SetTable.sizeAbove (n * 2) > sizeLine := fun z => by
      have : 1000 ≤ sizeLine := by decide
      omega
    show wpAny (model P w) A (if SetTable.sizeAbove (n * 2) > sizeLine then _ else _) Q E s
    rw [if_neg big]
    refine wpAny_bind ?_
    rw [show (Array.map (fun x : Int × Value => x.fst) #[]) = #[] from by simp, h1]
    refine wpAny_pure ?_
    refine wpAny_storeSet_of ho rfl ?_ (by decide)
    refine hQ _ (Heap.SameBut.update _ _ _) (SetSR.store (ks := []) ho ⟨rfl, rfl, rfl⟩ rfl (fun e z => by cases z) .nil (.refl _) (by decide) ?_ (by rw [h2]; exact List.Pairwise.nil) ?_)
    · unfold SetTable.fits SetTable.fill
      rw [h2, h3]
      show (true && decide (0 + 0 ≤ t'.mask)) = true
      rw [Bool.true_and]
      exact decide_eq_true (by omega)
    · rw [h4]
      cases w.params.followText "set-order"
      · exact .inr rfl
      · exact .inl rfl
  · rw [if_neg c]
    exact wpAny_pure (hQ s.heap ⟨rfl, fun _ _ => rfl⟩ (SetTR.to_s R))
theorem for_range0 {M : Model} {A : Around} {E : Value → Shared → Prop} {f : Nat → PUnit → Sem (ForInStep PUnit)} (I : Nat → Shared → Prop) (n : Nat) (h : ∀ i s, i < n → I i s → wpAny M A (f i ⟨⟩) (fun r s' => r = .yield ⟨⟩ ∧ I (i + 1) s') E s) {Q : PUnit → Shared → Prop} (hQ : ∀ s, I n s → Q ⟨⟩ s) : ∀ (k i : Nat), i + k = n → ∀ s, I i s → wpAny M A (forIn (List.range' i k) PUnit.unit f) Q E s
  | 0, i, e, s, hi => by
    have : i = n := e
    subst this
    exact wpAny_pure (hQ s hi)
  | k + 1, i, e, s, hi => by
    rw [List.range'_succ, List.forIn_cons]
    refine wpAny_bind (wpAny_mono (h i s (by omega) hi) ?_ fun _ _ z => z)
    rintro r s' ⟨rfl, hi'⟩
    exact for_range0 I n h hQ k (i + 1) (by omega) s' hi'
theorem for_range {M : Model} {A : Around} {E : Value → Shared → Prop} {f : Nat → PUnit → Sem (ForInStep PUnit)} {n : Nat} {s : Shared} {Q : PUnit → Shared → Prop} (I : Nat → Shared → Prop) (h0 : I 0 s) (h : ∀ i s, i < n → I i s → wpAny M A (f i ⟨⟩) (fun r s' => r = .yield ⟨⟩ ∧ I (i + 1) s') E s)  (hQ : ∀ s, I n s → Q ⟨⟩ s) :
    wpAny M A (forIn ([0:n] : Std.Legacy.Range) PUnit.unit f) Q E s := by
  rw [Std.Legacy.Range.forIn_eq_forIn_range']
  have e : ([0:n] : Std.Legacy.Range).size = n := by simp [Std.Legacy.Range.size]
  show wpAny M A (forIn (List.range' 0 ([0:n] : Std.Legacy.Range).size 1) PUnit.unit f) Q E s
  rw [e]
  exact for_range0 I n h hQ n 0 (Nat.zero_add n) s h0
theorem pairs_at {P : Program} {w : World} : ∀ {es : List DictEntry} {kvs : List (Key × Value)}, Pairs (mixKind P w) es kvs → es.length = kvs.length ∧ ∀ (i : Nat) (e : DictEntry), es[i]? = some e → ∃ kv, kvs[i]? = some kv ∧ (mixKind P w).is kv.1 e.key = true
  | _, _, .nil => ⟨rfl, fun i e z => by simp at z⟩
  | _, _, .cons (e := e0) (kv := kv0) h _ r => by
    obtain ⟨h1, h2⟩ := pairs_at r
    refine ⟨by rw [List.length_cons, List.length_cons, h1], fun i e z => ?_⟩
    cases i with
    | zero =>
      have z := Option.some.inj z
      subst z
      exact ⟨kv0, rfl, h⟩
    | succ j => exact h2 j e z
theorem SetSR.perm {P : Program} {w : World} {h : Heap} {a : Addr} {L L' : List Str} (R : SetSR P w h a L) (p : L.Perm L') : SetSR P w h a L' := by
  obtain ⟨o, es, ep, t, ks, ho, hex, hd, hel, hv, hp, hb, hf, hr, hl⟩ := R
  exact ⟨o, es, ep, t, ks, ho, hex, hd, hel, hv, hp.trans p, hb, hf, hr, hl⟩
theorem key_str {P : Program} {w : World} {k : Str} {v : Value} (h : (mixKind P w).is (Sum.inr k) v = true) : ∃ tk, v = .str k tk := by
  have h : Value.isStrOf k v = true := h
  unfold Value.isStrOf at h
  split at h
  · exact ⟨_, by rw [eq_of_beq h]⟩
  · cases h
theorem upd_dict {P : Program} {w : World} {A : Around} {E : Value → Shared → Prop} {s : Shared} {a d : Addr} {m : List Str} {kvs : List (Key × Value)} {Q : Unit → Shared → Prop} (ho : s.heap.get? a = some { cls := Value.type "set", data := Data.set #[] 0 (SetTable.fresh 0 0 !w.params.followText "set-order") }) (hd : Heap.DictOf (mixKind P w) s.heap d kvs) (hm : kvs.map (·.1) = m.map Sum.inr) (hn : kvs.length ≤ 30) (hs : (d == sysModules) = false) (hne : d ≠ a)
    (hQ : ∀ h' : Heap, Heap.SameBut a s.heap h' → SetSR P w h' a m → Q () { s with heap := h' }) : wpAny (model P w) A (Builtin.Frozenset.updateFrom "set.__init__" a (.ref d)) Q E s := by
  obtain ⟨o, es, ep, h1, hex, h2, hk, hp, nd⟩ := hd
  unfold Builtin.Frozenset.updateFrom
  have td : s.TypeIs (.ref d) "dict" := ⟨o, h1, hex.1⟩
  refine wpAny_bind ?_
  unfold Builtin.Frozenset.isAnySet
  refine wpAny_bind (wpAny_isInstance td F.sub_dict_set ?_)
  refine wpAny_isInstance td F.sub_dict_frozenset ?_
  rw [if_neg (by decide)]
  refine wpAny_bind (wpAny_typeOf td ?_)
  rw [if_pos (by decide)]
  refine wpAny_bind (wpAny_rule ?_)
  refine wpAny_bind (wpAny_pure ?_)
  rw [if_neg (by rw [hs]; decide)]
  refine wpAny_bind (wpAny_dictEpoch h1 h2 ?_)
  refine wpAny_bind (wpAny_dictEntries h1 h2 ?_)
  obtain ⟨le, at_⟩ := pairs_at hp
  have lm : kvs.length = m.length := by
    have := congrArg List.length hm
    rwa [List.length_map, List.length_map] at this
  have ls : es.size = m.length := by rw [← Array.length_toList, le, lm]
  have ndm : m.Nodup := by
    rw [hm] at nd
    exact List.Pairwise.of_map Sum.inr (fun _ _ q z => q (by rw [z])) nd
  refine wpAny_bind (set_room ho (by omega) fun h' sb R => ?_)
  have hd0 : ∀ h' : Heap, Heap.SameBut a s.heap h' → h'.get? d = some o := fun h' sb => by rw [sb.2 d hne]; exact h1
  refine wpAny_bind (wpAny_dictEntries (hd0 h' sb) h2 ?_)
  refine wpAny_bind (for_range (fun i u => ∃ h' : Heap, u = { s with heap := h' } ∧ Heap.SameBut a s.heap h' ∧ SetSR P w h' a (m.take i)) ⟨h', rfl, sb, R⟩ ?_ ?_)
  · rintro i u hi ⟨h2', rfl, sb', R'⟩
    have hi' : i < m.length := by rw [← ls]; exact hi
    refine wpAny_bind (wpAny_dictEntries (hd0 h2' sb') h2 ?_)
    rw [Array.getElem?_eq_getElem hi]
    obtain ⟨kv, hkv, hk1⟩ := at_ i es[i] (by rw [Array.getElem?_toList, Array.getElem?_eq_getElem hi])
    have ek : kv.1 = Sum.inr m[i] := by
      have e1 : (kvs.map (·.1))[i]? = some kv.1 := by rw [List.getElem?_map, hkv]; rfl
      rw [hm, List.getElem?_map, List.getElem?_eq_getElem hi'] at e1
      exact (Option.some.inj e1).symm
    rw [ek] at hk1
    obtain ⟨tk, et⟩ := key_str hk1
    obtain ⟨k, hk2, hh⟩ := hk es[i] (Array.getElem_mem hi)
    have e3 : k = Sum.inr m[i] := (mixKind P w).inj _ _ _ hk2 hk1
    rw [e3] at hh
    have nin : m[i] ∉ m.take i := fun z => by
      obtain ⟨j, hj, e⟩ := List.mem_iff_getElem.mp z
      rw [List.length_take] at hj
      rw [List.getElem_take] at e
      have := (List.pairwise_iff_getElem.mp ndm) j i (by omega) hi' (by omega)
      exact this e
    show wpAny (model P w) A (do
      let _ ← holding [es[i].key] (setAddHashed a es[i].key es[i].hash)
      let __do_lift ← dictEpoch d
      if (__do_lift != ep) = true then do
        unsupported (toString "set.__init__" ++ toString ":changed-during-callback")
        pure (ForInStep.yield PUnit.unit)
      else pure (ForInStep.yield PUnit.unit)) _ _ _
    rw [et, hh]
    refine wpAny_bind (wpAny_holding (setS_add R' nin (by rw [List.length_take]; have : scanBound = 4096 := rfl; omega) fun h3 sb3 R3 => ?_))
    have sb4 : Heap.SameBut a s.heap h3 := ⟨sb3.1.trans sb'.1, fun b n => (sb3.2 b n).trans (sb'.2 b n)⟩
    refine wpAny_bind (wpAny_dictEpoch (hd0 h3 sb4) h2 ?_)
    rw [if_neg (by simp)]
    refine wpAny_pure ⟨rfl, h3, rfl, sb4, R3.perm ?_⟩
    rw [List.take_add_one, List.getElem?_eq_getElem hi']
    exact (List.perm_append_singleton _ _).symm
  · rintro u ⟨h3, rfl, sb3, R3⟩
    refine wpAny_pure (hQ h3 sb3 (R3.perm ?_))
    rw [ls, List.take_length]
end My

namespace My
open PySem L2
theorem call_set_dict {P : Program} {w : World} {A : Around} {E : Value → Shared → Prop} {s : Shared} {d : Addr} {m : List Str} {kvs : List (Key × Value)} {Q : Value → Shared → Prop} (hd : Heap.DictOf (mixKind P w) s.heap d kvs) (hm : kvs.map (·.1) = m.map Sum.inr) (hn : kvs.length ≤ 30) (hs : (d == sysModules) = false)
    (hQ : ∀ (h' : Heap), (∀ (b : Addr) (o : Obj), s.heap.get? b = some o → h'.get? b = some o) → SetSR P w h' s.heap.objs.size m → Q (.ref s.heap.objs.size) { s with heap := h' }) : wpAny (model P w) A (call (Value.type "set") [.ref d]) Q E s := by
  obtain ⟨o, es, ep, h1, hex, hrest⟩ := id hd
  have ltd : d < s.heap.objs.size := Heap.lt_size h1
  obtain ⟨c, tl, hmro⟩ := F.called_set.mro
  refine wpAny_call (codeAny_of_tree ?_)
  refine wpAny_pure ⟨Code.quiet_builtin _ (by decide +kernel), codeAny_builtin F.entry_type_call ?_⟩
  rw [Around.under_plain (weight_type_call_type "set" [Value.ref d] []) rfl]
  have hcan : decide (((Manifest.find? "set").bind fun x => List.findSome? (fun t => (Manifest.find? t).bind fun b => if b.noNew = true then some true else if (b.attrs.any fun x => x.fst == "__new__") = true then some false else none) x.mro).getD false = true) = false := by rw [F.called_set.canCreate]; rfl
  unfold Builtin.«type.__call__»
  refine wpAny_ite_false (show decide ((Value.type "set" == Value.type "type") = true) = false from rfl) ?_
  refine wpAny_ite_false hcan ?_
  refine wpAny_bind (wpAny_of_eq (F.typeCall_set_1 _) ?_)
  refine wpAny_bind (wpAny_of_eq hmro ?_)
  refine wpAny_ite_false rfl ?_
  refine wpAny_bind (wpAny_of_eq F.called_set.made ?_)
  refine wpAny_bind (wpAny_pure ?_)
  refine wpAny_bind (wpAny_holding (wpAny_call (codeAny_mono (code_set_led1 (E := fun _ _ => False) (Q₁ := fun obj s₁ => obj = .ref s.heap.objs.size ∧ s₁ = { s with heap := s.heap.push { cls := Value.type "set", data := Data.set #[] 0 (SetTable.fresh 0 0 !w.params.followText "set-order") } }) _ ⟨rfl, rfl⟩) ?_)))
  intro r s₁ hr
  cases r with
  | error e => exact hr.elim
  | ok fl =>
    cases fl with
    | next => exact hr.elim
    | brk => exact hr.elim
    | cont => exact hr.elim
    | ret v =>
      obtain ⟨rfl, rfl⟩ := hr
      have hnew := Heap.get?_push_size s.heap (o := { cls := Value.type "set", data := Data.set #[] 0 (SetTable.fresh 0 0 !w.params.followText "set-order") }) rfl
      have td := (⟨_, hnew, rfl⟩ : Shared.TypeIs { s with heap := s.heap.push { cls := Value.type "set", data := Data.set #[] 0 (SetTable.fresh 0 0 !w.params.followText "set-order") } } (Value.ref s.heap.objs.size) "set")
      refine wpAny_bind (wpAny_isInstance td F.called_set.sub ?_)
      refine wpAny_ite_false (show decide ((!true) = true) = false from rfl) ?_
      refine wpAny_bind (wpAny_holding (wpAny_callSpecial?_slot td F.called_set.init ?_))
      refine wpAny_call (codeAny_call_builtin F.called_set.init.plain F.entry_set_init (check_set_init_1 td ?_))
      unfold Builtin.«set.__init__»
      have R := setTR_fresh (P := P) (w := w) hnew
      refine wpAny_bind (wpAny_pure ?_)
      refine wpAny_bind ?_
      unfold typeNameOfCut
      refine wpAny_bind ?_
      unfold shownTypeOf
      refine wpAny_bind (wpAny_typeOf td ?_)
      refine wpAny_ite_false (show decide ((Value.type "set" == Value.type "builtin_function_or_method") = true) = false from rfl) ?_
      refine wpAny_pure ?_
      refine wpAny_pure ?_
      refine wpAny_bind (wpAny_pure ?_)
      refine wpAny_bind (wpAny_pure ?_)
      refine wpAny_bind (wpAny_bind (wpAny_setState_of hnew rfl (SetTR.fits (s := { s with heap := s.heap.push { cls := Value.type "set", data := Data.set #[] 0 (SetTable.fresh 0 0 !w.params.followText "set-order") } }) R) (wpAny_pure ?_)))
      refine wpAny_ite_false (show decide (((SetTable.fresh 0 0 !w.params.followText "set-order").fill != 0) = true) = false from rfl) ?_
      have hd' : Heap.DictOf (mixKind P w) (s.heap.push { cls := Value.type "set", data := Data.set #[] 0 (SetTable.fresh 0 0 !w.params.followText "set-order") }) d kvs := ⟨o, es, ep, Heap.get?_push_of_some _ h1, hex, hrest⟩
      refine wpAny_bind (upd_dict (s := { s with heap := s.heap.push { cls := Value.type "set", data := Data.set #[] 0 (SetTable.fresh 0 0 !w.params.followText "set-order") } }) hnew hd' hm hn hs (Nat.ne_of_lt ltd) fun h' sb R' => ?_)
      refine wpAny_pure ?_
      refine wpAny_pure ?_
      refine hQ h' (fun b u e => ?_) R'
      rw [sb.2 b (Nat.ne_of_lt (Heap.lt_size e))]
      exact Heap.get?_push_of_some _ e
end My

namespace My
open PySem L2
theorem sorted_setS {P : Program} {w : World} {A : Around} {E : Value → Shared → Prop} {s : Shared} {a : Addr} {L : List Str} {Q : Value → Shared → Prop} (R : SetSR P w s.heap a L) (hh : A.handled = none) (hn : L.length < 64)
    (hQ : ∀ (s' : Shared) (p : Nat) (out : Array Value) (c : Nat) (ys : List Str), (∀ (b : Addr) (o : Obj), s.heap.get? b = some o → s'.heap.get? b = some o) → s'.gens = s.gens → s'.os = s.os → s.heap.objs.size ≤ p → s'.heap.get? p = some (PyProof.Rows.seqObj "list" out c) →
      Vals (ys.map V.str) out.toList → ys.Perm L → PyProof.Rows.sortedS ys = true → Q (.ref p) s') : wpAny (model P w) A (call (Value.builtin "sorted") [.ref a]) Q E s := by
  obtain ⟨o, es, ep, t, ks, ho, hex, hd, hel, hv, hp, hb, hf, hr, hl⟩ := R
  refine Calls.call_function_entry PyProof.Rows.kind_sorted PyProof.Rows.plain_sorted PyProof.Rows.entry_sorted (PyProof.Rows.args_sorted1 (Value.ref a)) ?_
  refine wpAny_bind (wpAny_pure ?_)
  refine wpAny_bind (collect_set hh ⟨o, ho, hex.1, hd⟩ hf hb hr hl fun s1 vs k1 hz g1 o1 pm => ?_)
  obtain ⟨ks', pk, hv'⟩ := vals_perm pm hv
  have lv : vs.length = L.length := by
    have h1 := Paired.len hv'
    rw [List.length_map] at h1
    rw [← h1, pk.length_eq, hp.length_eq]
  have h64 : vs.length < 64 := by omega
  have hsl : vs.length ≤ sizeLine := sz (by omega)
  refine wpAny_bind (wpAny_newList ?_ hsl)
  have hoL := Heap.get?_push_size s1.heap (o := PyProof.Rows.seqObj "list" vs.toArray 0) rfl
  have hS := Vals.strs hv'
  refine wpAny_bind (wpAny_holding (wpAny_call_entry (rest := []) PyProof.Rows.slot_list_sort ⟨_, hoL, rfl⟩ PyProof.Rows.entry_list_sort (PyProof.Rows.list_sort_treeK PyProof.Rows.strKind_oneLt hoL (PyProof.Rows.StrsAre.keysOf hS) (fun v₁ v₂ rest e => PyProof.Rows.keyKind_strs (by rw [← e]; exact hS)) h64 fun st' hp' hs' => ?_) (PyProof.Rows.args_list_sort _)))
  obtain ⟨ys, g1', g2, g3⟩ := PyProof.Rows.sorted_out_str hS hp' hs'
  obtain ⟨c, hc⟩ := PyProof.Rows.sortedHeap_at (out := Array.map (fun x => x.snd) (PyProof.Rows.arrOf st')) hoL
  refine ⟨_, rfl, ?_⟩
  refine wpAny_pure ⟨_, rfl, ?_⟩
  refine hQ _ s1.heap.objs.size _ c ys (fun b u e => ?_) g1 o1 hz hc (vals_of_strs g1') (g2.trans (pk.trans hp)) g3
  have q := k1 b u e
  have hlt := Heap.lt_size q
  show (PyProof.Rows.sortedHeap _ _ _ _).get? b = some u
  rw [PyProof.Rows.sortedHeap_old (Nat.ne_of_lt hlt) (by rw [PyProof.Rows.size_push']; exact Nat.lt_succ_of_lt hlt)]
  exact Heap.get?_push_of_some _ q
/-- a set of just the texts L -/
def SetSO (P : Program) (w : World) (a : Addr) (L : List Str) : HO := .ext fun h => SetSR P w h a L
theorem setSO_new {P : Program} {w : World} {H : Hp} {h : Heap} {a : Addr} {L : List Str} (R : SetSR P w h a L) : ObjOk P w H h a (SetSO P w a L) := by
  refine ⟨R, ?_, ?_⟩
  · obtain ⟨o, es, ep, t, ks, ho, _⟩ := R
    exact ⟨o, ho⟩
  · rintro h1 h2 ⟨o, es, ep, t, ks, ho, r⟩ k
    exact ⟨o, es, ep, t, ks, k o ho, r⟩
def rSetD (P : Program) (w : World) : List V → Hp → VK → Prop := fun xs H Q => ∃ (d : Addr) (kvs : List (Key × V)) (ks : List Str), xs = [.ref d] ∧ H d = some (.dK kvs) ∧ kvs.map (·.1) = ks.map Sum.inr ∧ kvs.length ≤ 30 ∧ ∀ a, H a = none → Q (.ref a) (upd H a (SetSO P w a ks))
theorem kv_keys {κ : Type} : ∀ {kvs : List (κ × V)} {vs : List (κ × Value)}, KV kvs vs → vs.map (·.1) = kvs.map (·.1)
  | _, _, .nil => rfl
  | _, _, .cons h r => by
    rw [List.map_cons, List.map_cons, kv_keys r, h.1]
theorem cr_setD {X : Cx} : CallR X (.type "set") (rSetD X.prog X.w) := by
  intro pins s σ H xs us Q I r h
  obtain ⟨d, kvs, ks, rfl, hd, hk, hn, q⟩ := h
  obtain ⟨u, rfl, ru⟩ := vals1 r
  cases ru
  obtain ⟨hz, hs, vs, kv, dof⟩ := (show kvs.length ≤ sizeLine ∧ (d == sysModules) = false ∧ ∃ vs, KV kvs vs ∧ Heap.DictOf (mixKind X.prog X.w) s.heap d vs from I.hok d _ hd)
  have e1 := kv_keys kv
  have e2 : vs.length = kvs.length := by
    have := congrArg List.length e1
    rwa [List.length_map, List.length_map] at this
  refine call_set_dict dof (e1.trans hk) (by omega) hs fun h' k R => ?_
  have hnw := HOk.fresh I.hok (Nat.le_refl s.heap.objs.size)
  exact ⟨.ref s.heap.objs.size, _, Inv.laid I k (Nat.le_refl _) (setSO_new R), rfl, q _ hnw⟩
def rSortedSet' (P : Program) (w : World) : List V → Hp → VK → Prop := fun xs H Q => ∃ (a : Addr) (L : List Str), xs = [.ref a] ∧ H a = some (SetSO P w a L) ∧ L.length < 64 ∧ ∀ (ys : List Str) (p : Addr), ys.Perm L → PyProof.Rows.sortedS ys = true → H p = none → Q (.ref p) (upd H p (.lst (ys.map V.str)))
theorem cr_sortedSO {X : Cx} (hc : X.calm = true) : CallR X (.builtin "sorted") (rSortedSet' X.prog X.w) := by
  intro pins s σ H xs us Q I r h
  obtain ⟨a, L, rfl, ha, hn, q⟩ := h
  obtain ⟨u, rfl, ru⟩ := vals1 r
  cases ru
  have R : SetSR X.prog X.w s.heap a L := (I.hok a _ ha).1
  refine sorted_setS R (I.ok.hd hc) hn fun s' p out c ys k g o hp hg hv pm so => ?_
  have hnp := HOk.fresh I.hok hp
  have hlen : (ys.map V.str).length ≤ sizeLine := by
    rw [List.length_map, pm.length_eq]
    exact sz (by omega)
  have J : Inv X pins σ (upd H p (.lst (ys.map V.str))) { heap := s'.heap, gens := s'.gens, drawn := s'.drawn, toks := s'.toks, os := s.os } :=
    Inv.call (ch := []) I (Un.laid k hp hnp) (HOk.laid I.hok k hp ⟨hlen, out.toList, c, hv, hg⟩) (by rw [g]; exact I.bare) fun x z => by cases z
  have e : s' = { heap := s'.heap, gens := s'.gens, drawn := s'.drawn, toks := s'.toks, os := s.os } := by rw [← o]
  rw [e]
  exact ⟨.ref p, _, J, rfl, q ys p pm so hnp⟩
end My

namespace My
open PySem L2
/-! a Lot: an instance with a dict of numbers above 0 -/
structure LoA (C : Addr) (H : Hp) (a : Addr) (m : AL) : Prop where
  ex : ∃ d dx, H a = some (.ins C dx [("_many", .ref d)]) ∧ H d = some (.dK (enc m))
  nd : (keys m).Nodup
  ps : ∀ p ∈ m, 0 < p.2
  ln : m.length ≤ 30
theorem LoA.same {C : Addr} {H H' : Hp} {a : Addr} {m : AL} (h : LoA C H a m) (s : Same H H') : LoA C H' a m := by
  obtain ⟨⟨d, dx, h1, h2⟩, nd, ps, ln⟩ := h
  exact ⟨⟨d, dx, s _ _ h1, s _ _ h2⟩, nd, ps, ln⟩
theorem LoA.upd {C : Addr} {H : Hp} {a p : Addr} {m : AL} {o : HO} (h : LoA C H a m) (hp : H p = none) : LoA C (L2.upd H p o) a m := h.same fun _ _ e => upd_at e (ne_of_none e hp)
theorem pos_all {m : AL} (h : ∀ p ∈ m, 0 < p.2) : pos m = m := List.filter_eq_self.mpr fun p hp => decide_eq_true (h p hp)
theorem LoA.pos {C : Addr} {H : Hp} {a : Addr} {m : AL} (h : LoA C H a m) : My.pos m = m := pos_all h.ps
theorem get_pos {m : AL} (h : ∀ p ∈ m, 0 < p.2) (nd : (keys m).Nodup) {k : Str} (hk : k ∈ keys m) : 0 < get m k := by
  obtain ⟨p, hp, rfl⟩ := List.mem_map.mp hk
  have e : look m p.1 = some p.2 := (look_mem nd).mpr hp
  unfold get
  rw [e]
  exact h p hp
theorem get_none {m : AL} {k : Str} (hk : k ∉ keys m) : get m k = 0 := by
  unfold get
  rw [look_none.mpr hk]
  rfl
theorem get_nn {m : AL} (h : ∀ p ∈ m, 0 < p.2) (nd : (keys m).Nodup) (k : Str) : 0 ≤ get m k := by
  by_cases c : k ∈ keys m
  · exact Int.le_of_lt (get_pos h nd c)
  · rw [get_none c]
    exact Int.le_refl _
theorem enc_keys (m : AL) : (enc m).map (·.1) = (keys m).map Sum.inr := by
  unfold enc keys
  rw [List.map_map, List.map_map]
  rfl
section
variable {X : Cx} {CX : CXT} {k : Nat} {C : Addr} {m : Str} {ps : List Str} {sp : Sp} {E : XK}
theorem pe_methO {o e : Expr} {es : List Expr} {ta : TE} {t : TA} {pos apos : Pos} {pl : Sem Bool} (O : OCal X.prog X.w X.K X.mg X.base CX k C m ps sp) (c : Cls X.K C) (hr : Room k X.A) (hx : Passes CX X E) (ho : PE X o ta) (ha : PA X (e :: es) t)
    (h1 : starEach (e :: es) X.env = (false, eval e X.env) :: starEach es X.env := by rfl) (h2 : (backTo pos (starEach es X.env)).any (·.1) = false := by rfl)
    (h3 : eval (.Call (.Attribute o m apos) (e :: es) [] pos) X.env = (do
      let ov ← eval o X.env
      standAt apos.atName
      let __x ← holding [ov] (getMethod ov m pl)
      match __x with
      | (f, first) => callWith pos f first (backTo pos (starEach (e :: es) X.env)) (backToKw pos (keywordEach [] X.env))) := by with_unfolding_all rfl) :
    PE X (.Call (.Attribute o m apos) (e :: es) [] pos) (tMeth C m sp [] E ta t) := by
  obtain ⟨f, fd, F, hs, hf, hk, _, hb⟩ := O.ex
  exact pe_meth (pl := pl) ho c ⟨hs, hf, hk⟩ F hr hb .nil hx ha h1 h2 h3
theorem pe_methO0 {o : Expr} {ta : TE} {pos apos : Pos} {pl : Sem Bool} (O : OCal X.prog X.w X.K X.mg X.base CX k C m ps sp) (c : Cls X.K C) (hr : Room k X.A) (hx : Passes CX X E) (ho : PE X o ta)
    (h3 : eval (.Call (.Attribute o m apos) [] [] pos) X.env = (do
      let ov ← eval o X.env
      standAt apos.atName
      let __x ← holding [ov] (getMethod ov m pl)
      match __x with
      | (f, first) => callWith pos f first (backTo pos (starEach [] X.env)) (backToKw pos (keywordEach [] X.env))) := by with_unfolding_all rfl) :
    PE X (.Call (.Attribute o m apos) [] [] pos) (tMeth C m sp [] E ta tNil) := by
  obtain ⟨f, fd, F, hs, hf, hk, _, hb⟩ := O.ex
  exact pe_meth0 (pl := pl) ho c ⟨hs, hf, hk⟩ F hr hb .nil hx h3
theorem r_meth0 {σ : L2.St} {H : Hp} {Q : VK} {ta : TE} (h : ta σ H fun x H1 => ∃ a dx fs, x = .ref a ∧ H1 a = some (.ins C dx fs) ∧ fs.lookup m = none ∧ sp [x] H1 Q E) : tMeth C m sp [] E ta tNil σ H Q := h
/-- C(e): a new instance by __init__ -/
structure OMk (P : Program) (w : World) (K : PySem.W.Frag) (mg : Str → Option Value) (base : Heap) (CX : CXT) (k : Nat) (C : Addr) (x : Str) (ps : List Str) (sp : Sp) : Prop where
  ex : ∃ (f : Addr) (fd : FuncData), Mk K C f ∧ FnOk P w K mg base CX k f fd ps sp ∧ mg x = some (.ref C) ∧ Binds K fd ps []
def tMk (C : Addr) (sp : Sp) (E : XK) (t : TA) : TE := fun σ H Q => t σ H fun vs H1 => ∀ x dx, H1 x = none → H1 dx = none → dx ≠ x → sp (.ref x :: vs) (upd (upd H1 dx (.own x)) x (.ins C dx [])) (fun v H2 => v = .non ∧ Q (.ref x) H2) E
theorem pe_makeO {x : Str} {e : Expr} {es : List Expr} {t : TA} {p pos : Pos} (O : OMk X.prog X.w X.K X.mg X.base CX k C x ps sp) (hr : Room (k + 1) X.A) (hx : Passes CX X E) (ha : PA X (e :: es) t) (hg : Gl X x := by rfl)
    (hdb : (x == ("__debug__" : Str)) = false := by decide) (he : starEach (e :: es) X.env = (false, eval e X.env) :: starEach es X.env := by rfl) (hpl : (backTo pos (starEach es X.env)).any (·.1) = false := by rfl) : PE X (.Call (.Name x p) (e :: es) [] pos) (tMk C sp E t) := by
  obtain ⟨f, fd, M, F, hm, hb⟩ := O.ex
  have h := pe_make (p := p) (pos := pos) M F hr hg hm hb (dvs := []) .nil hx ha hdb he hpl
  refine ⟨fun pins s σ H Q I q => h.run pins s σ H Q I ?_⟩
  have e : (fun vs H1 => ∀ x dx, H1 x = none → H1 dx = none → dx ≠ x → sp (.ref x :: (vs ++ [])) (upd (upd H1 dx (.own x)) x (.ins C dx [])) (fun v H2 => v = .non ∧ Q (.ref x) H2) E) = fun vs H1 => ∀ x dx, H1 x = none → H1 dx = none → dx ≠ x → sp (.ref x :: vs) (upd (upd H1 dx (.own x)) x (.ins C dx [])) (fun v H2 => v = .non ∧ Q (.ref x) H2) E := by
    funext vs H1
    rw [List.append_nil]
  show t σ H _
  rw [e]
  exact q
end
theorem fldK {X : Cx} {e : Expr} {f : Str} {pos : Pos} {ta : TE} (K : PySem.W.Frag) (h : PE X e ta) (hb : attributeBase e f X.env (eval e X.env) = eval e X.env) (eK : X.K = K := by rfl) : PE X (.Attribute e f pos) (tFld K ta f) := by
  subst eK
  exact pe_fld h hb
theorem rising_sle : ∀ {r : List Str} {x : Str}, PyProof.Rows.risingS x r = true → (x :: r).Pairwise (fun a b => sle a b = true)
  | [], x, _ => List.pairwise_singleton _ _
  | y :: r, x, h => by
    unfold PyProof.Rows.risingS at h
    rw [Bool.and_eq_true, PyProof.Rows.ltCps_eq] at h
    have ih := rising_sle h.2
    have h1 : sle x y = true := h.1
    refine List.pairwise_cons.mpr ⟨fun b hb => ?_, ih⟩
    rcases List.mem_cons.mp hb with z | z
    · rw [z]
      exact h1
    · exact sle_trans h1 ((List.pairwise_cons.mp ih).1 b z)
theorem sorted_sle : ∀ {ys : List Str}, PyProof.Rows.sortedS ys = true → ys.Pairwise (fun a b => sle a b = true)
  | [], _ => List.Pairwise.nil
  | _ :: _, h => rising_sle h
theorem cn_of {m : AL} {ys : List Str} (h : ∀ p ∈ m, 0 < p.2) (nd : (keys m).Nodup) (hp : ys.Perm (keys m)) (hs : PyProof.Rows.sortedS ys = true) : Cn m (ys.map fun k => (k, get m k)) := by
  constructor
  · rw [pos_all h]
    refine (hp.map _).trans (List.Perm.of_eq ?_)
    unfold keys
    rw [List.map_map]
    refine (List.map_congr_left fun p hp => ?_).trans (List.map_id m)
    show (p.1, get m p.1) = p
    unfold get
    rw [(look_mem nd).mpr (show (p.1, p.2) ∈ m from hp)]
    rfl
  · rw [List.pairwise_map]
    refine List.Pairwise.imp (fun {a b} z => ?_) (List.Pairwise.and (sorted_sle hs) (hp.nodup_iff.mpr nd))
    show (if a = b then _ else sle a b) = true
    rw [if_neg z.2]
    exact z.1
theorem keys_map (m : AL) (f : Str → Int → Int) : keys (m.map fun p => (p.1, f p.1 p.2)) = keys m := by
  unfold keys
  rw [List.map_map]
  rfl
theorem look_mapf : ∀ (m : AL) (f : Str → Int → Int) (k : Str), look (m.map fun p => (p.1, f p.1 p.2)) k = (look m k).map (f k)
  | [], _, _ => rfl
  | p :: r, f, k => by
    rw [List.map_cons, look_cons, look_cons, look_mapf r f k]
    by_cases e : p.1 = k
    · rw [if_pos e, if_pos e, ← e]
      rfl
    · rw [if_neg e, if_neg e]
theorem tot_mapf {m : AL} (f : Str → Int → Int) (nd : (keys m).Nodup) (k : Str) : tot (m.map fun p => (p.1, f p.1 p.2)) k = if k ∈ keys m then f k (get m k) else 0 := by
  rw [tot_nodup k (by rw [keys_map]; exact nd)]
  unfold get
  rw [look_mapf]
  by_cases h : k ∈ keys m
  · rw [if_pos h]
    cases e : look m k with
    | none => exact absurd h (look_none.mp e)
    | some v => rfl
  · rw [if_neg h, look_none.mpr h]
    rfl
theorem Cn.mem {m qs : AL} (h : Cn m qs) (mp : ∀ p ∈ m, 0 < p.2) (p : Str × Int) : p ∈ qs ↔ p ∈ m := by
  have := h.1.mem_iff (a := p)
  rwa [pos_all mp] at this
theorem Cn.len {m qs : AL} (h : Cn m qs) (mp : ∀ p ∈ m, 0 < p.2) : qs.length = m.length := by
  have := h.1.length_eq
  rwa [pos_all mp] at this
theorem Cn.totf {m qs : AL} (h : Cn m qs) (mp : ∀ p ∈ m, 0 < p.2) (nd : (keys m).Nodup) (f : Str → Int → Int) (k : Str) : tot (qs.map fun p => (p.1, f p.1 p.2)) k = if k ∈ keys m then f k (get m k) else 0 := by
  have e := h.1
  rw [pos_all mp] at e
  rw [tot_perm (e.map _), tot_mapf f nd]
theorem r_mk {C : Addr} {sp : Sp} {E : XK} {σ : L2.St} {H : Hp} {Q : VK} {t : TA} (h : t σ H fun vs H1 => ∀ x dx, H1 x = none → H1 dx = none → dx ≠ x → sp (.ref x :: vs) (L2.upd (L2.upd H1 dx (.own x)) x (.ins C dx [])) (fun v H2 => v = .non ∧ Q (.ref x) H2) E) : tMk C sp E t σ H Q := h
/-- facts of the class Lot -/
structure TxL (K : PySem.W.Frag) (C : Addr) : Prop where
  oc : OCls K C
  nM : NoAttr K C "_many"
theorem r_many {σ : L2.St} {H : Hp} {Q : VK} {K : PySem.W.Frag} {C a d dx : Addr} {i : Nat} (L : TxL K C) (h : H a = some (.ins C dx [("_many", .ref d)])) (q : Q (.ref d) H) (e : σ[i]? = some (some (.ref a)) := by rfl) : tFld K (tVar i) "_many" σ H Q :=
  ⟨_, e, a, C, dx, _, _, rfl, h, L.oc.cl, L.nM, List.lookup_cons_self, q⟩
theorem look1 {m : Str} {v : V} (h : (m == ("_many" : Str)) = false := by decide +kernel) : List.lookup m [(("_many" : Str), v)] = none := by
  rw [List.lookup_cons, h]
  rfl
theorem r_isD {H : Hp} {d : Addr} {m : AL} {R : Prop} (h : H d = some (.dK (enc m))) (q : R) : IsD H d ∧ R := ⟨Or.inl ⟨enc m, Or.inl h⟩, q⟩
theorem r_setMany {σ : L2.St} {H : Hp} {D : Ends} {K : PySem.W.Frag} {C a dx : Addr} {tv : TE} {i : Nat} (L : TxL K C) (e : σ[i]? = some (some (.ref a))) (h : tv σ H fun y H1 => ∃ fs, H1 a = some (.ins C dx fs) ∧ fs.length < 1000 ∧ D.nx σ (L2.upd H1 a (.ins C dx (putF "_many" y fs)))) (mono : ∀ f g : VK, (∀ x H, f x H → g x H) → tv σ H f → tv σ H g) : sFld K (tVar i) tv "_many" D σ H :=
  mono _ _ (fun _ _ ⟨fs, h1, h2, h3⟩ => ⟨_, e, a, C, dx, fs, rfl, h1, L.oc.cl, L.nM, h2, h3⟩) h
theorem r_setD {P : Program} {w : World} {H : Hp} {Q : VK} {d : Addr} {m : AL} (h : H d = some (.dK (enc m))) (hn : m.length ≤ 30) (q : ∀ a, H a = none → Q (.ref a) (L2.upd H a (SetSO P w a (keys m)))) : rSetD P w [.ref d] H Q := ⟨d, enc m, keys m, rfl, h, enc_keys m, by rw [enc_len]; exact hn, q⟩
theorem r_sortedSO {P : Program} {w : World} {H : Hp} {Q : VK} {a : Addr} {L : List Str} (h : H a = some (SetSO P w a L)) (hn : L.length < 64) (q : ∀ (ys : List Str) (p : Addr), ys.Perm L → PyProof.Rows.sortedS ys = true → H p = none → Q (.ref p) (L2.upd H p (.lst (ys.map V.str)))) : rSortedSet' P w [.ref a] H Q := ⟨a, L, rfl, h, hn, q⟩
end My

namespace My
open PySem L2
theorem r_ixO {C : Addr} {sp : Sp} {E : XK} {ta tb : TE} {σ : L2.St} {H : Hp} {Q : VK} (h : ta σ H fun x H1 => tb σ H1 fun y H2 => ∃ a dx fs, x = .ref a ∧ H2 a = some (.ins C dx fs) ∧ sp [x, y] H2 Q E) : tIxO C sp E ta tb σ H Q := h
end My

namespace My
open PySem L2
/-- a def with defaults, called with all its arguments -/
theorem binds_full {K : PySem.W.Frag} {x qual : Str} {params : Arguments} {body : List Stmt} {scope : PySem.Scope} {dvs : List V} {kws : List (Str × V)} {f : Addr} {fd : FuncData} {ps : List Str} (F : FunD K x qual params body scope dvs kws f fd) (hd : dvs ≠ [])
    (h : ∀ (T : Addr) (kV doc pm : Value) (an : Option Addr) (cdv ct : Value) (us : List Value), us.length = ps.length → ∃ k, bindArgs (PySem.W.fnOf x qual params body scope (.ref T) kV doc pm an cdv ct) { pos := us } = seqItems? (.ref T) >>= k ∧ ∀ its : List Value, its.length = dvs.length → k (some its.toArray) = pure (ps.zip us)) : Binds K fd ps [] := by
  intro s us hk hl
  obtain ⟨oc, od, dV, kV, doc, pm, an, cdv, ct, osl, rfl, h1, h2, h3, h4⟩ := F.ex
  rcases h3 with ⟨e, _⟩ | ⟨_, T, o, its, n, rfl, e1, e2, hv⟩
  · exact absurd e hd
  rw [List.append_nil] at hl ⊢
  obtain ⟨k, hb, hk2⟩ := h T kV doc pm an cdv ct us hl
  refine BindsTo.of_looks fun M => ?_
  rw [hb]
  refine looks_items hk e1 e2 ?_
  rw [hk2 its (Paired.len hv).symm]
  exact PySem.W.Looks.now
end My

namespace My
open PySem L2
/-- X(): an own class of errors without __init__, made of nothing -/
theorem pmk_own0 {X : Cx} {C : Addr} {bmB : List Value} {B newId initId : String} {x : Str} {p pos : Pos} (F : ExcBaseFacts B newId initId bmB) (q : PySem.W.excIn X.K C bmB newId = true) (gC : X.mg x = some (.ref C)) (kC : PySem.W.keepIn X.K (.ref C) = true) (r : Raises X (.ref C)) (hg : Gl X x) (hdb : (x == ("__debug__" : Str)) = false := by decide) :
    PMk X (.Call (.Name x p) [] [] pos) (fun _ H Q => Q (.ref C) none H) := by
  intro pins s σ H Q I h
  refine wpAny_Call_Name_kw (ld_glob I hg gC ?_ hdb)
  refine PySem.W.callWith_K0 I.kIn kC ?_
  obtain ⟨bm, N, nm, qn, bs, hdct, sn, sub, ab, col, dd, k0, k1, k2, k3, k5, mN, hC, hN, hni, T⟩ := exc_obj I.kIn q
  exact wpAny_call_exc_subT F T hC hN hni (fun h' e hm => mk_of I hm r h (HOk.gone I.hok hm.new)) (Nat.zero_le _)
theorem passE0 {X : Cx} : PassS CX0 X (fun _ => E0) := fun _ _ _ _ _ _ _ h => h.elim
theorem r_opS {r : L2.St → R2} {ta tb : TE} {σ : L2.St} {H : Hp} {Q : VK} (h : ta σ H fun x H1 => tb σ H1 fun y H2 => r σ x y H2 Q) : tOpS r ta tb σ H Q := h
theorem r_catA {K : PySem.W.Frag} {H : Hp} {Q : VK} {a b : Addr} {xs ys : List V} (h1 : SqT K H a xs) (h2 : SqT K H b ys) (hl : xs.length + ys.length ≤ sizeLine) (q : ∀ c H', SqT K H' c (xs ++ ys) → Same H H' → Q (.ref c) H') : rCatA K (.ref a) (.ref b) H Q := by
  refine ⟨a, b, xs, ys, rfl, rfl, h1, h2, hl, fun e => ?_, fun _ e => ?_, fun _ _ p hp => ?_⟩
  · refine q b H ?_ fun _ _ z => z
    rw [e]
    exact h2
  · refine q a H ?_ fun _ _ z => z
    rw [e, List.append_nil]
    exact h1
  · exact q p _ (SqT.of upd_same) fun c o z => upd_at z (ne_of_none z hp)
end My

namespace My
open PySem L2
theorem hu64 {k : Nat} {A : Around} (h : Room k A) : A.units + 64 < cLine := by
  have := h.un
  omega
def pd1 (p : Str × Int) : PyData := .tuple [.str p.1, .int p.2]
def pd (qs : AL) : PyData := .tuple (qs.map pd1)
theorem dp_all {K : PySem.W.Frag} {H : Hp} : ∀ {xs : List V} {qs : AL}, Paired (PrA H) xs qs → DpAll K H xs (qs.map pd1)
  | _, _, .nil => .nil
  | _, _, .cons h r => by
    obtain ⟨t, e, ht⟩ := h
    subst e
    exact .cons (.tup (SqT.of ht) (.cons (.str _) (.cons (.int _) .nil))) (dp_all r)
theorem dp_pairs {K : PySem.W.Frag} {H : Hp} {a : Addr} {xs : List V} {qs : AL} (h : H a = some (.tup xs)) (hp : Paired (PrA H) xs qs) : Dp K H (.ref a) (pd qs) := .tup (SqT.of h) (dp_all hp)
theorem eqv_nil (qs : AL) : (pd qs).eqv (.tuple []) = qs.isEmpty := by
  cases qs with
  | nil => rfl
  | cons p r => rfl
theorem strOk_kind {z : Str} (h : KindS z) : PyData.strOk z = true := by
  show z.cps.all (fun c => decide (c < 0x110000)) = true
  rw [← Array.all_toList, List.all_eq_true]
  intro c hc
  have := h.2.2 c hc
  exact decide_eq_true (by omega)
theorem can_pd {qs : AL} (h : ∀ p ∈ qs, KindS p.1) : (pd qs).canLay0 = true := by
  unfold pd
  unfold PyData.canLay0
  induction qs with
  | nil => rfl
  | cons p r ih =>
    rw [List.map_cons]
    show (PyData.canLay0 (pd1 p) && PyData.canLayAll0 (List.map pd1 r)) = true
    rw [ih fun q hq => h q (List.mem_cons_of_mem _ hq), Bool.and_true]
    show (PyData.strOk p.1 && (true && true)) = true
    rw [strOk_kind (h p List.mem_cons_self)]
    rfl
theorem depth_pd (qs : AL) : PyData.depthAll (qs.map pd1) ≤ 1 := by
  induction qs with
  | nil => exact Nat.zero_le _
  | cons p r ih =>
    rw [List.map_cons]
    show max (PyData.depth (pd1 p)) (PyData.depthAll (List.map pd1 r)) ≤ 1
    exact Nat.max_le.mpr ⟨by show max 0 (max 0 0) + 1 ≤ 1; decide, ih⟩
theorem shaped_pd {qs : AL} (h : ∀ p ∈ qs, KindS p.1) : SeqAt.shaped (pd qs) = true := by
  unfold SeqAt.shaped
  rw [can_pd h, Bool.true_and]
  refine decide_eq_true ?_
  show PyData.depthAll (qs.map pd1) + 1 ≤ 64
  have := depth_pd qs
  omega
end My

--T /opt/kit/linked/4bf7bf6c73b87d88f1ba1c555b42b7c50cec9cc5/law_k05_how_often_and_what_is_left/T.py
namespace My
open PySem L2
local macro_rules | `(tactic| walk_at "bx1") => `(tactic| first | with_reducible assumption | ((with_reducible refine' Bx.upd ?h1 ?h2); (case h1 => walk_at "bx1"); (case h2 => walk_at "ne")) | ((with_reducible refine' Bx.same ?h1 (by with_reducible assumption)); (case h1 => walk_at "bx1")))
local macro_rules | `(tactic| walk_at "bx") => `(tactic| (refine' Bx.mono ?h1 ?h2; (case h1 => walk_at "bx1"); (case h2 => omega)))
local macro_rules | `(tactic| walk_at "ne") => `(tactic| first | with_reducible assumption | exact Ne.symm (by with_reducible assumption) | ((with_reducible refine' ne_of_none ?h1 (by with_reducible assumption)); (case h1 => walk_at "hp")) | ((with_reducible refine' Ne.symm (ne_of_none ?h1 (by with_reducible assumption))); (case h1 => walk_at "hp")) | ((with_reducible refine' Bx.ne ?h1 (by with_reducible assumption)); (case h1 => walk_at "bx1")) | ((with_reducible refine' Ne.symm (Bx.ne ?h1 (by with_reducible assumption))); (case h1 => walk_at "bx1")))
local macro_rules | `(tactic| walk_at "hp") => `(tactic| first | with_reducible assumption | ((with_reducible refine' (upd_same.trans ?h1)); (case h1 => rfl)) | ((with_reducible refine' My.upd_at ?h1 ?h2); (case h1 => walk_at "hp"); (case h2 => walk_at "ne")) | ((with_reducible refine' My.Kp.at (by with_reducible assumption) ?h1 ?h2); (case h1 => walk_at "hp"); (case h2 => walk_at "ne")) | ((with_reducible refine' My.Same.at (by with_reducible assumption) ?h1); (case h1 => walk_at "hp")))
local macro_rules | `(tactic| walk_at "sq") => `(tactic| first | with_reducible assumption | exact SqL.of (by walk_at "hp") | exact SqT.of (by walk_at "hp") | ((with_reducible refine' My.SqT.upd ?h1 (by with_reducible assumption)); (case h1 => walk_at "sq")) | ((with_reducible refine' My.SqL.upd ?h1 (by with_reducible assumption)); (case h1 => walk_at "sq")) | ((with_reducible refine' Same.seq (by with_reducible assumption) ?h1); (case h1 => walk_at "sq")) | ((with_reducible refine' My.SqT.same ?h1 (by with_reducible assumption)); (case h1 => walk_at "sq")) | ((with_reducible refine' My.SqT.kp ?h1 (by with_reducible assumption) ?h2); (case h1 => walk_at "sq"); (case h2 => walk_at "bx1")) | ((with_reducible refine' My.SqL.kp ?h1 (by with_reducible assumption) ?h2); (case h1 => walk_at "sq"); (case h2 => walk_at "ne")))
local macro_rules | `(tactic| walk_at "sd") => `(tactic| first | assumption | omega | decide | (refine ⟨?_, ?_⟩ <;> (first | omega | decide)) | (refine Or.inl ⟨?_, ?_⟩ <;> (first | omega | decide)) | (refine Or.inr ⟨?_, ?_⟩ <;> (first | omega | decide)) | (refine ⟨?_, ?_, ?_⟩ <;> (first | omega | decide)))
local macro_rules | `(tactic| walk_at "ps") => `(tactic| first
  | with_reducible refine r_seq ?_ | with_reducible refine r_asg ?_ | with_reducible refine r_op ?_ | with_reducible refine r_cons ?_ | with_reducible refine r_nil ?_ | with_reducible refine r_c ?_
  | with_reducible refine' r_var rfl ?_ | with_reducible refine r_gname ?_ | with_reducible refine r_cb ?_ | with_reducible refine r_I0 ?_ | with_reducible refine r_ret ?_ | with_reducible refine r_ifS ?_ | with_reducible refine r_test ?_ | with_reducible refine r_B ?_
  | with_reducible refine r_next ?_ | with_reducible refine r_drop ?_ | with_reducible refine r_if ?_ | with_reducible refine r_un ?_ | with_reducible refine r_U ?_ | with_reducible refine r_gsub ?_ | with_reducible refine r_tup ?_ | with_reducible refine r_lst ?_ | with_reducible refine r_bm ?_
  | with_reducible refine r_cal ?_ | with_reducible refine r_not ?_ | with_reducible refine r_and ?_ | with_reducible refine r_or ?_ | with_reducible refine r_andV ?_ | with_reducible refine r_orV ?_ | with_reducible refine r_notV ?_
  | with_reducible refine r_abs ?_ | with_reducible refine r_intI ?_ | with_reducible refine r_intB ?_ | with_reducible refine r_m1 ?_ | with_reducible refine r_slice ?_ | with_reducible refine r_part ?_ | with_reducible refine r_nopart ?_
  | with_reducible refine r_gcons ?_ | with_reducible refine r_gnil ?_
  | with_reducible refine r_par ?_ | with_reducible refine r_par3 ?_ | with_reducible refine r_ex2 ?_ | with_reducible refine r_ex3 ?_
  | with_reducible refine r_isN ?_ | with_reducible refine r_notN ?_
  | with_reducible refine r_iZipA ?_
  | with_reducible refine r_dget ?_ | with_reducible refine r_dget2 ?_ | with_reducible refine r_iKeys ?_ | with_reducible refine r_dput ?_
  | with_reducible refine r_for ?_ | with_reducible refine r_lc ?_ | with_reducible refine r_iList ?_ | with_reducible refine r_iTup ?_ | with_reducible refine r_iRng1 ?_ | with_reducible refine r_iEnum ?_ | with_reducible refine r_orT ?_ | with_reducible refine r_yes ?_ | with_reducible refine r_ixSl ?_)
local macro_rules | `(tactic| walk_at "st") => `(tactic| first
  | walk_at "ps"
  | ((with_reducible refine' r_ixL ?h1 ?h2 ?_); (case h1 => walk_at "sq"); (case h2 => rfl))
  | ((with_reducible refine' r_setL ?h1 ?h2 ?_); (case h1 => walk_at "hp"); (case h2 => rfl))
  | ((with_reducible refine' r_I ?h1 ?_); (case h1 => walk_at "sd"))
  | ((with_reducible refine' r_eq ?h1 ?_); (case h1 => rfl)) | ((with_reducible refine' r_ne ?h1 ?_); (case h1 => rfl))
  | ((with_reducible refine' r_lenL ?h1 ?_); (case h1 => walk_at "sq")) | ((with_reducible refine' r_lenT ?h1 ?_); (case h1 => walk_at "sq")) | ((with_reducible refine' r_lenD ?h1 ?_); (case h1 => walk_at "hp"))
  | ((with_reducible refine' r_slL ?h1 ?_); (case h1 => walk_at "sq"); intro _ _)
  | ((with_reducible refine' r_append ?h1 ?h2 ?_); (case h1 => walk_at "hp"); (case h2 => exact szl (by first | omega | (simp; omega))))
  | ((with_reducible refine' r_gtup ?h1 ?h2 ?_); (case h1 => walk_at "sq"); (case h2 => rfl))
  | ((with_reducible refine' r_cat ?h1 ?h2 ?h3 ?_); (case h1 => walk_at "hp"); (case h2 => walk_at "hp"); (case h3 => exact sz (by first | omega | (simp; omega))); intro _ _)
  | ((with_reducible refine' r_wLst ?h1 ?_); (case h1 => walk_at "sq")) | ((with_reducible refine' r_wTup ?h1 ?_); (case h1 => walk_at "sq"))
  | ((with_reducible refine' r_wRng ?h1 ?_); (case h1 => walk_at "sd"))
  | ((with_reducible refine' r_truL ?h1 ?_); (case h1 => walk_at "sq"))
  | ((with_reducible refine' r_list (Or.inl ?h1) ?_); (case h1 => walk_at "sq"); intro _ _) | ((with_reducible refine' r_list (Or.inr ?h1) ?_); (case h1 => walk_at "sq"); intro _ _)
  | ((with_reducible refine' r_tupL ?h1 ?_); (case h1 => walk_at "sq"); intro _ _) | ((with_reducible refine' r_tupT ?h1 ?_); (case h1 => walk_at "sq"))
  | ((with_reducible refine' r_disp ?h1 ?_); (case h1 => exact Nat.le_of_ble_eq_true rfl); intro _ _)
  | ((with_reducible refine r_dnewK ?_); intro _ _)
  | ((with_reducible refine' r_tyL ?h1 ?_); (case h1 => walk_at "sq")) | with_reducible refine r_strV ?_
  | with_reducible refine r_exb ?_ | with_reducible refine r_exi ?_ | with_reducible refine r_exr ?_ | with_reducible refine r_exs ?_ | with_reducible refine r_exli ?_)
local macro_rules | `(tactic| walk_at "go") => `(tactic| repeat walk_at "st")
local macro_rules | `(tactic| walk_at "in") => `(tactic| dsimp only [noxK, cxK, L2.start, List.map_cons, List.map_nil, List.length_cons, List.length_nil, Nat.reduceAdd, Nat.reduceSub, List.replicate, List.cons_append, List.nil_append])

def top (i : Nat) : Stmt := PySem.Challenge.pw_onceopened_k05_how_often_and_what_is_lef.main.body.getD i (.Pass ⟨0, 0, 0, 0⟩)
structure Txt (K : PySem.W.Frag) (mg : Str → Option Value) : Prop where
  int : mg "int" = none
  len : mg "len" = none
  abs : mg "abs" = none
  list : mg "list" = none
  tuple : mg "tuple" = none
  range : mg "range" = none
  enumerate : mg "enumerate" = none
  isinstance : mg "isinstance" = none
  all : mg "all" = none
  zip : mg "zip" = none
  dict : mg "dict" = none
  bool : mg "bool" = none
  str : mg "str" = none
  set : mg "set" = none
  sorted : mg "sorted" = none
  min : mg "min" = none
section
variable {P : Program} {w : World} {K : PySem.W.Frag} {mg : Str → Option Value} {base : Heap}
abbrev sTake : Stmt := top 17
theorem scTake : FnScope ["_law_box_here", "_law_below", "_law_once", "_law_far", "_law_twice", "_law_drawn"] ["_law_box_here", "_law_below"] (defScope sTake) := ⟨rfl, rfl, rfl, by decide +kernel, rfl, by decide +kernel, by decide +kernel⟩
def spTake : Sp := fun vs H Q _ => ∃ (a : Addr) (b : Nat) (n : Int), vs = [.ref a, .int n] ∧ Bx H a (b + 1) ∧ 0 < n ∧ n < 2 ^ 100 ∧
  ∀ (d : Int) H', 0 ≤ d → d < n → Bx H' a b → Kp a H H' → Q (.int d) H'
theorem ok_take {f : Addr} {fd : FuncData} (F : Fun K "_law_take" "_law_take" sTake f fd) (T : Txt K mg) : FnOk P w K mg base CX0 1 f fd ["_law_box_here", "_law_below"] spTake := by
  refine F.ok scTake (fun vs H Q E h => ?_) (fun cdv A outer s H vs Q E hr h => ?_)
  · obtain ⟨a, b, n, rfl, _⟩ := h
    rfl
  · obtain ⟨a, b, n, rfl, ⟨x, y, z, hx, x0, y0, y1, z0, z1⟩, n0, n1, k⟩ := h
    refine ⟨_, (pss_cons (ps_if (pt_cmpR op_gt (pe_ix ix_list (pv 0) pe_int (fun _ _ => rfl)) pe_int (nomark _))
  (pss_cons (ps_set (i := 5) scTake.nd rfl (Or.inl rfl) (pe_op op_mod (pe_callTy c_int (by rfl) T.int (by decide +kernel) (pa_cons (pe_ix ix_list (pv 0) pe_int (fun _ _ => rfl)) pa_nil)) (pv 1)))
  (pss_cons (ps_asg (pe_op op_fdivW (pe_ix ix_list (pv 0) pe_int (fun _ _ => rfl)) (pv 1)) (pg_sub (pv 0) pe_int set_list))
  (pss_one (ps_ret (pv 5)))))
  pss_nil)
  (pss_cons (ps_asg (pe_op op_add (pe_ix ix_list (pv 0) pe_int (fun _ _ => rfl)) pe_int) (pg_sub (pv 0) pe_int set_list))
  (pss_cons (ps_set (i := 2) scTake.nd rfl (Or.inl rfl) (pe_op op_mod (pe_callTy c_int (by rfl) T.int (by decide +kernel) (pa_cons (pe_op op_mul (pe_op op_add (pe_ix ix_list (pv 0) pe_int (fun _ _ => rfl)) (pe_op op_mul pe_int (pe_ix ix_list (pv 0) pe_int (fun _ _ => rfl)))) (pe_op op_add pe_int (pe_ix ix_list (pv 0) pe_int (fun _ _ => rfl)))) pa_nil)) pe_int))
  (pss_cons (ps_set (i := 3) scTake.nd rfl (Or.inl rfl) (pe_op op_add (pe_op op_mod (pe_callTy c_int (by rfl) T.int (by decide +kernel) (pa_cons (pv 2) pa_nil)) pe_int) pe_int))
  (pss_cons (ps_set (i := 4) scTake.nd rfl (Or.inl rfl) (pe_op op_mod (pe_callTy c_int (by rfl) T.int (by decide +kernel) (pa_cons (pe_op op_mul (pe_op op_add (pe_op op_add (pv 2) (pe_ix ix_list (pv 0) pe_int (fun _ _ => rfl))) (pe_op op_fdiv (pe_ix ix_list (pv 0) pe_int (fun _ _ => rfl)) pe_int)) (pv 3)) pa_nil)) pe_int))
  (pss_one (ps_ret (pe_op op_mod (pe_callTy c_int (by rfl) T.int (by decide +kernel) (pa_cons (pe_op op_fdiv (pe_op op_mod (pe_callTy c_int (by rfl) T.int (by decide +kernel) (pa_cons (pe_op op_add (pe_op op_mul (pv 4) pe_int) (pv 2)) pa_nil)) pe_int) pe_int) pa_nil)) (pv 1))))))))), ?_⟩
    walk_at "in"
    walk_at "go"
    refine ite_d (fun c => ?_) (fun c => ?_)
    · walk_at "go"
      refine r_I (wide_div n0 (b := 100) (by omega) (by decide) (by decide)) ?_
      walk_at "go"
      exact k _ _ (Int.emod_nonneg _ (by omega)) (Int.emod_lt_of_pos _ n0) ⟨_, y, z, upd_same, Int.ediv_nonneg x0 (by omega), y0, y1, z0, by omega⟩ fun c o e h => by walk_at "hp"
    walk_at "go"
    exact k _ _ (Int.emod_nonneg _ (by omega)) (Int.emod_lt_of_pos _ n0) ⟨x, y, z + 1, upd_same, x0, y0, y1, by omega, by omega⟩ fun c o e h => by walk_at "hp"
abbrev sBox : Stmt := top 16
theorem scBox : FnScope ["_law_script", "_law_k", "_law_cell"] ["_law_script", "_law_k"] (defScope sBox) := ⟨rfl, rfl, rfl, by decide +kernel, rfl, by decide +kernel, by decide +kernel⟩
def spBox (K : PySem.W.Frag) : Sp := fun vs H Q _ => ∃ (a : Addr) (ns : List Int) (k : Nat), vs = [.ref a, .int k] ∧ SqL K H a (ns.map V.int) ∧ k < ns.length ∧ ns.length ≤ 63 ∧
  ∀ p H', H p = none → Bx H' p 900000000 → Same H H' → Q (.ref p) H'
theorem ok_box {f : Addr} {fd : FuncData} (F : Fun K "_law_box" "_law_box" sBox f fd) (T : Txt K mg) : FnOk P w K mg base CX0 1 f fd ["_law_script", "_law_k"] (spBox K) := by
  refine F.ok scBox (fun vs H Q E h => ?_) (fun cdv A outer s H vs Q E hr h => ?_)
  · obtain ⟨a, ns, k, rfl, _⟩ := h
    rfl
  · obtain ⟨a, ns, k, rfl, hx, h1, h2, q⟩ := h
    refine ⟨_, (pss_cons (ps_set (i := 2) scBox.nd rfl (Or.inl rfl) (pe_ifExp (pt_cmpR op_lt (pv 1) (pe_callB c_lenL (by rfl) T.len (by decide +kernel) (pa_cons (pv 0) pa_nil)) (nomark _)) (pe_ix ix_list (pv 0) (pv 1) (fun _ _ => rfl)) pe_int))
  (pss_one (ps_ret (pe_lst (pa_cons (pe_op op_mul (pe_callB c_abs (by rfl) T.abs (by decide +kernel) (pa_cons (pv 2) pa_nil)) (pe_callTy c_int (by rfl) T.int (by decide +kernel) (pa_cons (pe_cmpR op_ge (pe_callB c_abs (by rfl) T.abs (by decide +kernel) (pa_cons (pv 2) pa_nil)) (pe_op op_pow pe_int pe_int) (nomark _)) pa_nil))) (pa_cons (pe_op op_add (pe_op op_add (pe_op op_mod (pe_callTy c_int (by rfl) T.int (by decide +kernel) (pa_cons (pv 2) pa_nil)) pe_int) (pe_op op_mul pe_int (pv 1))) pe_int) (pa_cons pe_int pa_nil))))))), ?_⟩
    walk_at "in"
    walk_at "go"
    refine ite_dT (by rw [List.length_map]; omega) ?_
    walk_at "go"
    refine r_ixL (by walk_at "sq") (atI_nat (map_get h1)) ?_
    generalize ns[k] = c
    walk_at "go"
    rename_i p hp
    refine q p _ hp ⟨_, _, 0, upd_same, ?_, ?_, ?_, by decide, by decide⟩ fun c o e => by walk_at "hp"
    · refine Int.mul_nonneg ?_ ?_
      · split <;> omega
      · exact ite01 _
    · have := Int.emod_nonneg c (show (2305843009213693951 : Int) ≠ 0 by decide)
      omega
    · have := Int.emod_lt_of_pos c (show (0 : Int) < 2305843009213693951 by decide)
      omega
abbrev sCells : Stmt := top 18
theorem scCells : FnScope ["_law_script", "_law_most_so", "_law_cells_here", "_law_k", "_law_cell", "_law_at_so"] ["_law_script", "_law_most_so"] (defScope sCells) := ⟨rfl, rfl, rfl, by decide +kernel, rfl, by decide +kernel, by decide +kernel⟩
def spCells (K : PySem.W.Frag) : Sp := fun vs H Q _ => ∃ (a : Addr) (ns : List Int), vs = [.ref a, .int 3] ∧ SqL K H a (ns.map V.int) ∧ ns.length ≤ 63 ∧
  ∀ (p : Addr) (ms : List Int) (H' : Hp), H p = none → 1 ≤ ms.length → ms.length ≤ 3 → H' p = some (.lst (ms.map V.int)) → Same H H' → Q (.ref p) H'
theorem ok_cells {f : Addr} {fd : FuncData} (F : Fun K "_law_cells" "_law_cells" sCells f fd) (T : Txt K mg) : FnOk P w K mg base CX0 1 f fd ["_law_script", "_law_most_so"] (spCells K) := by
  refine F.ok scCells (fun vs H Q E h => ?_) (fun cdv A outer s H vs Q E hr h => ?_)
  · obtain ⟨a, ns, rfl, _⟩ := h
    rfl
  · obtain ⟨a, ns, rfl, hx, h1, q⟩ := h
    refine ⟨_, (Evl.pss_cut (ps_set (i := 2) scCells.nd rfl (Or.inl rfl) (pe_orT (pe_callTy c_list (by rfl) T.list (by decide +kernel) (pa_cons (pe_slice sl_list (pv 0) po_none (po_some (pv 1))) pa_nil)) (pe_one (pe_lst (pa_cons pe_int pa_nil)))))
  (pss_cons (ps_for PassesOwn.never rfl (pi_enum (by rfl) T.enumerate (pa_cons (pe_slice sl_list (pv 0) (po_some (pv 1)) (po_some pe_int)) pa_nil)) (pg_tup rfl (pgs_cons (pg_name (i := 3) scCells.nd rfl (Or.inl rfl)) (pgs_cons (pg_name (i := 4) scCells.nd rfl (Or.inl rfl)) pgs_nil)))
  (pss_cons (ps_set (i := 5) scCells.nd rfl (Or.inl rfl) (pe_op op_mod (pe_callTy c_int (by rfl) T.int (by decide +kernel) (pa_cons (pv 3) pa_nil)) (pv 1)))
  (pss_one (ps_asg (pe_op op_add (pe_ix ix_list (pv 2) (pv 5) (fun _ _ => rfl)) (pe_op op_mul (pv 4) (pe_op op_add (pv 3) pe_int))) (pg_sub (pv 2) (pv 5) set_list)))))
  (pss_one (ps_ret (pv 2))))), ?_⟩
    walk_at "in"
    refine ⟨fun σ' H' => ∃ (l : Addr) (ms : List Int), σ' = [some (.ref a), some (.int 3), some (.ref l), none, none, none] ∧ H l = none ∧ 1 ≤ ms.length ∧ ms.length ≤ 3 ∧ (3 < ns.length → ms.length = 3) ∧ H' l = some (.lst (ms.map V.int)) ∧ Same H H', ?_, ?_⟩
    · walk_at "go"
      rename_i p hp l hl
      have e3 : cutV (ns.map V.int) none (some 3) = (ns.take 3).map V.int := by rw [List.map_take]; exact cutV_to _ 3
      rw [e3] at hl ⊢
      have s1 : Same H (upd (upd H p (.lst ((ns.take 3).map V.int))) l (.lst ((ns.take 3).map V.int))) := fun c o e => by walk_at "hp"
      cases e : ns with
      | nil =>
        rw [e] at s1
        refine iteF ?_
        walk_at "go"
        rename_i q2 hq2
        exact ⟨q2, [0], rfl, s1.free hq2, by decide, by decide, fun z => absurd z (by decide), upd_same, fun c o e => by walk_at "hp"⟩
      | cons n r =>
        rw [e] at s1 hl
        refine iteT ?_
        walk_at "go"
        have hl0 : H l = none := Same.free (fun c o e => by walk_at "hp") hl
        exact ⟨l, (n :: r).take 3, rfl, hl0, by rw [List.length_take, List.length_cons]; omega, by rw [List.length_take]; omega, fun z => by rw [List.length_take]; omega, upd_same, s1⟩
    rintro σ1 H1 ⟨l, ms, rfl, hl, m1, m2, m3, hms, s1⟩
    walk_at "go"
    refine ⟨_, _, rfl, by walk_at "sq", ?_⟩
    rename_i p hp
    have e3 : cutV (ns.map V.int) (some 3) (some 63) = ((ns.drop 3).take 60).map V.int := by rw [List.map_take, List.map_drop]; exact cutV_mid _ 3 63
    rw [e3]
    have npl : l ≠ p := ne_of_none hms hp
    refine for_it (walk_enum (xs := ((ns.drop 3).take 60).map V.int)) (fun i σ H' => ∃ (ms : List Int) (x1 x2 x3 : Option V), σ = [some (.ref a), some (.int 3), some (.ref l), x1, x2, x3] ∧ 1 ≤ ms.length ∧ ms.length ≤ 3 ∧ (3 < ns.length → ms.length = 3) ∧ H' l = some (.lst (ms.map V.int)) ∧ Same H H' ∧ H' p = some (.lst (((ns.drop 3).take 60).map V.int))) ?_ ?_ ?_ ?_
    · exact ⟨ms, none, none, none, rfl, m1, m2, m3, by walk_at "hp", fun c o e => by walk_at "hp", by walk_at "hp"⟩
    · rintro i σ H2 _ ⟨_, _, _, _, _, _, _, _, _, _, h⟩
      exact SqL.of h
    · rintro i x σ H2 H3 hi ⟨ms, x1, x2, x3, rfl, m1, m2, m3, hm, s2, hp2⟩ ⟨t, u, v, rfl, ht, rfl, hu, hv⟩
      obtain rfl : V.int (i : Nat) = u := Option.some.inj hu
      rw [List.length_map, List.length_take, List.length_drop] at hi
      have hm3 : ms.length = 3 := m3 (by omega)
      obtain ⟨c, rfl, _⟩ := map_some hv
      walk_at "go"
      obtain ⟨j, hj, hj3⟩ : ∃ j : Nat, ((i : Nat) : Int) % 3 = (j : Int) ∧ j < ms.length := ⟨i % 3, by omega, by omega⟩
      rw [hj]
      refine r_ixL (by walk_at "sq") (atI_nat (j := j) (map_get hj3)) ?_
      walk_at "go"
      refine r_setL (xs := ms.map V.int) (by walk_at "hp") (ixN_lt (by rw [List.length_map]; exact hj3)) ?_
      have npt : p ≠ t := ne_of_none hp2 ht
      have nlt : l ≠ t := ne_of_none hm ht
      refine ⟨ms.set j (ms[j] + c * ((i : Int) + 2)), _, _, _, rfl, by rw [List.length_set]; exact m1, by rw [List.length_set]; exact m2, fun _ => by rw [List.length_set]; exact hm3, by rw [List.map_set]; exact upd_same, fun c o e => ?_, by walk_at "hp"⟩
      have n1 : c ≠ l := ne_of_none e hl
      walk_at "hp"
    · rintro σ H2 ⟨ms, x1, x2, x3, rfl, m1, m2, m3, hm, s2, hp2⟩
      walk_at "go"
      exact q l ms H2 hl m1 m2 hm s2
abbrev sOf : Stmt := top 19
theorem scOf : FnScope ["_law_box_here", "_law_some"] ["_law_box_here", "_law_some"] (defScope sOf) := ⟨rfl, rfl, rfl, by decide +kernel, rfl, by decide +kernel, by decide +kernel⟩
def spOf : Sp := fun vs H Q _ => ∃ (a l : Addr) (b : Nat) (xs : List V), vs = [.ref a, .ref l] ∧ Bx H a (b + 1) ∧ H l = some (.lst xs) ∧ l ≠ a ∧ 0 < xs.length ∧ xs.length ≤ 1000 ∧
  ∀ (x : V) (i : Nat) (H' : Hp), xs[i]? = some x → Bx H' a b → Kp a H H' → Q x H'
theorem ok_of {f : Addr} {fd : FuncData} (F : Fun K "_law_of" "_law_of" sOf f fd) (T : Txt K mg) (Ct : Cal P w K mg base CX0 1 "_law_take" ["_law_box_here", "_law_below"] spTake) : FnOk P w K mg base CX0 2 f fd ["_law_box_here", "_law_some"] spOf := by
  refine F.ok scOf (fun vs H Q E h => ?_) (fun cdv A outer s H vs Q E hr h => ?_)
  · obtain ⟨a, l, b, xs, rfl, _⟩ := h
    rfl
  · obtain ⟨a, l, b, xs, rfl, hb, hl, nla, h0, h1, q⟩ := h
    refine ⟨_, (pss_one (ps_ret (pe_ix ix_list (pv 1) (pe_cal Ct hr pass0 (pa_cons (pv 0) (pa_cons (pe_callB c_lenL (by rfl) T.len (by decide +kernel) (pa_cons (pv 1) pa_nil)) pa_nil))) (fun _ _ => rfl)))), ?_⟩
    walk_at "in"
    walk_at "go"
    refine ⟨a, b, xs.length, rfl, by walk_at "bx", by omega, by omega, fun d H1 d0 d1 bx1 kp1 => ?_⟩
    obtain ⟨j, rfl⟩ : ∃ j : Nat, d = j := ⟨d.toNat, by omega⟩
    have hj : j < xs.length := by omega
    refine r_ixL (by walk_at "sq") (atI_nat (List.getElem?_eq_getElem hj)) ?_
    exact q _ j _ (List.getElem?_eq_getElem hj) bx1 kp1
abbrev sMixed : Stmt := top 22
theorem scMixed : FnScope ["_law_box_here", "_law_rows_so", "_law_turn", "_law_rest", "_law_done", "_law_at_so"] ["_law_box_here", "_law_rows_so"] (defScope sMixed) := ⟨rfl, rfl, rfl, by decide +kernel, rfl, by decide +kernel, by decide +kernel⟩
/-- a drawn order of a tuple's items -/
def spMixed (K : PySem.W.Frag) : Sp := fun vs H Q _ => ∃ (a l : Addr) (b : Nat) (xs : List V), vs = [.ref a, .ref l] ∧ Bx H a (b + xs.length) ∧ SqT K H l xs ∧ xs.length ≤ 1000 ∧
  ∀ (p : Addr) (ys : List V) (H' : Hp), H p = none → ys.Perm xs → H' p = some (.lst ys) → Bx H' a b → Kp a H H' → Q (.ref p) H'
theorem ok_mixed {f : Addr} {fd : FuncData} (F : Fun K "_law_mixed" "_law_mixed" sMixed f fd) (T : Txt K mg) (Ct : Cal P w K mg base CX0 1 "_law_take" ["_law_box_here", "_law_below"] spTake) : FnOk P w K mg base CX0 2 f fd ["_law_box_here", "_law_rows_so"] (spMixed K) := by
  refine F.ok scMixed (fun vs H Q E h => ?_) (fun cdv A outer s H vs Q E hr h => ?_)
  · obtain ⟨a, l, b, xs, rfl, _⟩ := h
    rfl
  · obtain ⟨a, l, b, xs, rfl, hb, hl, h1, q⟩ := h
    refine ⟨_, (pss_cons (ps_par (i := 3) (j := 4) rfl scMixed.nd rfl rfl (by decide) rfl rfl (pa_cons (pe_callTy c_list (by rfl) T.list (by decide +kernel) (pa_cons (pv 1) pa_nil)) (pa_cons (pe_lst pa_nil) pa_nil)) (by rfl))
  (pss_cons (ps_for PassesOwn.never rfl (pi_range1 rfl T.range (pa_cons (pe_callB c_lenT (by rfl) T.len (by decide +kernel) (pa_cons (pv 1) pa_nil)) pa_nil)) (pg_name (i := 2) scMixed.nd rfl (Or.inl rfl))
  (pss_cons (ps_set (i := 5) scMixed.nd rfl (Or.inl rfl) (pe_cal Ct hr pass0 (pa_cons (pv 0) (pa_cons (pe_callB c_lenL (by rfl) T.len (by decide +kernel) (pa_cons (pv 3) pa_nil)) pa_nil))))
  (pss_cons (ps_expr (pe_bm PySem.F.plainAttrs_list PySem.F.slot_list_append PySem.F.type_list_append mt_append (pv 4) (pa_cons (pe_ix ix_list (pv 3) (pv 5) (fun _ _ => rfl)) pa_nil)))
  (pss_one (ps_set (i := 3) scMixed.nd rfl (Or.inl rfl) (pe_op op_cat (pe_slice sl_list (pv 3) po_none (po_some (pv 5))) (pe_slice sl_list (pv 3) (po_some (pe_op op_add (pv 5) pe_int)) po_none)))))))
  (pss_one (ps_ret (pv 4))))), ?_⟩
    walk_at "in"
    walk_at "go"
    rename_i r0 hr0 p hp
    have npa : p ≠ a := by walk_at "ne"
    have nra : r0 ≠ a := by walk_at "ne"
    have npr : p ≠ r0 := by walk_at "ne"
    have hp0 : H p = none := by rw [upd_ne npr] at hp; exact hp
    refine for_it (walk_range (n := xs.length)) (fun i σ H' => ∃ (r : Addr) (rs ys : List V) (x2 x5 : Option V), σ = [some (.ref a), some (.ref l), x2, some (.ref r), some (.ref p), x5] ∧ (ys ++ rs).Perm xs ∧ ys.length = i ∧ H' r = some (.lst rs) ∧ H' p = some (.lst ys) ∧ r ≠ a ∧ p ≠ r ∧ Bx H' a (b + rs.length) ∧ Kp a H H') ?_ (fun _ _ _ _ _ => trivial) ?_ ?_
    · exact ⟨r0, xs, [], none, none, rfl, List.Perm.refl _, rfl, by walk_at "hp", by walk_at "hp", nra, npr, by walk_at "bx", fun c o e n => by walk_at "hp"⟩
    · rintro i x σ H2 _ hi ⟨r, rs, ys, x2, x5, rfl, pm, ly, hr2, hp2, nra2, npr2, bx2, kp2⟩ ⟨rfl, rfl⟩
      have hl2 : rs.length + i = xs.length := by have := pm.length_eq; rw [List.length_append] at this; omega
      walk_at "go"
      refine ⟨a, b + (rs.length - 1), rs.length, rfl, by rw [show b + (rs.length - 1) + 1 = b + rs.length by omega]; exact bx2, by omega, by omega, fun d H1 d0 d1 bx1 kp1 => ?_⟩
      obtain ⟨j, rfl⟩ : ∃ j : Nat, d = j := ⟨d.toNat, by omega⟩
      have hj : j < rs.length := by omega
      walk_at "go"
      refine r_ixL (by walk_at "sq") (atI_nat (List.getElem?_eq_getElem hj)) ?_
      walk_at "go"
      rename_i q1 hq1 q2 hq2
      have e1 : cutV rs none (some (j : Int)) = rs.take j := cutV_to rs j
      have e2 : cutV rs (some ((j : Int) + 1)) none = rs.drop (j + 1) := by rw [show ((j : Int) + 1) = ((j + 1 : Nat) : Int) by omega]; exact cutV_from rs (j + 1)
      rw [e1] at hq2 ⊢
      rw [e2]
      refine r_cat (by walk_at "hp") (by walk_at "hp") (sz (by rw [List.length_take, List.length_drop]; omega)) fun q3 hq3 => ?_
      have n1 : p ≠ q3 := by walk_at "ne"
      have n2 : q3 ≠ a := by walk_at "ne"
      refine ⟨q3, rs.take j ++ rs.drop (j + 1), ys ++ [rs[j]], _, _, rfl, (perm_out ys rs hj).trans pm, by rw [List.length_append, ly]; rfl, by walk_at "hp", by walk_at "hp", n2, n1, ?_, fun c o e n => ?_⟩
      · rw [show b + (rs.take j ++ rs.drop (j + 1)).length = b + (rs.length - 1) by rw [List.length_append, List.length_take, List.length_drop]; omega]
        walk_at "bx"
      · have n3 : c ≠ p := ne_of_none e hp0
        walk_at "hp"
    · rintro σ H2 ⟨r, rs, ys, x2, x5, rfl, pm, ly, hr2, hp2, nra2, npr2, bx2, kp2⟩
      have hl2 : rs = [] := List.eq_nil_of_length_eq_zero (by have := pm.length_eq; rw [List.length_append] at this; omega)
      subst hl2
      rw [List.append_nil] at pm
      walk_at "go"
      exact q p ys H2 hp0 pm hp2 bx2 kp2
end
end My

--T /opt/kit/linked/4bf7bf6c73b87d88f1ba1c555b42b7c50cec9cc5/law_k05_how_often_and_what_is_left/T.py
namespace My
open PySem L2
local macro_rules | `(tactic| walk_at "bx1") => `(tactic| first | with_reducible assumption | ((with_reducible refine' Bx.upd ?h1 ?h2); (case h1 => walk_at "bx1"); (case h2 => walk_at "ne")) | ((with_reducible refine' Bx.same ?h1 (by with_reducible assumption)); (case h1 => walk_at "bx1")))
local macro_rules | `(tactic| walk_at "bx") => `(tactic| (refine' Bx.mono ?h1 ?h2; (case h1 => walk_at "bx1"); (case h2 => omega)))
local macro_rules | `(tactic| walk_at "ne") => `(tactic| first | with_reducible assumption | exact Ne.symm (by with_reducible assumption) | ((with_reducible refine' ne_of_none ?h1 (by with_reducible assumption)); (case h1 => walk_at "hp")) | ((with_reducible refine' Ne.symm (ne_of_none ?h1 (by with_reducible assumption))); (case h1 => walk_at "hp")) | ((with_reducible refine' Bx.ne ?h1 (by with_reducible assumption)); (case h1 => walk_at "bx1")) | ((with_reducible refine' Ne.symm (Bx.ne ?h1 (by with_reducible assumption))); (case h1 => walk_at "bx1")))
local macro_rules | `(tactic| walk_at "hp") => `(tactic| first | with_reducible assumption | ((with_reducible refine' (upd_same.trans ?h1)); (case h1 => rfl)) | ((with_reducible refine' My.upd_at ?h1 ?h2); (case h1 => walk_at "hp"); (case h2 => walk_at "ne")) | ((with_reducible refine' My.Kp.at (by with_reducible assumption) ?h1 ?h2); (case h1 => walk_at "hp"); (case h2 => walk_at "ne")) | ((with_reducible refine' My.Same.at (by with_reducible assumption) ?h1); (case h1 => walk_at "hp")))
local macro_rules | `(tactic| walk_at "sq") => `(tactic| first | with_reducible assumption | exact SqL.of (by walk_at "hp") | exact SqT.of (by walk_at "hp") | ((with_reducible refine' My.SqT.upd ?h1 (by with_reducible assumption)); (case h1 => walk_at "sq")) | ((with_reducible refine' My.SqL.upd ?h1 (by with_reducible assumption)); (case h1 => walk_at "sq")) | ((with_reducible refine' Same.seq (by with_reducible assumption) ?h1); (case h1 => walk_at "sq")) | ((with_reducible refine' My.SqT.same ?h1 (by with_reducible assumption)); (case h1 => walk_at "sq")) | ((with_reducible refine' My.SqT.kp ?h1 (by with_reducible assumption) ?h2); (case h1 => walk_at "sq"); (case h2 => walk_at "bx1")) | ((with_reducible refine' My.SqL.kp ?h1 (by with_reducible assumption) ?h2); (case h1 => walk_at "sq"); (case h2 => walk_at "ne")))
local macro_rules | `(tactic| walk_at "sd") => `(tactic| first | assumption | omega | decide | (refine ⟨?_, ?_⟩ <;> (first | omega | decide)) | (refine Or.inl ⟨?_, ?_⟩ <;> (first | omega | decide)) | (refine Or.inr ⟨?_, ?_⟩ <;> (first | omega | decide)) | (refine ⟨?_, ?_, ?_⟩ <;> (first | omega | decide)))
local macro_rules | `(tactic| walk_at "ps") => `(tactic| first
  | with_reducible refine r_seq ?_ | with_reducible refine r_asg ?_ | with_reducible refine r_op ?_ | with_reducible refine r_cons ?_ | with_reducible refine r_nil ?_ | with_reducible refine r_c ?_
  | with_reducible refine' r_var rfl ?_ | with_reducible refine r_gname ?_ | with_reducible refine r_cb ?_ | with_reducible refine r_I0 ?_ | with_reducible refine r_ret ?_ | with_reducible refine r_ifS ?_ | with_reducible refine r_test ?_ | with_reducible refine r_B ?_
  | with_reducible refine r_next ?_ | with_reducible refine r_drop ?_ | with_reducible refine r_if ?_ | with_reducible refine r_un ?_ | with_reducible refine r_U ?_ | with_reducible refine r_gsub ?_ | with_reducible refine r_tup ?_ | with_reducible refine r_lst ?_ | with_reducible refine r_bm ?_
  | with_reducible refine r_cal ?_ | with_reducible refine r_not ?_ | with_reducible refine r_and ?_ | with_reducible refine r_or ?_ | with_reducible refine r_andV ?_ | with_reducible refine r_orV ?_ | with_reducible refine r_notV ?_
  | with_reducible refine r_abs ?_ | with_reducible refine r_intI ?_ | with_reducible refine r_intB ?_ | with_reducible refine r_m1 ?_ | with_reducible refine r_slice ?_ | with_reducible refine r_part ?_ | with_reducible refine r_nopart ?_
  | with_reducible refine r_gcons ?_ | with_reducible refine r_gnil ?_
  | with_reducible refine r_par ?_ | with_reducible refine r_par3 ?_ | with_reducible refine r_ex2 ?_ | with_reducible refine r_ex3 ?_
  | with_reducible refine r_isN ?_ | with_reducible refine r_notN ?_
  | with_reducible refine r_iZipA ?_
  | with_reducible refine r_dget ?_ | with_reducible refine r_dget2 ?_ | with_reducible refine r_iKeys ?_ | with_reducible refine r_dput ?_
  | with_reducible refine r_for ?_ | with_reducible refine r_lc ?_ | with_reducible refine r_iList ?_ | with_reducible refine r_iTup ?_ | with_reducible refine r_iRng1 ?_ | with_reducible refine r_iEnum ?_ | with_reducible refine r_orT ?_ | with_reducible refine r_yes ?_ | with_reducible refine r_ixSl ?_)
local macro_rules | `(tactic| walk_at "st") => `(tactic| first
  | walk_at "ps"
  | ((with_reducible refine' r_ixL ?h1 ?h2 ?_); (case h1 => walk_at "sq"); (case h2 => rfl))
  | ((with_reducible refine' r_setL ?h1 ?h2 ?_); (case h1 => walk_at "hp"); (case h2 => rfl))
  | ((with_reducible refine' r_I ?h1 ?_); (case h1 => walk_at "sd"))
  | ((with_reducible refine' r_eq ?h1 ?_); (case h1 => rfl)) | ((with_reducible refine' r_ne ?h1 ?_); (case h1 => rfl))
  | ((with_reducible refine' r_lenL ?h1 ?_); (case h1 => walk_at "sq")) | ((with_reducible refine' r_lenT ?h1 ?_); (case h1 => walk_at "sq")) | ((with_reducible refine' r_lenD ?h1 ?_); (case h1 => walk_at "hp"))
  | ((with_reducible refine' r_slL ?h1 ?_); (case h1 => walk_at "sq"); intro _ _)
  | ((with_reducible refine' r_append ?h1 ?h2 ?_); (case h1 => walk_at "hp"); (case h2 => exact szl (by first | omega | (simp; omega))))
  | ((with_reducible refine' r_gtup ?h1 ?h2 ?_); (case h1 => walk_at "sq"); (case h2 => rfl))
  | ((with_reducible refine' r_cat ?h1 ?h2 ?h3 ?_); (case h1 => walk_at "hp"); (case h2 => walk_at "hp"); (case h3 => exact sz (by first | omega | (simp; omega))); intro _ _)
  | ((with_reducible refine' r_wLst ?h1 ?_); (case h1 => walk_at "sq")) | ((with_reducible refine' r_wTup ?h1 ?_); (case h1 => walk_at "sq"))
  | ((with_reducible refine' r_wRng ?h1 ?_); (case h1 => walk_at "sd"))
  | ((with_reducible refine' r_truL ?h1 ?_); (case h1 => walk_at "sq"))
  | ((with_reducible refine' r_list (Or.inl ?h1) ?_); (case h1 => walk_at "sq"); intro _ _) | ((with_reducible refine' r_list (Or.inr ?h1) ?_); (case h1 => walk_at "sq"); intro _ _)
  | ((with_reducible refine' r_tupL ?h1 ?_); (case h1 => walk_at "sq"); intro _ _) | ((with_reducible refine' r_tupT ?h1 ?_); (case h1 => walk_at "sq"))
  | ((with_reducible refine' r_disp ?h1 ?_); (case h1 => exact Nat.le_of_ble_eq_true rfl); intro _ _)
  | ((with_reducible refine r_dnewK ?_); intro _ _)
  | ((with_reducible refine' r_tyL ?h1 ?_); (case h1 => walk_at "sq")) | with_reducible refine r_strV ?_
  | with_reducible refine r_exb ?_ | with_reducible refine r_exi ?_ | with_reducible refine r_exr ?_ | with_reducible refine r_exs ?_ | with_reducible refine r_exli ?_)
local macro_rules | `(tactic| walk_at "go") => `(tactic| repeat walk_at "st")
local macro_rules | `(tactic| walk_at "in") => `(tactic| dsimp only [noxK, cxK, L2.start, List.map_cons, List.map_nil, List.length_cons, List.length_nil, Nat.reduceAdd, Nat.reduceSub, List.replicate, List.cons_append, List.nil_append])

section
variable {P : Program} {w : World} {K : PySem.W.Frag} {mg : Str → Option Value} {base : Heap}
abbrev sNames : Stmt := top 23
theorem scNames : FnScope ["_law_box_here", "_law_some", "_law_letters", "_law_base", "_law_first_so", "_law_step", "_law_done", "_law_k", "_law_far", "_law_place", "_law_near", "_law_size_so", "_law_word", "_law_at_so", "_law_sign_so", "_law_turn"] ["_law_box_here", "_law_some"] (defScope sNames) := ⟨rfl, rfl, rfl, by decide +kernel, rfl, by decide +kernel, by decide +kernel⟩
def spNames : Sp := fun vs H Q _ => ∃ (a : Addr) (b n : Nat), vs = [.ref a, .int n] ∧ n ≤ 13 ∧ Bx H a (b + (13 + 9 * n)) ∧
  ∀ (p : Addr) (ws : List Str) (H' : Hp), H p = none → ws.length = n → ws.Nodup → (∀ s ∈ ws, KindS s) → H' p = some (.lst (ws.map V.str)) → Bx H' a b → Kp a H H' → Q (.ref p) H'
/-- [letters[take(box, 26)] for .. in range(m)] -/
theorem lc_letters {σ : L2.St} {H : Hp} {Q : VK} {j m b : Nat} {a : Addr} {wi : TI} (hwi : ∀ R : It → Hp → Prop, R (Itr 0 m) H → wi σ H R) (h2 : ∀ v, ((wipe σ [j]).set j v)[2]? = some (some (.str (Str.ofString "abcdefghijklmnopqrstuvwxyz")))) (h0 : ∀ v, ((wipe σ [j]).set j v)[0]? = some (some (.ref a)))
    (hw : ∀ v, wipe ((wipe σ [j]).set j v) [j] = wipe σ [j]) (bx : Bx H a (b + m)) (hm : m ≤ 100)
    (hd : ∀ D H' (acc : List Str), H D = none → H' D = some (.lst (acc.map V.str)) → acc.length = m → (∀ s ∈ acc, Lt1 s) → Bx H' a b → Kp a H H' → Q (.ref D) H') :
    tLc wi (gName j) tYes (tOp rIxS (tVar 2) (tCal spTake E0 (tCons (tVar 0) (tCons (tC (.int 26)) tNil)))) [j] σ H Q := by
  refine r_lc (hwi _ fun D hD => ?_)
  have nDa : a ≠ D := bx.ne hD
  refine lc_it (walk_range (n := m)) (fun i H' => ∃ acc : List Str, H' D = some (.lst (acc.map V.str)) ∧ acc.length = i ∧ (∀ s ∈ acc, Lt1 s) ∧ Bx H' a (b + (m - i)) ∧ Kp a H H') ?_ (fun _ _ _ _ => trivial) ?_ ?_
  · exact ⟨[], upd_same, rfl, fun s h => by simp at h, by walk_at "bx", fun c o e n => by walk_at "hp"⟩
  · rintro i x H1 _ hi ⟨acc, hD1, hl, hacc, bx1, kp1⟩ ⟨rfl, rfl⟩
    refine r_gname ⟨hw _, ?_⟩
    refine r_yes (iteT ?_)
    refine r_op (r_var (h2 _) (r_cal (r_cons (r_var (h0 _) (r_cons (r_c (r_nil ?_)))))))
    refine ⟨a, b + (m - (i + 1)), 26, rfl, by walk_at "bx", by decide, by decide, fun d H2 d0 d1 bx2 kp2 => ?_⟩
    obtain ⟨k, rfl⟩ : ∃ k : Nat, d = k := ⟨d.toNat, by omega⟩
    refine r_ixSl ⟨by omega, ?_⟩
    refine ⟨acc.map V.str, by walk_at "hp", szl (by rw [List.length_map]; omega), acc ++ [⟨#[97 + k]⟩], by rw [List.map_append]; exact upd_same, by rw [List.length_append, hl]; rfl, fun s hs => ?_, by walk_at "bx", fun c o e n => ?_⟩
    · rcases List.mem_append.mp hs with hs | hs
      · exact hacc s hs
      · have : s = ⟨#[97 + k]⟩ := by simpa using hs
        exact ⟨97 + k, this, by omega, by omega⟩
    · have n2 : c ≠ D := ne_of_none e hD
      walk_at "hp"
  · rintro H1 ⟨acc, hD1, hl, hacc, bx1, kp1⟩
    exact hd D H1 acc hD hD1 hl hacc (by walk_at "bx") kp1
theorem ok_names {f : Addr} {fd : FuncData} (F : Fun K "_law_names" "_law_names" sNames f fd) (T : Txt K mg) (Ct : Cal P w K mg base CX0 1 "_law_take" ["_law_box_here", "_law_below"] spTake) (Co : Cal P w K mg base CX0 2 "_law_of" ["_law_box_here", "_law_some"] spOf) : FnOk P w K mg base CX0 3 f fd ["_law_box_here", "_law_some"] spNames := by
  refine F.ok scNames (fun vs H Q E h => ?_) (fun cdv A outer s H vs Q E hr h => ?_)
  · obtain ⟨a, b, n, rfl, _⟩ := h
    rfl
  · obtain ⟨a, b, n, rfl, hn, hb, q⟩ := h
    have hr1 : Room 1 _ := hr.mono (by decide)
    refine ⟨_, (pss_cons (ps_set (i := 2) scNames.nd rfl (Or.inr rfl) pe_str)
  (Evl.pss_cut (ps_set (i := 3) scNames.nd rfl (Or.inl rfl) (pe_joinR pe_str (pe_lc (own := [("_law_k", 7)]) (g := gName 7) (tt := tYes) rfl scNames.nd (pi_range1 rfl T.range (pa_cons pe_int pa_nil)) (blkOk_by (N := ["_law_box_here", "_law_some", "_law_letters", "_law_base", "_law_first_so", "_law_step", "_law_done", "_law_k", "_law_far", "_law_place", "_law_near", "_law_size_so", "_law_word", "_law_at_so", "_law_sign_so", "_law_turn"]) (sc := defScope sNames) (by decide +kernel)) (fun _ _ _ _ _ => (pg_name (i := 7) scNames.nd rfl (Or.inl rfl))) (fun _ _ _ _ _ => pts_nil) (fun _ _ _ _ _ => (pe_ix ix_str (pv 2) (pe_cal Ct hr1 pass0 (pa_cons (pv 0) (pa_cons pe_int pa_nil))) (fun _ _ => rfl))))))
  (pss_cons (ps_par3 (i := 8) (j := 9) (l := 10) rfl scNames.nd rfl rfl rfl (by decide) (by decide) (by decide) rfl rfl rfl (pa_cons (pe_op op_add pe_int (pe_cal Ct hr1 pass0 (pa_cons (pv 0) (pa_cons pe_int pa_nil)))) (pa_cons (pe_cal Ct hr1 pass0 (pa_cons (pv 0) (pa_cons pe_int pa_nil))) (pa_cons (pe_cal Ct hr1 pass0 (pa_cons (pv 0) (pa_cons pe_int pa_nil))) pa_nil))) (by rfl))
  (pss_cons (ps_set (i := 4) scNames.nd rfl (Or.inl rfl) (pe_cal Ct hr1 pass0 (pa_cons (pv 0) (pa_cons pe_int pa_nil))))
  (pss_cons (ps_set (i := 5) scNames.nd rfl (Or.inl rfl) (pe_cal Co hr pass0 (pa_cons (pv 0) (pa_cons (pe_lst (pa_cons pe_int (pa_cons pe_int (pa_cons pe_int (pa_cons pe_int (pa_cons pe_int (pa_cons pe_int (pa_cons pe_int (pa_cons pe_int (pa_cons pe_int (pa_cons pe_int (pa_cons pe_int (pa_cons pe_int pa_nil))))))))))))) pa_nil))))
  (pss_cons (ps_set (i := 6) scNames.nd rfl (Or.inl rfl) (pe_lst pa_nil))
  (pss_cons (ps_for PassesOwn.never rfl (pi_range1 rfl T.range (pa_cons (pv 1) pa_nil)) (pg_name (i := 7) scNames.nd rfl (Or.inl rfl))
  (Evl.pss_cut (ps_set (i := 11) scNames.nd rfl (Or.inl rfl) (pe_ifExp (pt_cmpR op_eq (pv 10) pe_int (nomark _)) (pv 8) (pe_op op_add pe_int (pe_cal Ct hr1 pass0 (pa_cons (pv 0) (pa_cons pe_int pa_nil))))))
  (pss_cons (ps_set (i := 12) scNames.nd rfl (Or.inl rfl) (pe_slice sl_str (pv 3) po_none (po_some (pv 11))))
  (Evl.pss_cut (ps_if (pt_cmpR op_gt (pv 10) pe_int (nomark _))
  (pss_one (ps_set (i := 12) scNames.nd rfl (Or.inl rfl) (pe_joinR pe_str (pe_lc (own := [("_law_turn", 15)]) (g := gName 15) (tt := tYes) rfl scNames.nd (pi_range1 rfl T.range (pa_cons (pv 11) pa_nil)) (blkOk_by (N := ["_law_box_here", "_law_some", "_law_letters", "_law_base", "_law_first_so", "_law_step", "_law_done", "_law_k", "_law_far", "_law_place", "_law_near", "_law_size_so", "_law_word", "_law_at_so", "_law_sign_so", "_law_turn"]) (sc := defScope sNames) (by decide +kernel)) (fun _ _ _ _ _ => (pg_name (i := 15) scNames.nd rfl (Or.inl rfl))) (fun _ _ _ _ _ => pts_nil) (fun _ _ _ _ _ => (pe_ix ix_str (pv 2) (pe_cal Ct hr1 pass0 (pa_cons (pv 0) (pa_cons pe_int pa_nil))) (fun _ _ => rfl)))))))
  pss_nil)
  (pss_cons (ps_set (i := 13) scNames.nd rfl (Or.inl rfl) (pe_op op_mod (pe_callTy c_int (by rfl) T.int (by decide +kernel) (pa_cons (pv 9) pa_nil)) (pv 11)))
  (pss_cons (ps_set (i := 14) scNames.nd rfl (Or.inl rfl) (pe_ix ix_str (pv 2) (pe_op op_mod (pe_callTy c_int (by rfl) T.int (by decide +kernel) (pa_cons (pe_op op_add (pv 4) (pe_op op_mul (pv 5) (pv 7))) pa_nil)) pe_int) (fun _ _ => rfl)))
  (pss_one (ps_expr (pe_bm PySem.F.plainAttrs_list PySem.F.slot_list_append PySem.F.type_list_append mt_append (pv 6) (pa_cons (pe_op o_catS (pe_op o_catS (pe_slice sl_str (pv 12) po_none (po_some (pv 13))) (pv 14)) (pe_slice sl_str (pv 12) (po_some (pe_op op_add (pv 13) pe_int)) po_none)) pa_nil))))))))))
  (pss_one (ps_ret (pv 6)))))))))), ?_⟩
    walk_at "in"
    walk_at "go"
    refine ⟨fun σ' H' => ∃ (z : Str), σ' = [some (.ref a), some (.int n), some (.str (Str.ofString "abcdefghijklmnopqrstuvwxyz")), some (.str z), none, none, none, none, none, none, none, none, none, none, none, none] ∧ (cds z).length = 8 ∧ AllL (cds z) ∧ Bx H' a (b + (5 + 9 * n)) ∧ Kp a H H', ?_, ?_⟩
    · refine r_asg (r_m1 (r_c (r_strV ?_)))
      refine lc_letters (a := a) (m := 8) (b := b + (5 + 9 * n)) (fun R h => ?_) (fun v => rfl) (fun v => rfl) (fun v => rfl) (by walk_at "bx") (by decide) fun D H1 acc hD hD1 hl hacc bx1 kp1 => ?_
      · walk_at "go"
        exact h
      refine r_join (ys := acc) (by walk_at "sq") (by rw [sum_len acc hacc, hl, empty_len]; omega) ?_
      walk_at "go"
      exact ⟨_, rfl, by rw [cds_join, (flat_len acc hacc).1, hl], by rw [cds_join]; exact (flat_len acc hacc).2, bx1, kp1⟩
    · rintro σ1 H1 ⟨z, rfl, z1, z2, bx1, kp1⟩
      walk_at "go"
      refine ⟨a, b + (4 + 9 * n), 8, rfl, by walk_at "bx", by decide, by decide, fun far H2 f0 f1 bx2 kp2 => ?_⟩
      walk_at "go"
      refine ⟨a, b + (3 + 9 * n), 8, rfl, by walk_at "bx", by decide, by decide, fun place H3 p0 p1 bx3 kp3 => ?_⟩
      walk_at "go"
      refine ⟨a, b + (2 + 9 * n), 2, rfl, by walk_at "bx", by decide, by decide, fun near H4 n0 n1 bx4 kp4 => ?_⟩
      walk_at "go"
      refine ⟨a, b + (1 + 9 * n), 26, rfl, by walk_at "bx", by decide, by decide, fun first H5 g0 g1 bx5 kp5 => ?_⟩
      walk_at "go"
      rename_i pl hpl
      refine ⟨a, pl, b + 9 * n, steps.map (fun (s : Nat) => V.int (s : Int)), rfl, by walk_at "bx", by walk_at "hp", by walk_at "ne", by decide, by decide, fun x i H6 hx bx6 kp6 => ?_⟩
      obtain ⟨st, rfl, hst⟩ := map_some hx
      have hst : st ∈ steps := List.mem_of_getElem? hst
      obtain ⟨far, rfl⟩ : ∃ k : Nat, far = k := ⟨far.toNat, by omega⟩
      obtain ⟨place, rfl⟩ : ∃ k : Nat, place = k := ⟨place.toNat, by omega⟩
      obtain ⟨first, rfl⟩ : ∃ k : Nat, first = k := ⟨first.toNat, by omega⟩
      have kp : Kp a H H6 := fun c o e nc => by walk_at "hp"
      walk_at "go"
      rename_i pd hpd
      have npd : pd ≠ a := by walk_at "ne"
      have hpd0 : H pd = none := kp.free hpd npd
      refine for_it (walk_range (n := n)) (fun i σ H' => ∃ (ws : List Str) (x7 x11 x12 x13 x14 : Option V), σ = [some (.ref a), some (.int n), some (.str (Str.ofString "abcdefghijklmnopqrstuvwxyz")), some (.str z), some (.int first), some (.int st), some (.ref pd), x7, some (.int (1 + far)), some (.int place), some (.int near), x11, x12, x13, x14, none] ∧ ws.length = i ∧ (∀ (k : Nat) (w : Str), ws[k]? = some w → NameAt w place (97 + (first + st * k) % 26 : Nat)) ∧ H' pd = some (.lst (ws.map V.str)) ∧ Bx H' a (b + 9 * (n - i)) ∧ Kp a H H') ?_ (fun _ _ _ _ _ => trivial) ?_ ?_
      · exact ⟨[], none, none, none, none, none, rfl, rfl, fun k w h => by simp at h, by walk_at "hp", by walk_at "bx", fun c o e nc => by walk_at "hp"⟩
      · rintro i x σ H7 _ hi ⟨ws, x7, x11, x12, x13, x14, rfl, wl, hws, hp7, bx7, kp7⟩ ⟨rfl, rfl⟩
        walk_at "go"
        refine ⟨fun σ' H' => ∃ (sz : Nat), σ' = [some (.ref a), some (.int n), some (.str (Str.ofString "abcdefghijklmnopqrstuvwxyz")), some (.str z), some (.int first), some (.int st), some (.ref pd), some (.int (0 + (i : Int))), some (.int (1 + far)), some (.int place), some (.int near), some (.int sz), x12, x13, x14, none] ∧ 1 ≤ sz ∧ sz ≤ 8 ∧ H' pd = some (.lst (ws.map V.str)) ∧ Bx H' a (b + 9 * (n - i - 1) + 8) ∧ Kp a H H', ?_, ?_⟩
        · walk_at "go"
          refine ite_d (fun c => ?_) (fun c => ?_)
          · walk_at "go"
            exact ⟨1 + far, rfl, by omega, by omega, hp7, by walk_at "bx", kp7⟩
          · walk_at "go"
            refine ⟨a, b + 9 * (n - i - 1) + 8, 8, rfl, by walk_at "bx", by decide, by decide, fun d H8 d0 d1 bx8 kp8 => ?_⟩
            obtain ⟨d, rfl⟩ : ∃ k : Nat, d = k := ⟨d.toNat, by omega⟩
            walk_at "go"
            exact ⟨1 + d, rfl, by omega, by omega, by walk_at "hp", by walk_at "bx", kp7.trans kp8⟩
        · rintro σ8 H8 ⟨sz, rfl, s1, s8, hp8, bx8, kp8⟩
          walk_at "go"
          have hk : (sz : Int) ≤ 8 := by omega
          refine r_slS (My.sz (by rw [len_cds, z1]; decide)) ?_
          walk_at "go"
          refine ⟨fun σ' H' => ∃ (wd : Str), σ' = [some (.ref a), some (.int n), some (.str (Str.ofString "abcdefghijklmnopqrstuvwxyz")), some (.str z), some (.int first), some (.int st), some (.ref pd), some (.int (0 + (i : Int))), some (.int (1 + far)), some (.int place), some (.int near), some (.int sz), some (.str wd), x13, x14, none] ∧ (cds wd).length = sz ∧ AllL (cds wd) ∧ H' pd = some (.lst (ws.map V.str)) ∧ Bx H' a (b + 9 * (n - (i + 1))) ∧ Kp a H H', ?_, ?_⟩
          · walk_at "go"
            refine ite_d (fun c => ?_) (fun c => ?_)
            · refine r_asg (r_m1 (r_c (r_strV ?_)))
              refine lc_letters (a := a) (m := sz) (b := b + 9 * (n - (i + 1))) (fun R h => ?_) (fun v => rfl) (fun v => rfl) (fun v => rfl) (by walk_at "bx") (by omega) fun D H9 acc hD hD1 hl hacc bx9 kp9 => ?_
              · walk_at "go"
                exact h
              refine r_join (ys := acc) (by walk_at "sq") (by rw [sum_len acc hacc, hl, empty_len]; omega) ?_
              walk_at "go"
              exact ⟨_, rfl, by rw [cds_join, (flat_len acc hacc).1, hl], by rw [cds_join]; exact (flat_len acc hacc).2, by walk_at "hp", bx9, kp8.trans kp9⟩
            · walk_at "go"
              exact ⟨_, rfl, by rw [cds_to, List.length_take, z1]; omega, by rw [cds_to]; exact fun d hd => z2 d (List.mem_of_mem_take hd), hp8, by walk_at "bx", kp8⟩
          · rintro σ9 H9 ⟨wd, rfl, w1, w2, hp9, bx9, kp9⟩
            walk_at "go"
            have e1 : (((first : Int) + (st : Int) * (0 + (i : Int))) % 26) = (((first + st * i) % 26 : Nat) : Int) := by rw [Int.zero_add]; rfl
            rw [e1]
            refine r_ixSl ⟨Nat.mod_lt _ (by decide), ?_⟩
            walk_at "go"
            have e2 : ((place : Int) % (sz : Int)) = ((place % sz : Nat) : Int) := rfl
            have hp1 : place % sz < sz := Nat.mod_lt _ (by omega)
            refine r_slS (My.sz (by rw [len_cds, w1]; omega)) ?_
            walk_at "go"
            rw [e2]
            refine r_catS (My.sz (by rw [len_cds, cds_to, List.length_take, w1]; show min (place % sz) sz + 1 ≤ 100000; omega)) ?_
            walk_at "go"
            refine r_slS (My.sz (by rw [len_cds, w1]; omega)) ?_
            walk_at "go"
            have e3 : (((place % sz : Nat) : Int) + 1) = ((place % sz + 1 : Nat) : Int) := rfl
            rw [e3]
            have ew : cds (cutS wd none (some ((place % sz : Nat) : Int)) ++ (⟨#[97 + (first + st * i) % 26]⟩ : Str) ++ cutS wd (some ((place % sz + 1 : Nat) : Int)) none) = (cds wd).take (place % sz) ++ [97 + (first + st * i) % 26] ++ (cds wd).drop (place % sz + 1) := by
              rw [cds_app, cds_app, cds_to, cds_from]
            have hw : NameAt (cutS wd none (some ((place % sz : Nat) : Int)) ++ (⟨#[97 + (first + st * i) % 26]⟩ : Str) ++ cutS wd (some ((place % sz + 1 : Nat) : Int)) none) place (97 + (first + st * i) % 26) := put_letter w1 w2 ⟨s1, s8⟩ (by omega) ew
            refine r_catS (My.sz (by rw [len_cds, len_cds, cds_app, cds_to, cds_from, List.length_append, List.length_take, List.length_drop, w1]; show min (place % sz) sz + 1 + (sz - (place % sz + 1)) ≤ 100000; omega)) ?_
            generalize (cutS wd none (some ((place % sz : Nat) : Int)) ++ (⟨#[97 + (first + st * i) % 26]⟩ : Str) ++ cutS wd (some ((place % sz + 1 : Nat) : Int)) none) = w' at hw
            walk_at "go"
            refine ⟨ws ++ [w'], _, _, _, _, _, rfl, by rw [List.length_append, wl]; rfl, fun k w hk => ?_, by rw [List.map_append]; exact upd_same, by walk_at "bx", fun c o e nc => ?_⟩
            · by_cases hk2 : k < ws.length
              · rw [List.getElem?_append_left hk2] at hk
                exact hws k w hk
              · rw [List.getElem?_append_right (by omega)] at hk
                obtain ⟨h1, h2⟩ := List.getElem?_eq_some_iff.mp hk
                have h3 : k = i := by simp at h1; omega
                subst h3
                have h4 : w' = w := by simpa using h2
                rw [← h4]
                exact hw
            · have n2 : c ≠ pd := ne_of_none e hpd0
              walk_at "hp"
      · rintro σ7 H7 ⟨ws, x7, x11, x12, x13, x14, rfl, wl, hws, hp7, bx7, kp7⟩
        walk_at "go"
        exact q pd ws H7 hpd0 wl (names_nodup hst (by omega) hws) (fun s hs => by
          obtain ⟨k, hk, e⟩ := List.getElem_of_mem hs
          exact (hws k s (by rw [List.getElem?_eq_getElem hk, e])).kind) hp7 (by walk_at "bx") kp7
end
end My

--T /opt/kit/linked/4bf7bf6c73b87d88f1ba1c555b42b7c50cec9cc5/law_k05_how_often_and_what_is_left/T.py
namespace My
open PySem L2
local macro_rules | `(tactic| walk_at "bx1") => `(tactic| first | with_reducible assumption | ((with_reducible refine' Bx.upd ?h1 ?h2); (case h1 => walk_at "bx1"); (case h2 => walk_at "ne")) | ((with_reducible refine' Bx.same ?h1 (by with_reducible assumption)); (case h1 => walk_at "bx1")))
local macro_rules | `(tactic| walk_at "bx") => `(tactic| (refine' Bx.mono ?h1 ?h2; (case h1 => walk_at "bx1"); (case h2 => omega)))
local macro_rules | `(tactic| walk_at "ne") => `(tactic| first | with_reducible assumption | exact Ne.symm (by with_reducible assumption) | ((with_reducible refine' ne_of_none ?h1 (by with_reducible assumption)); (case h1 => walk_at "hp")) | ((with_reducible refine' Ne.symm (ne_of_none ?h1 (by with_reducible assumption))); (case h1 => walk_at "hp")) | ((with_reducible refine' Bx.ne ?h1 (by with_reducible assumption)); (case h1 => walk_at "bx1")) | ((with_reducible refine' Ne.symm (Bx.ne ?h1 (by with_reducible assumption))); (case h1 => walk_at "bx1")))
local macro_rules | `(tactic| walk_at "hp") => `(tactic| first | with_reducible assumption | ((with_reducible refine' (upd_same.trans ?h1)); (case h1 => rfl)) | ((with_reducible refine' My.upd_at ?h1 ?h2); (case h1 => walk_at "hp"); (case h2 => walk_at "ne")) | ((with_reducible refine' My.Kp.at (by with_reducible assumption) ?h1 ?h2); (case h1 => walk_at "hp"); (case h2 => walk_at "ne")) | ((with_reducible refine' My.Same.at (by with_reducible assumption) ?h1); (case h1 => walk_at "hp")))
local macro_rules | `(tactic| walk_at "sq") => `(tactic| first | with_reducible assumption | exact SqL.of (by walk_at "hp") | exact SqT.of (by walk_at "hp") | ((with_reducible refine' My.SqT.upd ?h1 (by with_reducible assumption)); (case h1 => walk_at "sq")) | ((with_reducible refine' My.SqL.upd ?h1 (by with_reducible assumption)); (case h1 => walk_at "sq")) | ((with_reducible refine' Same.seq (by with_reducible assumption) ?h1); (case h1 => walk_at "sq")) | ((with_reducible refine' My.SqT.same ?h1 (by with_reducible assumption)); (case h1 => walk_at "sq")) | ((with_reducible refine' My.SqT.kp ?h1 (by with_reducible assumption) ?h2); (case h1 => walk_at "sq"); (case h2 => walk_at "bx1")) | ((with_reducible refine' My.SqL.kp ?h1 (by with_reducible assumption) ?h2); (case h1 => walk_at "sq"); (case h2 => walk_at "ne")))
local macro_rules | `(tactic| walk_at "sd") => `(tactic| first | assumption | omega | decide | (refine ⟨?_, ?_⟩ <;> (first | omega | decide)) | (refine Or.inl ⟨?_, ?_⟩ <;> (first | omega | decide)) | (refine Or.inr ⟨?_, ?_⟩ <;> (first | omega | decide)) | (refine ⟨?_, ?_, ?_⟩ <;> (first | omega | decide)))
local macro_rules | `(tactic| walk_at "ps") => `(tactic| first
  | with_reducible refine r_seq ?_ | with_reducible refine r_asg ?_ | with_reducible refine r_op ?_ | with_reducible refine r_cons ?_ | with_reducible refine r_nil ?_ | with_reducible refine r_c ?_
  | with_reducible refine' r_var rfl ?_ | with_reducible refine r_gname ?_ | with_reducible refine r_cb ?_ | with_reducible refine r_I0 ?_ | with_reducible refine r_ret ?_ | with_reducible refine r_ifS ?_ | with_reducible refine r_test ?_ | with_reducible refine r_B ?_
  | with_reducible refine r_next ?_ | with_reducible refine r_drop ?_ | with_reducible refine r_if ?_ | with_reducible refine r_un ?_ | with_reducible refine r_U ?_ | with_reducible refine r_gsub ?_ | with_reducible refine r_tup ?_ | with_reducible refine r_lst ?_ | with_reducible refine r_bm ?_
  | with_reducible refine r_cal ?_ | with_reducible refine r_not ?_ | with_reducible refine r_and ?_ | with_reducible refine r_or ?_ | with_reducible refine r_andV ?_ | with_reducible refine r_orV ?_ | with_reducible refine r_notV ?_
  | with_reducible refine r_abs ?_ | with_reducible refine r_intI ?_ | with_reducible refine r_intB ?_ | with_reducible refine r_m1 ?_ | with_reducible refine r_slice ?_ | with_reducible refine r_part ?_ | with_reducible refine r_nopart ?_
  | with_reducible refine r_gcons ?_ | with_reducible refine r_gnil ?_
  | with_reducible refine r_par ?_ | with_reducible refine r_par3 ?_ | with_reducible refine r_ex2 ?_ | with_reducible refine r_ex3 ?_
  | with_reducible refine r_isN ?_ | with_reducible refine r_notN ?_
  | with_reducible refine r_iZipA ?_
  | with_reducible refine r_dget ?_ | with_reducible refine r_dget2 ?_ | with_reducible refine r_iKeys ?_ | with_reducible refine r_dput ?_
  | with_reducible refine r_for ?_ | with_reducible refine r_lc ?_ | with_reducible refine r_iList ?_ | with_reducible refine r_iTup ?_ | with_reducible refine r_iRng1 ?_ | with_reducible refine r_iEnum ?_ | with_reducible refine r_orT ?_ | with_reducible refine r_yes ?_ | with_reducible refine r_ixSl ?_)
local macro_rules | `(tactic| walk_at "st") => `(tactic| first
  | walk_at "ps"
  | ((with_reducible refine' r_ixL ?h1 ?h2 ?_); (case h1 => walk_at "sq"); (case h2 => rfl))
  | ((with_reducible refine' r_setL ?h1 ?h2 ?_); (case h1 => walk_at "hp"); (case h2 => rfl))
  | ((with_reducible refine' r_I ?h1 ?_); (case h1 => walk_at "sd"))
  | ((with_reducible refine' r_eq ?h1 ?_); (case h1 => rfl)) | ((with_reducible refine' r_ne ?h1 ?_); (case h1 => rfl))
  | ((with_reducible refine' r_lenL ?h1 ?_); (case h1 => walk_at "sq")) | ((with_reducible refine' r_lenT ?h1 ?_); (case h1 => walk_at "sq")) | ((with_reducible refine' r_lenD ?h1 ?_); (case h1 => walk_at "hp"))
  | ((with_reducible refine' r_slL ?h1 ?_); (case h1 => walk_at "sq"); intro _ _)
  | ((with_reducible refine' r_append ?h1 ?h2 ?_); (case h1 => walk_at "hp"); (case h2 => exact szl (by first | omega | (simp; omega))))
  | ((with_reducible refine' r_gtup ?h1 ?h2 ?_); (case h1 => walk_at "sq"); (case h2 => rfl))
  | ((with_reducible refine' r_cat ?h1 ?h2 ?h3 ?_); (case h1 => walk_at "hp"); (case h2 => walk_at "hp"); (case h3 => exact sz (by first | omega | (simp; omega))); intro _ _)
  | ((with_reducible refine' r_wLst ?h1 ?_); (case h1 => walk_at "sq")) | ((with_reducible refine' r_wTup ?h1 ?_); (case h1 => walk_at "sq"))
  | ((with_reducible refine' r_wRng ?h1 ?_); (case h1 => walk_at "sd"))
  | ((with_reducible refine' r_truL ?h1 ?_); (case h1 => walk_at "sq"))
  | ((with_reducible refine' r_list (Or.inl ?h1) ?_); (case h1 => walk_at "sq"); intro _ _) | ((with_reducible refine' r_list (Or.inr ?h1) ?_); (case h1 => walk_at "sq"); intro _ _)
  | ((with_reducible refine' r_tupL ?h1 ?_); (case h1 => walk_at "sq"); intro _ _) | ((with_reducible refine' r_tupT ?h1 ?_); (case h1 => walk_at "sq"))
  | ((with_reducible refine' r_disp ?h1 ?_); (case h1 => exact Nat.le_of_ble_eq_true rfl); intro _ _)
  | ((with_reducible refine r_dnewK ?_); intro _ _)
  | ((with_reducible refine' r_tyL ?h1 ?_); (case h1 => walk_at "sq")) | with_reducible refine r_strV ?_
  | with_reducible refine r_exb ?_ | with_reducible refine r_exi ?_ | with_reducible refine r_exr ?_ | with_reducible refine r_exs ?_ | with_reducible refine r_exli ?_)
local macro_rules | `(tactic| walk_at "go") => `(tactic| repeat walk_at "st")
local macro_rules | `(tactic| walk_at "in") => `(tactic| dsimp only [noxK, cxK, L2.start, List.map_cons, List.map_nil, List.length_cons, List.length_nil, Nat.reduceAdd, Nat.reduceSub, List.replicate, List.cons_append, List.nil_append])

/-- the same data, to a depth -/
def Sm (K : PySem.W.Frag) : Nat → V → V → Hp → Prop
  | 0, _, _, _ => False
  | n + 1, x, y, H => (x = y ∧ (x = .non ∨ (∃ b, x = .bl b) ∨ (∃ i, x = .int i) ∨ ∃ s, x = .str s)) ∨
    (∃ a b xs ys, x = .ref a ∧ y = .ref b ∧ H a = some (.lst xs) ∧ H b = some (.lst ys) ∧ xs.length = ys.length ∧ xs.length ≤ 1000 ∧ ∀ (i : Nat) (u v : V), xs[i]? = some u → ys[i]? = some v → Sm K n u v H) ∨
    (∃ a b xs ys, x = .ref a ∧ y = .ref b ∧ H a = some (.tup xs) ∧ H b = some (.tup ys) ∧ xs.length = ys.length ∧ xs.length ≤ 1000 ∧ ∀ (i : Nat) (u v : V), xs[i]? = some u → ys[i]? = some v → Sm K n u v H)
theorem walk_zipT {K : PySem.W.Frag} {a b : Addr} {xs ys : List V} {n : Nat} (h1 : n = xs.length) (h2 : n = ys.length) : Walk (RZ.ItzT K a b) n (fun H => SqT K H a xs ∧ SqT K H b ys) (YPair (fun i => xs[i]?) (fun i => ys[i]?)) := by
  refine ⟨fun i _ hi q => ?_, fun _ q => ⟨xs, ys, q.1, q.2, by omega⟩, fun i H v H' _ q y => ?_⟩
  · have h1 : i < xs.length := by omega
    have h2 : i < ys.length := by omega
    exact ⟨xs, ys, xs[i], ys[i], q.1, q.2, by simp [h1], by simp [h2]⟩
  · obtain ⟨T, x, z, h1, h2, h3, h4, h5⟩ := y
    exact ⟨T, x, z, h1, h2, h3, h4 xs q.1, h5 ys q.2⟩
theorem Sm.same {K : PySem.W.Frag} : ∀ {n : Nat} {x y : V} {H H' : Hp}, Sm K n x y H → Same H H' → Sm K n x y H'
  | 0, _, _, _, _, h, _ => h.elim
  | n + 1, x, y, H, H', h, e => by
    rcases h with h | ⟨a, b, xs, ys, h1, h2, h3, h4, h5, h6, h7⟩ | ⟨a, b, xs, ys, h1, h2, h3, h4, h5, h6, h7⟩
    · exact .inl h
    · exact .inr (.inl ⟨a, b, xs, ys, h1, h2, e _ _ h3, e _ _ h4, h5, h6, fun i u v hu hv => (h7 i u v hu hv).same e⟩)
    · exact .inr (.inr ⟨a, b, xs, ys, h1, h2, e _ _ h3, e _ _ h4, h5, h6, fun i u v hu hv => (h7 i u v hu hv).same e⟩)
section
variable {P : Program} {w : World} {K : PySem.W.Frag} {mg : Str → Option Value} {base : Heap}
abbrev sSame : Stmt := top 20
theorem scSame : FnScope ["_law_got", "_law_due", "_law_own", "_law_mine", "_law_its"] ["_law_got", "_law_due"] (defScope sSame) := ⟨rfl, rfl, rfl, by decide +kernel, rfl, by decide +kernel, by decide +kernel⟩
def spSame (K : PySem.W.Frag) (n : Nat) : Sp := fun vs H Q _ => ∃ x y, vs = [x, y] ∧ Sm K n x y H ∧ ∀ H', Same H H' → Q (.bl true) H'
theorem ok_same {f : Addr} {fd : FuncData} (F : Fun K "_law_same" "_law_same" sSame f fd) (T : Txt K mg) (n : Nat) (Cs : Cal P w K mg base CX0 n "_law_same" ["_law_got", "_law_due"] (spSame K n)) : FnOk P w K mg base CX0 (n + 1) f fd ["_law_got", "_law_due"] (spSame K (n + 1)) := by
  refine F.ok scSame (fun vs H Q E h => ?_) (fun cdv A outer s H vs Q E hr h => ?_)
  · obtain ⟨x, y, rfl, _⟩ := h
    rfl
  · obtain ⟨x, y, rfl, hs, q⟩ := h
    refine ⟨_, (pss_cons (ps_if (pt_val (pe_callB call_isiT (by rfl) T.isinstance (by decide +kernel) (pa_cons (pv 1) (pa_cons (pe_tup (pa_cons (pe_bltn (v := .ty "list") (by rfl) T.list (by decide +kernel) rfl) (pa_cons (pe_bltn (v := .ty "tuple") (by rfl) T.tuple (by decide +kernel) rfl) pa_nil))) pa_nil))))
  (pss_cons (ps_if (PW.pt (pw_or (pt_cmpR op_ne (pe_callB call_isi (by rfl) T.isinstance (by decide +kernel) (pa_cons (pv 0) (pa_cons (pe_bltn (v := .ty "list") (by rfl) T.list (by decide +kernel) rfl) pa_nil))) (pe_callB call_isi (by rfl) T.isinstance (by decide +kernel) (pa_cons (pv 1) (pa_cons (pe_bltn (v := .ty "list") (by rfl) T.list (by decide +kernel) rfl) pa_nil))) (nomark _)) (pw_or1 (pt_cmpR op_ne (pe_callB call_isi (by rfl) T.isinstance (by decide +kernel) (pa_cons (pv 0) (pa_cons (pe_bltn (v := .ty "tuple") (by rfl) T.tuple (by decide +kernel) rfl) pa_nil))) (pe_callB call_isi (by rfl) T.isinstance (by decide +kernel) (pa_cons (pv 1) (pa_cons (pe_bltn (v := .ty "tuple") (by rfl) T.tuple (by decide +kernel) rfl) pa_nil))) (nomark _)))))
  (pss_one (ps_ret pe_bl))
  pss_nil)
  (pss_one (ps_ret (pe_and (pe_cmpR op_eq (pe_callB call_len (by rfl) T.len (by decide +kernel) (pa_cons (pv 0) pa_nil)) (pe_callB call_len (by rfl) T.len (by decide +kernel) (pa_cons (pv 1) pa_nil)) (nomark _)) (pe_one (pe_callB (cr_all rfl) (by rfl) T.all (by decide +kernel) (pa_cons (pe_lc (own := [("_law_mine", 3), ("_law_its", 4)]) (g := gTup _ 2 (gCons (gName 3) (gCons (gName 4) gNil))) (tt := tYes) rfl scSame.nd (RZ.pi_zipA (by rfl) T.zip (pa_cons (pv 0) (pa_cons (pv 1) pa_nil))) (blkOk_by (N := ["_law_got", "_law_due", "_law_own", "_law_mine", "_law_its"]) (sc := defScope sSame) (by decide +kernel)) (fun _ _ _ _ _ => (pg_tup rfl (pgs_cons (pg_name (i := 3) scSame.nd rfl (Or.inl rfl)) (pgs_cons (pg_name (i := 4) scSame.nd rfl (Or.inl rfl)) pgs_nil)))) (fun _ _ _ _ _ => pts_nil) (fun _ _ _ _ _ => (pe_cal Cs hr pass0 (pa_cons (pv 3) (pa_cons (pv 4) pa_nil))))) pa_nil)))))))
  pss_nil)
  (pss_cons (ps_if (pt_val (pe_callB call_isi (by rfl) T.isinstance (by decide +kernel) (pa_cons (pv 1) (pa_cons (pe_bltn (v := .ty "dict") (by rfl) T.dict (by decide +kernel) rfl) pa_nil))))
  pss_never
  pss_nil)
  (pss_cons (ps_if (PW.pt (pw_or (pt_cmpR o_isN (pv 1) pe_non (nomark _)) (pw_or1 (pt_val (pe_callB call_isiT (by rfl) T.isinstance (by decide +kernel) (pa_cons (pv 1) (pa_cons (pe_tup (pa_cons (pe_bltn (v := .ty "bool") (by rfl) T.bool (by decide +kernel) rfl) (pa_cons (pe_bltn (v := .ty "str") (by rfl) T.str (by decide +kernel) rfl) pa_nil))) pa_nil)))))))
  (pss_one (ps_ret (pe_and (pe_cmpR op_eq (pv 0) (pv 1) (nomark _)) (pe_and (pe_cmpR op_eq (pe_callB call_isi (by rfl) T.isinstance (by decide +kernel) (pa_cons (pv 0) (pa_cons (pe_bltn (v := .ty "bool") (by rfl) T.bool (by decide +kernel) rfl) pa_nil))) (pe_callB call_isi (by rfl) T.isinstance (by decide +kernel) (pa_cons (pv 1) (pa_cons (pe_bltn (v := .ty "bool") (by rfl) T.bool (by decide +kernel) rfl) pa_nil))) (nomark _)) (pe_one (pe_cmpR op_eq (pe_cmpR o_isN (pv 0) pe_non (nomark _)) (pe_cmpR o_isN (pv 1) pe_non (nomark _)) (nomark _)))))))
  pss_nil)
  (pss_one (ps_ret (pe_and (pe_callB call_isi (by rfl) T.isinstance (by decide +kernel) (pa_cons (pv 0) (pa_cons (pe_bltn (v := .ty "int") (by rfl) T.int (by decide +kernel) rfl) pa_nil))) (pe_and (pe_not (pe_callB call_isi (by rfl) T.isinstance (by decide +kernel) (pa_cons (pv 0) (pa_cons (pe_bltn (v := .ty "bool") (by rfl) T.bool (by decide +kernel) rfl) pa_nil)))) (pe_one (pe_cmpR op_eq (pv 0) (pv 1) (nomark _)))))))))), ?_⟩
    walk_at "in"
    walk_at "go"
    rename_i p hp
    have fin : ∀ (v w : V) (H' : Hp), v = w → Same H H' → Q (V.bl (decide (v = w))) H' := fun v w H' e s => by rw [decide_eq_true e]; exact q H' s
    rcases hs with ⟨rfl, h⟩ | ⟨a, b, xs, ys, rfl, rfl, ha, hb, hl, h1000, hs⟩ | ⟨a, b, xs, ys, rfl, rfl, ha, hb, hl, h1000, hs⟩
    · rcases h with rfl | ⟨b, rfl⟩ | ⟨i, rfl⟩ | ⟨z, rfl⟩
      · refine r_isiT (T := "NoneType") false false (.base .non) upd_same (by decide +kernel) (by decide +kernel) ?_
        walk_at "go"
        refine iteF ?_
        walk_at "go"
        refine r_isi (T := "NoneType") false (.base .non) (by decide +kernel) ?_
        walk_at "go"
        refine iteF ?_
        walk_at "go"
        refine ite_dT rfl ?_
        refine iteT ?_
        walk_at "go"
        refine ite_dT rfl ?_
        walk_at "go"
        refine r_isi (T := "NoneType") false (.base .non) (by decide +kernel) ?_
        walk_at "go"
        refine r_isi (T := "NoneType") false (.base .non) (by decide +kernel) ?_
        walk_at "go"
        refine ite_dT rfl ?_
        walk_at "go"
        exact fin _ _ _ rfl (fun c o e => by walk_at "hp")
      · refine r_isiT (T := "bool") false false (.base (.bl _)) upd_same (by decide +kernel) (by decide +kernel) ?_
        walk_at "go"
        refine iteF ?_
        walk_at "go"
        refine r_isi (T := "bool") false (.base (.bl _)) (by decide +kernel) ?_
        walk_at "go"
        refine iteF ?_
        walk_at "go"
        refine ite_dF (fun z => by cases z) ?_
        walk_at "go"
        rename_i p2 hp2
        refine r_isiT (T := "bool") true false (.base (.bl _)) upd_same (by decide +kernel) (by decide +kernel) ?_
        walk_at "go"
        refine iteT ?_
        walk_at "go"
        refine ite_dT rfl ?_
        walk_at "go"
        refine r_isi (T := "bool") true (.base (.bl _)) (by decide +kernel) ?_
        walk_at "go"
        refine r_isi (T := "bool") true (.base (.bl _)) (by decide +kernel) ?_
        walk_at "go"
        refine ite_dT rfl ?_
        walk_at "go"
        exact fin _ _ _ rfl (fun c o e => by walk_at "hp")
      · refine r_isiT (T := "int") false false (.base (.int _)) upd_same (by decide +kernel) (by decide +kernel) ?_
        walk_at "go"
        refine iteF ?_
        walk_at "go"
        refine r_isi (T := "int") false (.base (.int _)) (by decide +kernel) ?_
        walk_at "go"
        refine iteF ?_
        walk_at "go"
        refine ite_dF (fun z => by cases z) ?_
        walk_at "go"
        rename_i p2 hp2
        refine r_isiT (T := "int") false false (.base (.int _)) upd_same (by decide +kernel) (by decide +kernel) ?_
        walk_at "go"
        refine iteF ?_
        walk_at "go"
        refine r_isi (T := "int") true (.base (.int _)) (by decide +kernel) ?_
        walk_at "go"
        refine iteT ?_
        walk_at "go"
        refine r_isi (T := "int") false (.base (.int _)) (by decide +kernel) ?_
        walk_at "go"
        refine iteT ?_
        walk_at "go"
        exact fin _ _ _ rfl (fun c o e => by walk_at "hp")
      · refine r_isiT (T := "str") false false (.base (.str _)) upd_same (by decide +kernel) (by decide +kernel) ?_
        walk_at "go"
        refine iteF ?_
        walk_at "go"
        refine r_isi (T := "str") false (.base (.str _)) (by decide +kernel) ?_
        walk_at "go"
        refine iteF ?_
        walk_at "go"
        refine ite_dF (fun z => by cases z) ?_
        walk_at "go"
        rename_i p2 hp2
        refine r_isiT (T := "str") false true (.base (.str _)) upd_same (by decide +kernel) (by decide +kernel) ?_
        walk_at "go"
        refine iteT ?_
        walk_at "go"
        refine ite_dT rfl ?_
        walk_at "go"
        refine r_isi (T := "str") false (.base (.str _)) (by decide +kernel) ?_
        walk_at "go"
        refine r_isi (T := "str") false (.base (.str _)) (by decide +kernel) ?_
        walk_at "go"
        refine ite_dT rfl ?_
        walk_at "go"
        exact fin _ _ _ rfl (fun c o e => by walk_at "hp")
    --LISTS
    · refine r_isiT (T := "list") true false (tyL (by walk_at "hp")) upd_same (by decide +kernel) (by decide +kernel) ?_
      walk_at "go"
      refine iteT ?_
      walk_at "go"
      refine r_isi (T := "list") true (tyL (by walk_at "hp")) (by decide +kernel) ?_
      walk_at "go"
      refine r_isi (T := "list") true (tyL (by walk_at "hp")) (by decide +kernel) ?_
      walk_at "go"
      refine ite_ndF rfl ?_
      walk_at "go"
      refine r_isi (T := "list") false (tyL (by walk_at "hp")) (by decide +kernel) ?_
      walk_at "go"
      refine r_isi (T := "list") false (tyL (by walk_at "hp")) (by decide +kernel) ?_
      walk_at "go"
      refine ite_ndF rfl ?_
      walk_at "go"
      refine ⟨_, xs.length, rfl, Or.inl ⟨xs, by walk_at "sq", rfl⟩, ?_⟩
      walk_at "go"
      refine ⟨_, ys.length, rfl, Or.inl ⟨ys, by walk_at "sq", rfl⟩, ?_⟩
      walk_at "go"
      refine ite_dT (by rw [hl]) ?_
      walk_at "go"
      refine ⟨a, b, xs, ys, rfl, Or.inl ⟨by walk_at "sq", by walk_at "sq", ?_⟩⟩
      intro D hD
      have hD0 : H D = none := by rw [upd_ne (by intro z; rw [z, upd_same] at hD; cases hD)] at hD; exact hD
      refine lc_it (walk_zip (xs := xs) (ys := ys) (n := xs.length) (by omega)) (fun i H' => H' D = some (.lst ((List.replicate i true).map V.bl)) ∧ Same H H') ?_ ?_ ?_ ?_
      · exact ⟨upd_same, fun c o e => by walk_at "hp"⟩
      · rintro i H1 _ ⟨_, s1⟩
        exact ⟨SqL.of (s1 _ _ ha), SqL.of (s1 _ _ hb)⟩
      · rintro i _ H1 _ hi ⟨hD1, s1⟩ ⟨t, u, v, rfl, ht, rfl, hu, hv⟩
        walk_at "go"
        refine ⟨rfl, r_yes (iteT ?_)⟩
        walk_at "go"
        refine ⟨u, v, rfl, (hs i u v hu hv).same (fun c o e => by walk_at "hp"), fun H2 s2 => ?_⟩
        have hD2 : H2 D = some (.lst ((List.replicate i true).map V.bl)) := by walk_at "hp"
        refine ⟨_, hD2, szl (by rw [List.length_map, List.length_replicate]; exact Nat.lt_of_lt_of_le hi (by omega)), ?_, fun c o e => ?_⟩
        · rw [List.replicate_succ', List.map_append]
          exact upd_same
        · have n1 : c ≠ D := ne_of_none e hD0
          walk_at "hp"
      · rintro H1 ⟨hD1, s1⟩
        walk_at "go"
        refine r_all (SqL.of hD1) ?_
        have e : (List.replicate xs.length true).all id = true := by rw [List.all_eq_true]; intro b hb; rw [List.eq_of_mem_replicate hb]; rfl
        rw [e]
        exact q _ s1
    · refine r_isiT (T := "tuple") false true (tyT (by walk_at "hp")) upd_same (by decide +kernel) (by decide +kernel) ?_
      walk_at "go"
      refine iteT ?_
      walk_at "go"
      refine r_isi (T := "tuple") false (tyT (by walk_at "hp")) (by decide +kernel) ?_
      walk_at "go"
      refine r_isi (T := "tuple") false (tyT (by walk_at "hp")) (by decide +kernel) ?_
      walk_at "go"
      refine ite_ndF rfl ?_
      walk_at "go"
      refine r_isi (T := "tuple") true (tyT (by walk_at "hp")) (by decide +kernel) ?_
      walk_at "go"
      refine r_isi (T := "tuple") true (tyT (by walk_at "hp")) (by decide +kernel) ?_
      walk_at "go"
      refine ite_ndF rfl ?_
      walk_at "go"
      refine ⟨_, xs.length, rfl, Or.inr ⟨xs, by walk_at "sq", rfl⟩, ?_⟩
      walk_at "go"
      refine ⟨_, ys.length, rfl, Or.inr ⟨ys, by walk_at "sq", rfl⟩, ?_⟩
      walk_at "go"
      refine ite_dT (by rw [hl]) ?_
      walk_at "go"
      refine ⟨a, b, xs, ys, rfl, Or.inr ⟨by walk_at "sq", by walk_at "sq", ?_⟩⟩
      intro D hD
      have hD0 : H D = none := by rw [upd_ne (by intro z; rw [z, upd_same] at hD; cases hD)] at hD; exact hD
      refine lc_it (walk_zipT (xs := xs) (ys := ys) (n := xs.length) rfl hl) (fun i H' => H' D = some (.lst ((List.replicate i true).map V.bl)) ∧ Same H H') ?_ ?_ ?_ ?_
      · exact ⟨upd_same, fun c o e => by walk_at "hp"⟩
      · rintro i H1 _ ⟨_, s1⟩
        exact ⟨SqT.of (s1 _ _ ha), SqT.of (s1 _ _ hb)⟩
      · rintro i _ H1 _ hi ⟨hD1, s1⟩ ⟨t, u, v, rfl, ht, rfl, hu, hv⟩
        walk_at "go"
        refine ⟨rfl, r_yes (iteT ?_)⟩
        walk_at "go"
        refine ⟨u, v, rfl, (hs i u v hu hv).same (fun c o e => by walk_at "hp"), fun H2 s2 => ?_⟩
        have hD2 : H2 D = some (.lst ((List.replicate i true).map V.bl)) := by walk_at "hp"
        refine ⟨_, hD2, szl (by rw [List.length_map, List.length_replicate]; exact Nat.lt_of_lt_of_le hi (by omega)), ?_, fun c o e => ?_⟩
        · rw [List.replicate_succ', List.map_append]
          exact upd_same
        · have n1 : c ≠ D := ne_of_none e hD0
          walk_at "hp"
      · rintro H1 ⟨hD1, s1⟩
        walk_at "go"
        refine r_all (SqL.of hD1) ?_
        have e : (List.replicate xs.length true).all id = true := by rw [List.all_eq_true]; intro b hb; rw [List.eq_of_mem_replicate hb]; rfl
        rw [e]
        exact q _ s1

end
end My

--T /opt/kit/linked/4bf7bf6c73b87d88f1ba1c555b42b7c50cec9cc5/law_k05_how_often_and_what_is_left/T.py
namespace My
open PySem L2
local macro_rules | `(tactic| walk_at "bx1") => `(tactic| first | with_reducible assumption | ((with_reducible refine' Bx.upd ?h1 ?h2); (case h1 => walk_at "bx1"); (case h2 => walk_at "ne")) | ((with_reducible refine' Bx.same ?h1 (by with_reducible assumption)); (case h1 => walk_at "bx1")))
local macro_rules | `(tactic| walk_at "bx") => `(tactic| (refine' Bx.mono ?h1 ?h2; (case h1 => walk_at "bx1"); (case h2 => omega)))
local macro_rules | `(tactic| walk_at "ne") => `(tactic| first | with_reducible assumption | exact Ne.symm (by with_reducible assumption) | ((with_reducible refine' ne_of_none ?h1 (by with_reducible assumption)); (case h1 => walk_at "hp")) | ((with_reducible refine' Ne.symm (ne_of_none ?h1 (by with_reducible assumption))); (case h1 => walk_at "hp")) | ((with_reducible refine' Bx.ne ?h1 (by with_reducible assumption)); (case h1 => walk_at "bx1")) | ((with_reducible refine' Ne.symm (Bx.ne ?h1 (by with_reducible assumption))); (case h1 => walk_at "bx1")))
local macro_rules | `(tactic| walk_at "hp") => `(tactic| first | with_reducible assumption | ((with_reducible refine' (upd_same.trans ?h1)); (case h1 => rfl)) | ((with_reducible refine' My.upd_at ?h1 ?h2); (case h1 => walk_at "hp"); (case h2 => walk_at "ne")) | ((with_reducible refine' My.Kp.at (by with_reducible assumption) ?h1 ?h2); (case h1 => walk_at "hp"); (case h2 => walk_at "ne")) | ((with_reducible refine' My.Same.at (by with_reducible assumption) ?h1); (case h1 => walk_at "hp")))
local macro_rules | `(tactic| walk_at "sq") => `(tactic| first | with_reducible assumption | exact SqL.of (by walk_at "hp") | exact SqT.of (by walk_at "hp") | ((with_reducible refine' My.SqT.upd ?h1 (by with_reducible assumption)); (case h1 => walk_at "sq")) | ((with_reducible refine' My.SqL.upd ?h1 (by with_reducible assumption)); (case h1 => walk_at "sq")) | ((with_reducible refine' Same.seq (by with_reducible assumption) ?h1); (case h1 => walk_at "sq")) | ((with_reducible refine' My.SqT.same ?h1 (by with_reducible assumption)); (case h1 => walk_at "sq")) | ((with_reducible refine' My.SqT.kp ?h1 (by with_reducible assumption) ?h2); (case h1 => walk_at "sq"); (case h2 => walk_at "bx1")) | ((with_reducible refine' My.SqL.kp ?h1 (by with_reducible assumption) ?h2); (case h1 => walk_at "sq"); (case h2 => walk_at "ne")))
local macro_rules | `(tactic| walk_at "sd") => `(tactic| first | assumption | omega | decide | (refine ⟨?_, ?_⟩ <;> (first | omega | decide)) | (refine Or.inl ⟨?_, ?_⟩ <;> (first | omega | decide)) | (refine Or.inr ⟨?_, ?_⟩ <;> (first | omega | decide)) | (refine ⟨?_, ?_, ?_⟩ <;> (first | omega | decide)))
local macro_rules | `(tactic| walk_at "ps") => `(tactic| first
  | with_reducible refine r_seq ?_ | with_reducible refine r_asg ?_ | with_reducible refine r_op ?_ | with_reducible refine r_cons ?_ | with_reducible refine r_nil ?_ | with_reducible refine r_c ?_
  | with_reducible refine' r_var rfl ?_ | with_reducible refine r_gname ?_ | with_reducible refine r_cb ?_ | with_reducible refine r_I0 ?_ | with_reducible refine r_ret ?_ | with_reducible refine r_ifS ?_ | with_reducible refine r_test ?_ | with_reducible refine r_B ?_
  | with_reducible refine r_next ?_ | with_reducible refine r_drop ?_ | with_reducible refine r_if ?_ | with_reducible refine r_un ?_ | with_reducible refine r_U ?_ | with_reducible refine r_gsub ?_ | with_reducible refine r_tup ?_ | with_reducible refine r_lst ?_ | with_reducible refine r_bm ?_
  | with_reducible refine r_cal ?_ | with_reducible refine r_not ?_ | with_reducible refine r_and ?_ | with_reducible refine r_or ?_ | with_reducible refine r_andV ?_ | with_reducible refine r_orV ?_ | with_reducible refine r_notV ?_
  | with_reducible refine r_abs ?_ | with_reducible refine r_intI ?_ | with_reducible refine r_intB ?_ | with_reducible refine r_m1 ?_ | with_reducible refine r_slice ?_ | with_reducible refine r_part ?_ | with_reducible refine r_nopart ?_
  | with_reducible refine r_gcons ?_ | with_reducible refine r_gnil ?_
  | with_reducible refine r_par ?_ | with_reducible refine r_par3 ?_ | with_reducible refine r_ex2 ?_ | with_reducible refine r_ex3 ?_
  | with_reducible refine r_isN ?_ | with_reducible refine r_notN ?_
  | with_reducible refine r_iZipA ?_
  | with_reducible refine r_dget ?_ | with_reducible refine r_dget2 ?_ | with_reducible refine r_iKeys ?_ | with_reducible refine r_dput ?_
  | with_reducible refine r_for ?_ | with_reducible refine r_lc ?_ | with_reducible refine r_iList ?_ | with_reducible refine r_iTup ?_ | with_reducible refine r_iRng1 ?_ | with_reducible refine r_iEnum ?_ | with_reducible refine r_orT ?_ | with_reducible refine r_yes ?_ | with_reducible refine r_ixSl ?_)
local macro_rules | `(tactic| walk_at "st") => `(tactic| first
  | walk_at "ps"
  | ((with_reducible refine' r_ixL ?h1 ?h2 ?_); (case h1 => walk_at "sq"); (case h2 => rfl))
  | ((with_reducible refine' r_setL ?h1 ?h2 ?_); (case h1 => walk_at "hp"); (case h2 => rfl))
  | ((with_reducible refine' r_I ?h1 ?_); (case h1 => walk_at "sd"))
  | ((with_reducible refine' r_eq ?h1 ?_); (case h1 => rfl)) | ((with_reducible refine' r_ne ?h1 ?_); (case h1 => rfl))
  | ((with_reducible refine' r_lenL ?h1 ?_); (case h1 => walk_at "sq")) | ((with_reducible refine' r_lenT ?h1 ?_); (case h1 => walk_at "sq")) | ((with_reducible refine' r_lenD ?h1 ?_); (case h1 => walk_at "hp"))
  | ((with_reducible refine' r_slL ?h1 ?_); (case h1 => walk_at "sq"); intro _ _)
  | ((with_reducible refine' r_append ?h1 ?h2 ?_); (case h1 => walk_at "hp"); (case h2 => exact szl (by first | omega | (simp; omega))))
  | ((with_reducible refine' r_gtup ?h1 ?h2 ?_); (case h1 => walk_at "sq"); (case h2 => rfl))
  | ((with_reducible refine' r_cat ?h1 ?h2 ?h3 ?_); (case h1 => walk_at "hp"); (case h2 => walk_at "hp"); (case h3 => exact sz (by first | omega | (simp; omega))); intro _ _)
  | ((with_reducible refine' r_wLst ?h1 ?_); (case h1 => walk_at "sq")) | ((with_reducible refine' r_wTup ?h1 ?_); (case h1 => walk_at "sq"))
  | ((with_reducible refine' r_wRng ?h1 ?_); (case h1 => walk_at "sd"))
  | ((with_reducible refine' r_truL ?h1 ?_); (case h1 => walk_at "sq"))
  | ((with_reducible refine' r_list (Or.inl ?h1) ?_); (case h1 => walk_at "sq"); intro _ _) | ((with_reducible refine' r_list (Or.inr ?h1) ?_); (case h1 => walk_at "sq"); intro _ _)
  | ((with_reducible refine' r_tupL ?h1 ?_); (case h1 => walk_at "sq"); intro _ _) | ((with_reducible refine' r_tupT ?h1 ?_); (case h1 => walk_at "sq"))
  | ((with_reducible refine' r_disp ?h1 ?_); (case h1 => exact Nat.le_of_ble_eq_true rfl); intro _ _)
  | ((with_reducible refine r_dnewK ?_); intro _ _)
  | ((with_reducible refine' r_tyL ?h1 ?_); (case h1 => walk_at "sq")) | with_reducible refine r_strV ?_
  | with_reducible refine r_exb ?_ | with_reducible refine r_exi ?_ | with_reducible refine r_exr ?_ | with_reducible refine r_exs ?_ | with_reducible refine r_exli ?_)
local macro_rules | `(tactic| walk_at "go") => `(tactic| repeat walk_at "st")
local macro_rules | `(tactic| walk_at "in") => `(tactic| dsimp only [noxK, cxK, L2.start, List.map_cons, List.map_nil, List.length_cons, List.length_nil, Nat.reduceAdd, Nat.reduceSub, List.replicate, List.cons_append, List.nil_append])

section
variable {P : Program} {w : World} {K : PySem.W.Frag} {mg : Str → Option Value} {base : Heap}
abbrev sRising : Stmt := top 21
theorem scRising : FnScope ["_law_rows_so", "_law_done", "_law_row", "_law_at_so", "_law_own"] ["_law_rows_so"] (defScope sRising) := ⟨rfl, rfl, rfl, by decide +kernel, rfl, by decide +kernel, by decide +kernel⟩
def spRising (K : PySem.W.Frag) : Sp := fun vs H Q _ => ∃ (l : Addr) (xs : List V) (ps : AL), vs = [.ref l] ∧ SqL K H l xs ∧ Paired (PrA H) xs ps ∧ xs.length ≤ 1000 ∧
  ∀ (p : Addr) (ys : List V) (qs : AL) (H' : Hp), H p = none → H' p = some (.lst ys) → Paired (PrA H') ys qs → qs.Perm ps → qs.Pairwise (fun a b => ple a b = true) → Same H H' → Q (.ref p) H'
theorem ok_rising {f : Addr} {fd : FuncData} (F : Fun K "_law_rising" "_law_rising" sRising f fd) (T : Txt K mg) : FnOk P w K mg base CX0 1 f fd ["_law_rows_so"] (spRising K) := by
  refine F.ok scRising (fun vs H Q E h => ?_) (fun cdv A outer s H vs Q E hr h => ?_)
  · obtain ⟨l, xs, ps, rfl, _⟩ := h
    rfl
  · obtain ⟨l, xs, ps, rfl, hl, hps, h1000, q⟩ := h
    refine ⟨_, (pss_cons (ps_set (i := 1) scRising.nd rfl (Or.inl rfl) (pe_lst pa_nil))
  (pss_cons (ps_for PassesOwn.never rfl (pi_list (pv 0)) (pg_name (i := 2) scRising.nd rfl (Or.inr rfl))
  (Evl.pss_cut (ps_set (i := 3) scRising.nd rfl (Or.inl rfl) (pe_callB c_lenL (by rfl) T.len (by decide +kernel) (pa_cons (pe_lc (own := [("_law_own", 4)]) (g := gName 4) rfl scRising.nd (pi_list (pv 1)) (blkOk_by (N := ["_law_rows_so", "_law_done", "_law_row", "_law_at_so", "_law_own"]) (sc := defScope sRising) (by decide +kernel)) (fun _ _ _ _ _ => (pg_name (i := 4) scRising.nd rfl (Or.inl rfl))) (fun _ _ _ _ _ => (pts_one (pt_cmpR (opK (r := rLeP) K (o_leP hr.units0)) (pv 4) (pv 2) (nomark _)))) (fun _ _ _ _ _ => pe_int)) pa_nil)))
  (pss_one (ps_set (i := 1) scRising.nd rfl (Or.inl rfl) (pe_op op_cat (pe_op op_cat (pe_slice sl_list (pv 1) po_none (po_some (pv 3))) (pe_lst (pa_cons (pv 2) pa_nil))) (pe_slice sl_list (pv 1) (po_some (pv 3)) po_none))))))
  (pss_one (ps_ret (pv 1))))), ?_⟩
    walk_at "in"
    walk_at "go"
    rename_i d0 hd0
    have lps := Paired.len hps
    refine for_it (walk_list (xs := xs)) (fun i σ H' => ∃ (d : Addr) (ds : List V) (qs : AL) (x2 x3 : Option V), σ = [some (.ref l), some (.ref d), x2, x3, none] ∧ H d = none ∧ H' d = some (.lst ds) ∧ Paired (PrA H') ds qs ∧ qs.Perm (ps.take i) ∧ qs.Pairwise (fun a b => ple a b = true) ∧ Same H H') ?_ ?_ ?_ ?_
    · exact ⟨d0, [], [], none, none, rfl, hd0, upd_same, .nil, List.Perm.refl _, List.Pairwise.nil, fun c o e => by walk_at "hp"⟩
    · rintro i σ H' _ ⟨_, _, _, _, _, _, _, _, _, _, _, s1⟩
      exact s1.seq hl
    · rintro i x σ _ H1 hi ⟨d, ds, qs, x2, x3, rfl, hd, hd1, hds, pm, pw, s1⟩ ⟨rfl, hx⟩
      obtain ⟨p, hp, hxp⟩ := Paired.at hps hx
      have lds : ds.length ≤ 1000 := by have := Paired.len hds; have := pm.length_eq; rw [List.length_take] at this; omega
      walk_at "go"
      refine ⟨fun σ' H' => σ' = [some (.ref l), some (.ref d), some x, some (.int (cnt ple qs p : Nat)), none] ∧ H' d = some (.lst ds) ∧ Same H1 H', ?_, ?_⟩
      · walk_at "go"
        intro D hD
        refine lc_it (walk_list (xs := ds)) (fun j H' => H' D = some (.lst (List.replicate (((qs.take j).filter fun q => ple q p).length) (V.int 1))) ∧ H' d = some (.lst ds) ∧ Same H1 H') ?_ ?_ ?_ ?_
        · exact ⟨upd_same, by walk_at "hp", fun c o e => by walk_at "hp"⟩
        · rintro j H' _ ⟨_, h, _⟩
          exact SqL.of h
        · rintro j y _ H2 hj ⟨hD2, hd2, s2⟩ ⟨rfl, hy⟩
          obtain ⟨r, hr2, hyr⟩ := Paired.at hds hy
          obtain ⟨t1, rfl, ht1⟩ := hxp
          obtain ⟨t2, rfl, ht2⟩ := hyr
          walk_at "go"
          refine ⟨rfl, ?_⟩
          walk_at "go"
          refine r_leP (p := r) (q := p) (SqT.of (s2 _ _ ht2)) (SqT.of (s2 _ _ (s1 _ _ ht1))) ?_
          walk_at "go"
          have ef := filter_take (f := fun q => ple q p) hr2
          cases hc : ple r p with
          | true =>
            rw [hc, if_pos rfl] at ef
            refine iteT ?_
            walk_at "go"
            refine ⟨_, hD2, szl (by rw [List.length_replicate]; have := List.length_filter_le (fun q => ple q p) (qs.take j); rw [List.length_take] at this; omega), ?_, ?_, fun c o e => ?_⟩
            · rw [ef, List.replicate_succ']
              exact upd_same
            · have n1 : d ≠ D := ne_of_none hd1 hD
              walk_at "hp"
            · have n1 : c ≠ D := ne_of_none e hD
              walk_at "hp"
          | false =>
            rw [hc, if_neg (by decide)] at ef
            refine iteF ?_
            rw [ef]
            exact ⟨hD2, hd2, s2⟩
        · rintro H2 ⟨hD2, hd2, s2⟩
          walk_at "go"
          have e1 : qs.take ds.length = qs := by rw [Paired.len hds, List.take_length]
          rw [List.length_replicate, e1]
          exact ⟨rfl, hd2, s2⟩
      · rintro σ2 H2 ⟨rfl, hd2, s2⟩
        have hc := cnt_le ple qs p
        have lq := Paired.len hds
        obtain ⟨t1, rfl, ht1⟩ := hxp
        generalize hcn : cnt ple qs p = c at hc
        walk_at "go"
        rename_i p1 hp1 p2 hp2
        have e1 : cutV ds none (some (c : Int)) = ds.take c := cutV_to ds c
        have e2 : cutV ds (some (c : Int)) none = ds.drop c := cutV_from ds c
        rw [e1] at hp2 ⊢
        refine r_cat (by walk_at "hp") (by walk_at "hp") (sz (by rw [List.length_take]; show _ + 1 ≤ _; omega)) fun p3 hp3 => ?_
        walk_at "go"
        rename_i p4 hp4
        rw [e2] at ⊢
        refine r_cat (by walk_at "hp") (by walk_at "hp") (sz (by rw [List.length_append, List.length_take, List.length_drop]; show _ + 1 + _ ≤ _; omega)) fun p5 hp5 => ?_
        have s3 : Same H1 (upd (upd (upd (upd (upd H2 p1 (.lst (ds.take c))) p2 (.lst [V.ref t1])) p3 (.lst (ds.take c ++ [V.ref t1]))) p4 (.lst (ds.drop c))) p5 (.lst (ds.take c ++ [V.ref t1] ++ ds.drop c))) := fun c o e => by walk_at "hp"
        obtain ⟨i1, _, _⟩ := put_rising ple_total (fun {p q r} => ple_trans) p pw
        rw [hcn] at i1
        refine ⟨p5, ds.take c ++ [V.ref t1] ++ ds.drop c, qs.take c ++ [p] ++ qs.drop c, _, _, rfl, ?_, upd_same, ?_, ?_, i1, s1.trans s3⟩
        · exact s1.free (Same.free (fun c o e => by walk_at "hp") hp5)
        · exact Paired.app (Paired.app (PrA.all (Paired.tk c hds) s3) (.cons ⟨t1, rfl, s3 _ _ (s1 _ _ ht1)⟩ .nil)) (PrA.all (Paired.dr c hds) s3)
        · refine (perm_in qs p c).trans ?_
          rw [List.take_add_one, hp]
          exact List.Perm.append_right _ pm
    · rintro σ H1 ⟨d, ds, qs, x2, x3, rfl, hd, hd1, hds, pm, pw, s1⟩
      walk_at "go"
      refine q d ds qs H1 hd hd1 hds ?_ pw s1
      rw [lps, List.take_length] at pm
      exact pm
end
end My

--T /opt/kit/linked/4bf7bf6c73b87d88f1ba1c555b42b7c50cec9cc5/law_k05_how_often_and_what_is_left/T.py
namespace My
open PySem L2
local macro_rules | `(tactic| walk_at "bx1") => `(tactic| first | with_reducible assumption | ((with_reducible refine' Bx.upd ?h1 ?h2); (case h1 => walk_at "bx1"); (case h2 => walk_at "ne")) | ((with_reducible refine' Bx.same ?h1 (by with_reducible assumption)); (case h1 => walk_at "bx1")))
local macro_rules | `(tactic| walk_at "bx") => `(tactic| (refine' Bx.mono ?h1 ?h2; (case h1 => walk_at "bx1"); (case h2 => omega)))
local macro_rules | `(tactic| walk_at "ne") => `(tactic| first | with_reducible assumption | exact Ne.symm (by with_reducible assumption) | ((with_reducible refine' ne_of_none ?h1 (by with_reducible assumption)); (case h1 => walk_at "hp")) | ((with_reducible refine' Ne.symm (ne_of_none ?h1 (by with_reducible assumption))); (case h1 => walk_at "hp")) | ((with_reducible refine' Bx.ne ?h1 (by with_reducible assumption)); (case h1 => walk_at "bx1")) | ((with_reducible refine' Ne.symm (Bx.ne ?h1 (by with_reducible assumption))); (case h1 => walk_at "bx1")))
local macro_rules | `(tactic| walk_at "hp") => `(tactic| first | with_reducible assumption | ((with_reducible refine' (upd_same.trans ?h1)); (case h1 => rfl)) | ((with_reducible refine' My.upd_at ?h1 ?h2); (case h1 => walk_at "hp"); (case h2 => walk_at "ne")) | ((with_reducible refine' My.Kp.at (by with_reducible assumption) ?h1 ?h2); (case h1 => walk_at "hp"); (case h2 => walk_at "ne")) | ((with_reducible refine' My.Same.at (by with_reducible assumption) ?h1); (case h1 => walk_at "hp")))
local macro_rules | `(tactic| walk_at "sq") => `(tactic| first | with_reducible assumption | exact SqL.of (by walk_at "hp") | exact SqT.of (by walk_at "hp") | ((with_reducible refine' My.SqT.upd ?h1 (by with_reducible assumption)); (case h1 => walk_at "sq")) | ((with_reducible refine' My.SqL.upd ?h1 (by with_reducible assumption)); (case h1 => walk_at "sq")) | ((with_reducible refine' Same.seq (by with_reducible assumption) ?h1); (case h1 => walk_at "sq")) | ((with_reducible refine' My.SqT.same ?h1 (by with_reducible assumption)); (case h1 => walk_at "sq")) | ((with_reducible refine' My.SqT.kp ?h1 (by with_reducible assumption) ?h2); (case h1 => walk_at "sq"); (case h2 => walk_at "bx1")) | ((with_reducible refine' My.SqL.kp ?h1 (by with_reducible assumption) ?h2); (case h1 => walk_at "sq"); (case h2 => walk_at "ne")))
local macro_rules | `(tactic| walk_at "sd") => `(tactic| first | assumption | omega | decide | (refine ⟨?_, ?_⟩ <;> (first | omega | decide)) | (refine Or.inl ⟨?_, ?_⟩ <;> (first | omega | decide)) | (refine Or.inr ⟨?_, ?_⟩ <;> (first | omega | decide)) | (refine ⟨?_, ?_, ?_⟩ <;> (first | omega | decide)))
local macro_rules | `(tactic| walk_at "ps") => `(tactic| first
  | with_reducible refine r_seq ?_ | with_reducible refine r_asg ?_ | with_reducible refine r_op ?_ | with_reducible refine r_cons ?_ | with_reducible refine r_nil ?_ | with_reducible refine r_c ?_
  | with_reducible refine' r_var rfl ?_ | with_reducible refine r_gname ?_ | with_reducible refine r_cb ?_ | with_reducible refine r_I0 ?_ | with_reducible refine r_ret ?_ | with_reducible refine r_ifS ?_ | with_reducible refine r_test ?_ | with_reducible refine r_B ?_
  | with_reducible refine r_next ?_ | with_reducible refine r_drop ?_ | with_reducible refine r_if ?_ | with_reducible refine r_un ?_ | with_reducible refine r_U ?_ | with_reducible refine r_gsub ?_ | with_reducible refine r_tup ?_ | with_reducible refine r_lst ?_ | with_reducible refine r_bm ?_
  | with_reducible refine r_cal ?_ | with_reducible refine r_not ?_ | with_reducible refine r_and ?_ | with_reducible refine r_or ?_ | with_reducible refine r_andV ?_ | with_reducible refine r_orV ?_ | with_reducible refine r_notV ?_
  | with_reducible refine r_abs ?_ | with_reducible refine r_intI ?_ | with_reducible refine r_intB ?_ | with_reducible refine r_m1 ?_ | with_reducible refine r_slice ?_ | with_reducible refine r_part ?_ | with_reducible refine r_nopart ?_
  | with_reducible refine r_gcons ?_ | with_reducible refine r_gnil ?_
  | with_reducible refine r_par ?_ | with_reducible refine r_par3 ?_ | with_reducible refine r_ex2 ?_ | with_reducible refine r_ex3 ?_
  | with_reducible refine r_isN ?_ | with_reducible refine r_notN ?_
  | with_reducible refine r_iZipA ?_
  | with_reducible refine r_dget ?_ | with_reducible refine r_dget2 ?_ | with_reducible refine r_iKeys ?_ | with_reducible refine r_dput ?_
  | with_reducible refine r_for ?_ | with_reducible refine r_lc ?_ | with_reducible refine r_iList ?_ | with_reducible refine r_iTup ?_ | with_reducible refine r_iRng1 ?_ | with_reducible refine r_iEnum ?_ | with_reducible refine r_orT ?_ | with_reducible refine r_yes ?_ | with_reducible refine r_ixSl ?_)
local macro_rules | `(tactic| walk_at "st") => `(tactic| first
  | walk_at "ps"
  | ((with_reducible refine' r_ixL ?h1 ?h2 ?_); (case h1 => walk_at "sq"); (case h2 => rfl))
  | ((with_reducible refine' r_setL ?h1 ?h2 ?_); (case h1 => walk_at "hp"); (case h2 => rfl))
  | ((with_reducible refine' r_I ?h1 ?_); (case h1 => walk_at "sd"))
  | ((with_reducible refine' r_eq ?h1 ?_); (case h1 => rfl)) | ((with_reducible refine' r_ne ?h1 ?_); (case h1 => rfl))
  | ((with_reducible refine' r_lenL ?h1 ?_); (case h1 => walk_at "sq")) | ((with_reducible refine' r_lenT ?h1 ?_); (case h1 => walk_at "sq")) | ((with_reducible refine' r_lenD ?h1 ?_); (case h1 => walk_at "hp"))
  | ((with_reducible refine' r_slL ?h1 ?_); (case h1 => walk_at "sq"); intro _ _)
  | ((with_reducible refine' r_append ?h1 ?h2 ?_); (case h1 => walk_at "hp"); (case h2 => exact szl (by first | omega | (simp; omega))))
  | ((with_reducible refine' r_gtup ?h1 ?h2 ?_); (case h1 => walk_at "sq"); (case h2 => rfl))
  | ((with_reducible refine' r_cat ?h1 ?h2 ?h3 ?_); (case h1 => walk_at "hp"); (case h2 => walk_at "hp"); (case h3 => exact sz (by first | omega | (simp; omega))); intro _ _)
  | ((with_reducible refine' r_wLst ?h1 ?_); (case h1 => walk_at "sq")) | ((with_reducible refine' r_wTup ?h1 ?_); (case h1 => walk_at "sq"))
  | ((with_reducible refine' r_wRng ?h1 ?_); (case h1 => walk_at "sd"))
  | ((with_reducible refine' r_truL ?h1 ?_); (case h1 => walk_at "sq"))
  | ((with_reducible refine' r_list (Or.inl ?h1) ?_); (case h1 => walk_at "sq"); intro _ _) | ((with_reducible refine' r_list (Or.inr ?h1) ?_); (case h1 => walk_at "sq"); intro _ _)
  | ((with_reducible refine' r_tupL ?h1 ?_); (case h1 => walk_at "sq"); intro _ _) | ((with_reducible refine' r_tupT ?h1 ?_); (case h1 => walk_at "sq"))
  | ((with_reducible refine' r_disp ?h1 ?_); (case h1 => exact Nat.le_of_ble_eq_true rfl); intro _ _)
  | ((with_reducible refine r_dnewK ?_); intro _ _)
  | ((with_reducible refine' r_tyL ?h1 ?_); (case h1 => walk_at "sq")) | with_reducible refine r_strV ?_
  | with_reducible refine r_exb ?_ | with_reducible refine r_exi ?_ | with_reducible refine r_exr ?_ | with_reducible refine r_exs ?_ | with_reducible refine r_exli ?_)
local macro_rules | `(tactic| walk_at "go") => `(tactic| repeat walk_at "st")
local macro_rules | `(tactic| walk_at "in") => `(tactic| dsimp only [noxK, cxK, L2.start, List.map_cons, List.map_nil, List.length_cons, List.length_nil, Nat.reduceAdd, Nat.reduceSub, List.replicate, List.cons_append, List.nil_append])

section
variable {P : Program} {w : World} {K : PySem.W.Frag} {mg : Str → Option Value} {base : Heap}
abbrev sPairs : Stmt := top 24
theorem scPairs : FnScope ["_law_numbers_so", "_law_done", "_law_own"] ["_law_numbers_so"] (defScope sPairs) := ⟨rfl, rfl, rfl, by decide +kernel, rfl, by decide +kernel, by decide +kernel⟩
def spPairs : Sp := fun vs H Q _ => ∃ (d : Addr) (m : AL), vs = [.ref d] ∧ H d = some (.dK (enc m)) ∧ (keys m).Nodup ∧ m.length ≤ 1000 ∧
  ∀ (p : Addr) (ts : List V) (qs : AL) (H' : Hp), H p = none → H' p = some (.tup ts) → Paired (PrA H') ts qs → Cn m qs → Same H H' → Q (.ref p) H'
theorem ok_pairs {f : Addr} {fd : FuncData} (F : Fun K "_law_pairs" "_law_pairs" sPairs f fd) (T : Txt K mg) (Cr : Cal P w K mg base CX0 1 "_law_rising" ["_law_rows_so"] (spRising K)) : FnOk P w K mg base CX0 2 f fd ["_law_numbers_so"] spPairs := by
  refine F.ok scPairs (fun vs H Q E h => ?_) (fun cdv A outer s H vs Q E hr h => ?_)
  · obtain ⟨d, m, rfl, _⟩ := h
    rfl
  · obtain ⟨d, m, rfl, hd, nd, h1000, q⟩ := h
    have hu := hu_of hr
    refine ⟨_, (Evl.pss_cut (ps_lock (ps_setLc (i := 1) (own := [("_law_own", 2)]) (g := gName 2) rfl scPairs.nd rfl rfl (sw_true rfl rfl rfl (by decide +kernel)) (pi_keys (pv 0)) (blkOk_by (N := ["_law_numbers_so", "_law_done", "_law_own"]) (sc := defScope sPairs) (by decide +kernel)) (fun _ _ _ _ _ => (pg_name (i := 2) scPairs.nd rfl (Or.inl rfl))) (fun _ _ _ _ _ => (pts_one (pt_cmpR op_gt (pe_dget hu (pv 0) (pv 2) (fun _ _ => rfl)) pe_int (nomark _)))) (fun _ _ _ _ _ => (pe_tup (pa_cons (pv 2) (pa_cons (pe_dget hu (pv 0) (pv 2) (fun _ _ => rfl)) pa_nil))))))
  (pss_one (ps_ret (pe_callTy c_tupL (by rfl) T.tuple (by decide +kernel) (pa_cons (pe_cal Cr hr pass0 (pa_cons (pv 1) pa_nil)) pa_nil))))), ?_⟩
    walk_at "in"
    refine ⟨fun σ' H' => ∃ (D : Addr) (xs : List V), σ' = [some (.ref d), some (.ref D), none] ∧ H D = none ∧ H' D = some (.lst xs) ∧ Paired (PrA H') xs (pos m) ∧ Same H H', ?_, ?_⟩
    · refine r_lock hd trivial fun od => ?_
      walk_at "go"
      refine ⟨d, od, rfl, Or.inl ⟨enc m, upd_same, ?_⟩⟩
      intro D hD
      have nDd : D ≠ d := fun z => by rw [z, upd_same] at hD; cases hD
      have hD0 : H D = none := by rw [upd_ne nDd] at hD; exact hD
      refine lc_it (walk_keys (kvs := enc m)) (fun i H' => ∃ xs, H' D = some (.lst xs) ∧ Paired (PrA H') xs (pos (m.take i)) ∧ H' d = some (.frz od (.dK (enc m))) ∧ Kp d H H') ?_ ?_ ?_ ?_
      · exact ⟨[], upd_same, .nil, by walk_at "hp", fun c o e n => by walk_at "hp"⟩
      · rintro i H' _ ⟨_, _, _, h, _⟩
        exact h
      · rintro i x _ H1 hi ⟨xs, hD1, hxs, hd1, kp1⟩ ⟨rfl, k, v, hkv, rfl⟩
        obtain ⟨p, hp, rfl, rfl⟩ := enc_at hkv
        walk_at "go"
        refine ⟨rfl, ?_⟩
        walk_at "go"
        have hg : DGet H1 d (.str p.1) (some (.int p.2)) := DGet_enc (r := some p.2) (Or.inr ⟨od, hd1⟩) (look_at nd hp)
        refine ⟨d, .int p.2, rfl, hg, ?_⟩
        walk_at "go"
        have ep := pos_take hp
        refine ite_d (fun c => ?_) (fun c => ?_)
        · rw [if_pos c] at ep
          walk_at "go"
          refine ⟨d, .int p.2, rfl, hg, ?_⟩
          walk_at "go"
          rename_i t ht
          have n1 : D ≠ t := ne_of_none hD1 ht
          have n2 : d ≠ t := ne_of_none hd1 ht
          have n3 : d ≠ D := Ne.symm nDd
          have k2 : Kp D H1 (upd (upd H1 t (.tup [V.str p.1, V.int p.2])) D (.lst (xs ++ [V.ref t]))) := fun c o e n => by walk_at "hp"
          refine ⟨xs, by walk_at "hp", szl (by have := Paired.len hxs; have h2 := List.length_filter_le (fun p : Str × Int => decide (0 < p.2)) (m.take i); have h3 : xs.length ≤ (m.take i).length := Nat.le_trans (Nat.le_of_eq this) h2; rw [List.length_take] at h3; omega), xs ++ [V.ref t], upd_same, ?_, by walk_at "hp", fun c o e n => ?_⟩
          · rw [ep]
            exact Paired.app (PrA.kpdAll hxs k2 hD1 (fun _ z => by cases z)) (.cons ⟨t, rfl, by walk_at "hp"⟩ .nil)
          · have n4 : c ≠ D := ne_of_none e hD0
            walk_at "hp"
        · rw [if_neg c, List.append_nil] at ep
          rw [ep]
          exact ⟨xs, hD1, hxs, hd1, kp1⟩
      · rintro H1 ⟨xs, hD1, hxs, hd1, kp1⟩
        walk_at "go"
        have k2 : Kp d H1 (upd H1 d (.dK (enc m))) := fun c o e n => by walk_at "hp"
        rw [enc_len, List.take_length] at hxs
        refine ⟨hd1, D, xs, rfl, hD0, by walk_at "hp", PrA.kpdAll hxs k2 hd1 (fun _ z => by cases z), fun c o e => ?_⟩
        by_cases n : c = d
        · subst n
          rw [hd] at e
          rw [← Option.some.inj e]
          exact upd_same
        · walk_at "hp"
    · rintro σ1 H1 ⟨D, xs, rfl, hD, hD1, hxs, s1⟩
      walk_at "go"
      refine ⟨D, xs, pos m, rfl, SqL.of hD1, hxs, by rw [Paired.len hxs]; have := List.length_filter_le (fun p : Str × Int => decide (0 < p.2)) m; exact Nat.le_trans this h1000, fun l ys qs H2 hl hl2 hys pm pw s2 => ?_⟩
      walk_at "go"
      rename_i t ht
      have s3 : Same H2 (upd H2 t (.tup ys)) := fun c o e => by walk_at "hp"
      exact q t ys qs _ (s1.free (s2.free ht)) upd_same (PrA.all hys s3) ⟨pm, pw⟩ ((s1.trans s2).trans s3)
end
end My

--T /opt/kit/linked/4bf7bf6c73b87d88f1ba1c555b42b7c50cec9cc5/law_k05_how_often_and_what_is_left/T.py
namespace My
open PySem L2
local macro_rules | `(tactic| walk_at "bx1") => `(tactic| first | with_reducible assumption | ((with_reducible refine' Bx.upd ?h1 ?h2); (case h1 => walk_at "bx1"); (case h2 => walk_at "ne")) | ((with_reducible refine' Bx.same ?h1 (by with_reducible assumption)); (case h1 => walk_at "bx1")))
local macro_rules | `(tactic| walk_at "bx") => `(tactic| (refine' Bx.mono ?h1 ?h2; (case h1 => walk_at "bx1"); (case h2 => omega)))
local macro_rules | `(tactic| walk_at "ne") => `(tactic| first | with_reducible assumption | exact Ne.symm (by with_reducible assumption) | ((with_reducible refine' ne_of_none ?h1 (by with_reducible assumption)); (case h1 => walk_at "hp")) | ((with_reducible refine' Ne.symm (ne_of_none ?h1 (by with_reducible assumption))); (case h1 => walk_at "hp")) | ((with_reducible refine' Bx.ne ?h1 (by with_reducible assumption)); (case h1 => walk_at "bx1")) | ((with_reducible refine' Ne.symm (Bx.ne ?h1 (by with_reducible assumption))); (case h1 => walk_at "bx1")))
local macro_rules | `(tactic| walk_at "hp") => `(tactic| first | with_reducible assumption | ((with_reducible refine' (upd_same.trans ?h1)); (case h1 => rfl)) | ((with_reducible refine' My.upd_at ?h1 ?h2); (case h1 => walk_at "hp"); (case h2 => walk_at "ne")) | ((with_reducible refine' My.Kp.at (by with_reducible assumption) ?h1 ?h2); (case h1 => walk_at "hp"); (case h2 => walk_at "ne")) | ((with_reducible refine' My.Same.at (by with_reducible assumption) ?h1); (case h1 => walk_at "hp")))
local macro_rules | `(tactic| walk_at "sq") => `(tactic| first | with_reducible assumption | exact SqL.of (by walk_at "hp") | exact SqT.of (by walk_at "hp") | ((with_reducible refine' My.SqT.upd ?h1 (by with_reducible assumption)); (case h1 => walk_at "sq")) | ((with_reducible refine' My.SqL.upd ?h1 (by with_reducible assumption)); (case h1 => walk_at "sq")) | ((with_reducible refine' Same.seq (by with_reducible assumption) ?h1); (case h1 => walk_at "sq")) | ((with_reducible refine' My.SqT.same ?h1 (by with_reducible assumption)); (case h1 => walk_at "sq")) | ((with_reducible refine' My.SqT.kp ?h1 (by with_reducible assumption) ?h2); (case h1 => walk_at "sq"); (case h2 => walk_at "bx1")) | ((with_reducible refine' My.SqL.kp ?h1 (by with_reducible assumption) ?h2); (case h1 => walk_at "sq"); (case h2 => walk_at "ne")))
local macro_rules | `(tactic| walk_at "sd") => `(tactic| first | assumption | omega | decide | (refine ⟨?_, ?_⟩ <;> (first | omega | decide)) | (refine Or.inl ⟨?_, ?_⟩ <;> (first | omega | decide)) | (refine Or.inr ⟨?_, ?_⟩ <;> (first | omega | decide)) | (refine ⟨?_, ?_, ?_⟩ <;> (first | omega | decide)))
local macro_rules | `(tactic| walk_at "ps") => `(tactic| first
  | with_reducible refine r_seq ?_ | with_reducible refine r_asg ?_ | with_reducible refine r_op ?_ | with_reducible refine r_cons ?_ | with_reducible refine r_nil ?_ | with_reducible refine r_c ?_
  | with_reducible refine' r_var rfl ?_ | with_reducible refine r_gname ?_ | with_reducible refine r_cb ?_ | with_reducible refine r_I0 ?_ | with_reducible refine r_ret ?_ | with_reducible refine r_ifS ?_ | with_reducible refine r_test ?_ | with_reducible refine r_B ?_
  | with_reducible refine r_next ?_ | with_reducible refine r_drop ?_ | with_reducible refine r_if ?_ | with_reducible refine r_un ?_ | with_reducible refine r_U ?_ | with_reducible refine r_gsub ?_ | with_reducible refine r_tup ?_ | with_reducible refine r_lst ?_ | with_reducible refine r_bm ?_
  | with_reducible refine r_cal ?_ | with_reducible refine r_not ?_ | with_reducible refine r_and ?_ | with_reducible refine r_or ?_ | with_reducible refine r_andV ?_ | with_reducible refine r_orV ?_ | with_reducible refine r_notV ?_
  | with_reducible refine r_abs ?_ | with_reducible refine r_intI ?_ | with_reducible refine r_intB ?_ | with_reducible refine r_m1 ?_ | with_reducible refine r_slice ?_ | with_reducible refine r_part ?_ | with_reducible refine r_nopart ?_
  | with_reducible refine r_gcons ?_ | with_reducible refine r_gnil ?_
  | with_reducible refine r_par ?_ | with_reducible refine r_par3 ?_ | with_reducible refine r_ex2 ?_ | with_reducible refine r_ex3 ?_
  | with_reducible refine r_isN ?_ | with_reducible refine r_notN ?_
  | with_reducible refine r_iZipA ?_
  | with_reducible refine r_dget ?_ | with_reducible refine r_dget2 ?_ | with_reducible refine r_iKeys ?_ | with_reducible refine r_dput ?_
  | with_reducible refine r_for ?_ | with_reducible refine r_lc ?_ | with_reducible refine r_iList ?_ | with_reducible refine r_iTup ?_ | with_reducible refine r_iRng1 ?_ | with_reducible refine r_iEnum ?_ | with_reducible refine r_orT ?_ | with_reducible refine r_yes ?_ | with_reducible refine r_ixSl ?_)
local macro_rules | `(tactic| walk_at "st") => `(tactic| first
  | walk_at "ps"
  | ((with_reducible refine' r_ixL ?h1 ?h2 ?_); (case h1 => walk_at "sq"); (case h2 => rfl))
  | ((with_reducible refine' r_setL ?h1 ?h2 ?_); (case h1 => walk_at "hp"); (case h2 => rfl))
  | ((with_reducible refine' r_I ?h1 ?_); (case h1 => walk_at "sd"))
  | ((with_reducible refine' r_eq ?h1 ?_); (case h1 => rfl)) | ((with_reducible refine' r_ne ?h1 ?_); (case h1 => rfl))
  | ((with_reducible refine' r_lenL ?h1 ?_); (case h1 => walk_at "sq")) | ((with_reducible refine' r_lenT ?h1 ?_); (case h1 => walk_at "sq")) | ((with_reducible refine' r_lenD ?h1 ?_); (case h1 => walk_at "hp"))
  | ((with_reducible refine' r_slL ?h1 ?_); (case h1 => walk_at "sq"); intro _ _)
  | ((with_reducible refine' r_append ?h1 ?h2 ?_); (case h1 => walk_at "hp"); (case h2 => exact szl (by first | omega | (simp; omega))))
  | ((with_reducible refine' r_gtup ?h1 ?h2 ?_); (case h1 => walk_at "sq"); (case h2 => rfl))
  | ((with_reducible refine' r_cat ?h1 ?h2 ?h3 ?_); (case h1 => walk_at "hp"); (case h2 => walk_at "hp"); (case h3 => exact sz (by first | omega | (simp; omega))); intro _ _)
  | ((with_reducible refine' r_wLst ?h1 ?_); (case h1 => walk_at "sq")) | ((with_reducible refine' r_wTup ?h1 ?_); (case h1 => walk_at "sq"))
  | ((with_reducible refine' r_wRng ?h1 ?_); (case h1 => walk_at "sd"))
  | ((with_reducible refine' r_truL ?h1 ?_); (case h1 => walk_at "sq"))
  | ((with_reducible refine' r_list (Or.inl ?h1) ?_); (case h1 => walk_at "sq"); intro _ _) | ((with_reducible refine' r_list (Or.inr ?h1) ?_); (case h1 => walk_at "sq"); intro _ _)
  | ((with_reducible refine' r_tupL ?h1 ?_); (case h1 => walk_at "sq"); intro _ _) | ((with_reducible refine' r_tupT ?h1 ?_); (case h1 => walk_at "sq"))
  | ((with_reducible refine' r_disp ?h1 ?_); (case h1 => exact Nat.le_of_ble_eq_true rfl); intro _ _)
  | ((with_reducible refine r_dnewK ?_); intro _ _)
  | ((with_reducible refine' r_tyL ?h1 ?_); (case h1 => walk_at "sq")) | with_reducible refine r_strV ?_
  | with_reducible refine r_exb ?_ | with_reducible refine r_exi ?_ | with_reducible refine r_exr ?_ | with_reducible refine r_exs ?_ | with_reducible refine r_exli ?_)
local macro_rules | `(tactic| walk_at "go") => `(tactic| repeat walk_at "st")
local macro_rules | `(tactic| walk_at "in") => `(tactic| dsimp only [noxK, cxK, L2.start, List.map_cons, List.map_nil, List.length_cons, List.length_nil, Nat.reduceAdd, Nat.reduceSub, List.replicate, List.cons_append, List.nil_append])

section
variable {P : Program} {w : World} {K : PySem.W.Frag} {mg : Str → Option Value} {base : Heap}
abbrev sCounted : Stmt := top 25
theorem scCounted : FnScope ["_law_pairs_so", "_law_done", "_law_own", "_law_far"] ["_law_pairs_so"] (defScope sCounted) := ⟨rfl, rfl, rfl, by decide +kernel, rfl, by decide +kernel, by decide +kernel⟩
def spCounted (K : PySem.W.Frag) : Sp := fun vs H Q _ => ∃ (l : Addr) (xs : List V) (ps : AL), vs = [.ref l] ∧ SqL K H l xs ∧ Paired (PrA H) xs ps ∧ xs.length ≤ 1000 ∧
  ∀ (d : Addr) (m : AL) (H' : Hp), H d = none → H' d = some (.dK (enc m)) → (keys m).Nodup → (∀ k, get m k = tot ps k) → (∀ k ∈ keys m, k ∈ keys ps) → m.length ≤ xs.length → Same H H' → Q (.ref d) H'
theorem ok_counted {f : Addr} {fd : FuncData} (F : Fun K "_law_counted" "_law_counted" sCounted f fd) (T : Txt K mg) : FnOk P w K mg base CX0 1 f fd ["_law_pairs_so"] (spCounted K) := by
  refine F.ok scCounted (fun vs H Q E h => ?_) (fun cdv A outer s H vs Q E hr h => ?_)
  · obtain ⟨l, xs, ps, rfl, _⟩ := h
    rfl
  · obtain ⟨l, xs, ps, rfl, hl, hps, h1000, q⟩ := h
    have hu := hu_of hr
    refine ⟨_, (pss_cons (ps_set (i := 1) scCounted.nd rfl (Or.inl rfl) pe_dnewK)
  (pss_cons (ps_for PassesOwn.never rfl (pi_list (pv 0)) (pg_tup rfl (pgs_cons (pg_name (i := 2) scCounted.nd rfl (Or.inl rfl)) (pgs_cons (pg_name (i := 3) scCounted.nd rfl (Or.inl rfl)) pgs_nil)))
  (pss_one (ps_dput hu (pv 1) (pv 2) (pe_op op_add (pe_dget2 hu (pv 1) (pv 2) pe_int ⟨rfl, rfl, rfl, rfl⟩) (pv 3)) rfl)))
  (pss_one (ps_ret (pv 1))))), ?_⟩
    walk_at "in"
    walk_at "go"
    rename_i d hd
    have lps := Paired.len hps
    refine for_it (walk_list (xs := xs)) (fun i σ H' => ∃ (m : AL) (x2 x3 : Option V), σ = [some (.ref l), some (.ref d), x2, x3] ∧ H' d = some (.dK (enc m)) ∧ (keys m).Nodup ∧ (∀ k, get m k = tot (ps.take i) k) ∧ (∀ k ∈ keys m, k ∈ keys ps) ∧ m.length ≤ i ∧ Same H H') ?_ ?_ ?_ ?_
    · exact ⟨[], none, none, rfl, upd_same, List.nodup_nil, fun k => rfl, fun k h => by simp [keys] at h, Nat.le_refl _, fun c o e => by walk_at "hp"⟩
    · rintro i σ H' _ ⟨_, _, _, _, _, _, _, _, _, s1⟩
      exact s1.seq hl
    · rintro i x σ _ H1 hi ⟨m, x2, x3, rfl, hm, nd, hg, hk, lm, s1⟩ ⟨rfl, hx⟩
      obtain ⟨p, hp, t, rfl, ht⟩ := Paired.at hps hx
      walk_at "go"
      refine ⟨Or.inl ⟨enc m, Or.inl hm⟩, ?_⟩
      walk_at "go"
      refine ⟨_, DGet_enc (r := look m p.1) (Or.inl hm) rfl, ?_⟩
      rw [get_look]
      walk_at "go"
      refine ⟨d, _, rfl, DPut_enc hm (szl (by omega)), put m p.1 (get m p.1 + p.2), _, _, rfl, upd_same, put_nodup nd, fun k => ?_, fun k h => ?_, ?_, fun c o e => ?_⟩
      · rw [get_put, tot_take hp, ← hg k]
        by_cases c : k = p.1
        · rw [if_pos c, if_pos c.symm, c]
        · rw [if_neg c, if_neg (Ne.symm c), Int.add_zero]
      · rw [keys_put] at h
        have hpk : p.1 ∈ keys ps := List.mem_map.mpr ⟨p, List.mem_of_getElem? hp, rfl⟩
        split at h
        · exact hk k h
        · rcases List.mem_append.mp h with h | h
          · exact hk k h
          · have : k = p.1 := by simpa using h
            rw [this]
            exact hpk
      · have := put_len m p.1 (get m p.1 + p.2)
        omega
      · have n1 : c ≠ d := ne_of_none e hd
        walk_at "hp"
    · rintro σ H1 ⟨m, x2, x3, rfl, hm, nd, hg, hk, lm, s1⟩
      walk_at "go"
      refine q d m H1 hd hm nd (fun k => ?_) hk lm s1
      have e := hg k
      rw [lps, List.take_length] at e
      exact e
end
end My

--T /opt/kit/linked/4bf7bf6c73b87d88f1ba1c555b42b7c50cec9cc5/law_k05_how_often_and_what_is_left/T.py
namespace My
open PySem L2
local macro_rules | `(tactic| walk_at "bx1") => `(tactic| first | with_reducible assumption | ((with_reducible refine' Bx.upd ?h1 ?h2); (case h1 => walk_at "bx1"); (case h2 => walk_at "ne")) | ((with_reducible refine' Bx.same ?h1 (by with_reducible assumption)); (case h1 => walk_at "bx1")))
local macro_rules | `(tactic| walk_at "bx") => `(tactic| (refine' Bx.mono ?h1 ?h2; (case h1 => walk_at "bx1"); (case h2 => omega)))
local macro_rules | `(tactic| walk_at "ne") => `(tactic| first | with_reducible assumption | exact Ne.symm (by with_reducible assumption) | ((with_reducible refine' ne_of_none ?h1 (by with_reducible assumption)); (case h1 => walk_at "hp")) | ((with_reducible refine' Ne.symm (ne_of_none ?h1 (by with_reducible assumption))); (case h1 => walk_at "hp")) | ((with_reducible refine' Bx.ne ?h1 (by with_reducible assumption)); (case h1 => walk_at "bx1")) | ((with_reducible refine' Ne.symm (Bx.ne ?h1 (by with_reducible assumption))); (case h1 => walk_at "bx1")))
local macro_rules | `(tactic| walk_at "hp") => `(tactic| first | with_reducible assumption | ((with_reducible refine' (upd_same.trans ?h1)); (case h1 => rfl)) | ((with_reducible refine' My.upd_at ?h1 ?h2); (case h1 => walk_at "hp"); (case h2 => walk_at "ne")) | ((with_reducible refine' My.Kp.at (by with_reducible assumption) ?h1 ?h2); (case h1 => walk_at "hp"); (case h2 => walk_at "ne")) | ((with_reducible refine' My.Same.at (by with_reducible assumption) ?h1); (case h1 => walk_at "hp")))
local macro_rules | `(tactic| walk_at "sq") => `(tactic| first | with_reducible assumption | exact SqL.of (by walk_at "hp") | exact SqT.of (by walk_at "hp") | ((with_reducible refine' My.SqT.upd ?h1 (by with_reducible assumption)); (case h1 => walk_at "sq")) | ((with_reducible refine' My.SqL.upd ?h1 (by with_reducible assumption)); (case h1 => walk_at "sq")) | ((with_reducible refine' Same.seq (by with_reducible assumption) ?h1); (case h1 => walk_at "sq")) | ((with_reducible refine' My.SqT.same ?h1 (by with_reducible assumption)); (case h1 => walk_at "sq")) | ((with_reducible refine' My.SqT.kp ?h1 (by with_reducible assumption) ?h2); (case h1 => walk_at "sq"); (case h2 => walk_at "bx1")) | ((with_reducible refine' My.SqL.kp ?h1 (by with_reducible assumption) ?h2); (case h1 => walk_at "sq"); (case h2 => walk_at "ne")))
local macro_rules | `(tactic| walk_at "sd") => `(tactic| first | assumption | omega | decide | (refine ⟨?_, ?_⟩ <;> (first | omega | decide)) | (refine Or.inl ⟨?_, ?_⟩ <;> (first | omega | decide)) | (refine Or.inr ⟨?_, ?_⟩ <;> (first | omega | decide)) | (refine ⟨?_, ?_, ?_⟩ <;> (first | omega | decide)))
local macro_rules | `(tactic| walk_at "ps") => `(tactic| first
  | with_reducible refine r_seq ?_ | with_reducible refine r_asg ?_ | with_reducible refine r_op ?_ | with_reducible refine r_cons ?_ | with_reducible refine r_nil ?_ | with_reducible refine r_c ?_
  | with_reducible refine' r_var rfl ?_ | with_reducible refine r_gname ?_ | with_reducible refine r_cb ?_ | with_reducible refine r_I0 ?_ | with_reducible refine r_ret ?_ | with_reducible refine r_ifS ?_ | with_reducible refine r_test ?_ | with_reducible refine r_B ?_
  | with_reducible refine r_next ?_ | with_reducible refine r_drop ?_ | with_reducible refine r_if ?_ | with_reducible refine r_un ?_ | with_reducible refine r_U ?_ | with_reducible refine r_gsub ?_ | with_reducible refine r_tup ?_ | with_reducible refine r_lst ?_ | with_reducible refine r_bm ?_
  | with_reducible refine r_cal ?_ | with_reducible refine r_not ?_ | with_reducible refine r_and ?_ | with_reducible refine r_or ?_ | with_reducible refine r_andV ?_ | with_reducible refine r_orV ?_ | with_reducible refine r_notV ?_
  | with_reducible refine r_abs ?_ | with_reducible refine r_intI ?_ | with_reducible refine r_intB ?_ | with_reducible refine r_m1 ?_ | with_reducible refine r_slice ?_ | with_reducible refine r_part ?_ | with_reducible refine r_nopart ?_
  | with_reducible refine r_gcons ?_ | with_reducible refine r_gnil ?_
  | with_reducible refine r_par ?_ | with_reducible refine r_par3 ?_ | with_reducible refine r_ex2 ?_ | with_reducible refine r_ex3 ?_
  | with_reducible refine r_isN ?_ | with_reducible refine r_notN ?_
  | with_reducible refine r_iZipA ?_
  | with_reducible refine r_dget ?_ | with_reducible refine r_dget2 ?_ | with_reducible refine r_iKeys ?_ | with_reducible refine r_dput ?_
  | with_reducible refine r_for ?_ | with_reducible refine r_lc ?_ | with_reducible refine r_iList ?_ | with_reducible refine r_iTup ?_ | with_reducible refine r_iRng1 ?_ | with_reducible refine r_iEnum ?_ | with_reducible refine r_orT ?_ | with_reducible refine r_yes ?_ | with_reducible refine r_ixSl ?_)
local macro_rules | `(tactic| walk_at "st") => `(tactic| first
  | walk_at "ps"
  | ((with_reducible refine' r_ixL ?h1 ?h2 ?_); (case h1 => walk_at "sq"); (case h2 => rfl))
  | ((with_reducible refine' r_setL ?h1 ?h2 ?_); (case h1 => walk_at "hp"); (case h2 => rfl))
  | ((with_reducible refine' r_I ?h1 ?_); (case h1 => walk_at "sd"))
  | ((with_reducible refine' r_eq ?h1 ?_); (case h1 => rfl)) | ((with_reducible refine' r_ne ?h1 ?_); (case h1 => rfl))
  | ((with_reducible refine' r_lenL ?h1 ?_); (case h1 => walk_at "sq")) | ((with_reducible refine' r_lenT ?h1 ?_); (case h1 => walk_at "sq")) | ((with_reducible refine' r_lenD ?h1 ?_); (case h1 => walk_at "hp"))
  | ((with_reducible refine' r_slL ?h1 ?_); (case h1 => walk_at "sq"); intro _ _)
  | ((with_reducible refine' r_append ?h1 ?h2 ?_); (case h1 => walk_at "hp"); (case h2 => exact szl (by first | omega | (simp; omega))))
  | ((with_reducible refine' r_gtup ?h1 ?h2 ?_); (case h1 => walk_at "sq"); (case h2 => rfl))
  | ((with_reducible refine' r_cat ?h1 ?h2 ?h3 ?_); (case h1 => walk_at "hp"); (case h2 => walk_at "hp"); (case h3 => exact sz (by first | omega | (simp; omega))); intro _ _)
  | ((with_reducible refine' r_wLst ?h1 ?_); (case h1 => walk_at "sq")) | ((with_reducible refine' r_wTup ?h1 ?_); (case h1 => walk_at "sq"))
  | ((with_reducible refine' r_wRng ?h1 ?_); (case h1 => walk_at "sd"))
  | ((with_reducible refine' r_truL ?h1 ?_); (case h1 => walk_at "sq"))
  | ((with_reducible refine' r_list (Or.inl ?h1) ?_); (case h1 => walk_at "sq"); intro _ _) | ((with_reducible refine' r_list (Or.inr ?h1) ?_); (case h1 => walk_at "sq"); intro _ _)
  | ((with_reducible refine' r_tupL ?h1 ?_); (case h1 => walk_at "sq"); intro _ _) | ((with_reducible refine' r_tupT ?h1 ?_); (case h1 => walk_at "sq"))
  | ((with_reducible refine' r_disp ?h1 ?_); (case h1 => exact Nat.le_of_ble_eq_true rfl); intro _ _)
  | ((with_reducible refine r_dnewK ?_); intro _ _)
  | ((with_reducible refine' r_tyL ?h1 ?_); (case h1 => walk_at "sq")) | with_reducible refine r_strV ?_
  | with_reducible refine r_exb ?_ | with_reducible refine r_exi ?_ | with_reducible refine r_exr ?_ | with_reducible refine r_exs ?_ | with_reducible refine r_exli ?_)
local macro_rules | `(tactic| walk_at "go") => `(tactic| repeat walk_at "st")
local macro_rules | `(tactic| walk_at "in") => `(tactic| dsimp only [noxK, cxK, L2.start, List.map_cons, List.map_nil, List.length_cons, List.length_nil, Nat.reduceAdd, Nat.reduceSub, List.replicate, List.cons_append, List.nil_append])

section
variable {P : Program} {w : World} {K : PySem.W.Frag} {mg : Str → Option Value} {base : Heap} {C : Addr}
theorem mem_keys_of {m : AL} {p : Str × Int} (h : p ∈ m) : p.1 ∈ keys m := List.mem_map.mpr ⟨p, h, rfl⟩
theorem put_pos {m : AL} {k : Str} {n : Int} (h : ∀ p ∈ m, 0 < p.2) (hn : 0 < n) : ∀ p ∈ put m k n, 0 < p.2 := by
  intro p hp
  unfold put at hp
  split at hp
  · obtain ⟨q, hq, e⟩ := List.mem_map.mp hp
    split at e
    · rw [← e]
      exact hn
    · rw [← e]
      exact h q hq
  · rcases List.mem_append.mp hp with z | z
    · exact h p z
    · rw [List.mem_singleton.mp z]
      exact hn
abbrev sOwnCounted : Stmt := top 13
theorem scOwnCounted : FnScope ["pairs", "found", "kind", "many"] ["pairs"] (defScope sOwnCounted) := ⟨rfl, rfl, rfl, by decide +kernel, rfl, by decide +kernel, by decide +kernel⟩
def spOwnCounted (K : PySem.W.Frag) : Sp := fun vs H Q _ => ∃ (l : Addr) (xs : List V) (ps : AL), vs = [.ref l] ∧ SqL K H l xs ∧ Paired (PrA H) xs ps ∧ xs.length ≤ 30 ∧ (∀ p ∈ ps, 0 ≤ p.2) ∧
  ∀ (d : Addr) (m : AL) (H' : Hp), H d = none → H' d = some (.dK (enc m)) → (keys m).Nodup → (∀ p ∈ m, 0 < p.2) → (∀ k, get m k = tot ps k) → m.length ≤ xs.length → Same H H' → Q (.ref d) H'
theorem ok_ownCounted {f : Addr} {fd : FuncData} (F : Fun K "_counted" "_counted" sOwnCounted f fd) (T : Txt K mg) : FnOk P w K mg base CX0 1 f fd ["pairs"] (spOwnCounted K) := by
  refine F.ok scOwnCounted (fun vs H Q E h => ?_) (fun cdv A outer s H vs Q E hr h => ?_)
  · obtain ⟨l, xs, ps, rfl, _⟩ := h
    rfl
  · obtain ⟨l, xs, ps, rfl, hl, hps, h30, h0, q⟩ := h
    have hu := hu_of hr
    refine ⟨_, (pss_cons (ps_set (i := 1) scOwnCounted.nd rfl (Or.inl rfl) pe_dnewK)
  (pss_cons (ps_for PassesOwn.never rfl (pi_list (pv 0)) (pg_tup rfl (pgs_cons (pg_name (i := 2) scOwnCounted.nd rfl (Or.inl rfl)) (pgs_cons (pg_name (i := 3) scOwnCounted.nd rfl (Or.inl rfl)) pgs_nil)))
  (pss_cons (ps_if (pt_cmpR op_lt (pv 3) pe_int (nomark _))
  pss_never
  pss_nil)
  (pss_one (ps_if (pt_cmpR op_gt (pv 3) pe_int (nomark _))
  (pss_one (ps_dput hu (pv 1) (pv 2) (pe_op op_add (pe_dget2 hu (pv 1) (pv 2) pe_int ⟨rfl, rfl, rfl, rfl⟩) (pv 3)) rfl))
  pss_nil))))
  (pss_one (ps_ret (pv 1))))), ?_⟩
    walk_at "in"
    walk_at "go"
    rename_i d hd
    have lps := Paired.len hps
    refine for_it (walk_list (xs := xs)) (fun i σ H' => ∃ (m : AL) (x2 x3 : Option V), σ = [some (.ref l), some (.ref d), x2, x3] ∧ H' d = some (.dK (enc m)) ∧ (keys m).Nodup ∧ (∀ p ∈ m, 0 < p.2) ∧ (∀ k, get m k = tot (ps.take i) k) ∧ m.length ≤ i ∧ Same H H') ?_ ?_ ?_ ?_
    · exact ⟨[], none, none, rfl, upd_same, List.nodup_nil, fun p h => by simp at h, fun k => rfl, Nat.le_refl _, fun c o e => by walk_at "hp"⟩
    · rintro i σ H' _ ⟨_, _, _, _, _, _, _, _, _, s1⟩
      exact s1.seq hl
    · rintro i x σ _ H1 hi ⟨m, x2, x3, rfl, hm, nd, mp, hg, lm, s1⟩ ⟨rfl, hx⟩
      obtain ⟨p, hp, t, rfl, ht⟩ := Paired.at hps hx
      have p0 : 0 ≤ p.2 := h0 p (List.mem_of_getElem? hp)
      walk_at "go"
      refine ite_dF (by omega) ?_
      walk_at "go"
      have stp : ∀ k, tot (ps.take (i + 1)) k = tot (ps.take i) k + (if p.1 = k then p.2 else 0) := fun k => tot_take hp k
      refine ite_d (fun c => ?_) (fun c => ?_)
      · walk_at "go"
        refine ⟨Or.inl ⟨enc m, Or.inl hm⟩, ?_⟩
        walk_at "go"
        refine ⟨_, DGet_enc (r := look m p.1) (Or.inl hm) rfl, ?_⟩
        rw [get_look]
        walk_at "go"
        have gnn := get_nn mp nd p.1
        refine ⟨d, _, rfl, DPut_enc hm (szl (by omega)), put m p.1 (get m p.1 + p.2), _, _, rfl, upd_same, put_nodup nd, put_pos mp (by omega), fun k => ?_, ?_, fun c o e => ?_⟩
        · rw [get_put, stp, ← hg k]
          by_cases c : k = p.1
          · rw [if_pos c, if_pos c.symm, c]
          · rw [if_neg c, if_neg (Ne.symm c), Int.add_zero]
        · have := put_len m p.1 (get m p.1 + p.2)
          omega
        · have n1 : c ≠ d := ne_of_none e hd
          walk_at "hp"
      · walk_at "go"
        refine ⟨m, _, _, rfl, hm, nd, mp, fun k => ?_, by omega, s1⟩
        rw [hg k, stp]
        have : p.2 = 0 := by omega
        rw [this]
        split <;> omega
    · rintro σ H1 ⟨m, x2, x3, rfl, hm, nd, mp, hg, lm, s1⟩
      walk_at "go"
      refine q d m H1 hd hm nd mp (fun k => ?_) lm s1
      have e := hg k
      rw [lps, List.take_length] at e
      exact e
end
end My

--T /opt/kit/linked/4bf7bf6c73b87d88f1ba1c555b42b7c50cec9cc5/law_k05_how_often_and_what_is_left/T.py
namespace My
open PySem L2
local macro_rules | `(tactic| walk_at "bx1") => `(tactic| first | with_reducible assumption | ((with_reducible refine' Bx.upd ?h1 ?h2); (case h1 => walk_at "bx1"); (case h2 => walk_at "ne")) | ((with_reducible refine' Bx.same ?h1 (by with_reducible assumption)); (case h1 => walk_at "bx1")))
local macro_rules | `(tactic| walk_at "bx") => `(tactic| (refine' Bx.mono ?h1 ?h2; (case h1 => walk_at "bx1"); (case h2 => omega)))
local macro_rules | `(tactic| walk_at "ne") => `(tactic| first | with_reducible assumption | exact Ne.symm (by with_reducible assumption) | ((with_reducible refine' ne_of_none ?h1 (by with_reducible assumption)); (case h1 => walk_at "hp")) | ((with_reducible refine' Ne.symm (ne_of_none ?h1 (by with_reducible assumption))); (case h1 => walk_at "hp")) | ((with_reducible refine' Bx.ne ?h1 (by with_reducible assumption)); (case h1 => walk_at "bx1")) | ((with_reducible refine' Ne.symm (Bx.ne ?h1 (by with_reducible assumption))); (case h1 => walk_at "bx1")))
local macro_rules | `(tactic| walk_at "hp") => `(tactic| first | with_reducible assumption | ((with_reducible refine' (upd_same.trans ?h1)); (case h1 => rfl)) | ((with_reducible refine' My.upd_at ?h1 ?h2); (case h1 => walk_at "hp"); (case h2 => walk_at "ne")) | ((with_reducible refine' My.Kp.at (by with_reducible assumption) ?h1 ?h2); (case h1 => walk_at "hp"); (case h2 => walk_at "ne")) | ((with_reducible refine' My.Same.at (by with_reducible assumption) ?h1); (case h1 => walk_at "hp")))
local macro_rules | `(tactic| walk_at "sq") => `(tactic| first | with_reducible assumption | exact SqL.of (by walk_at "hp") | exact SqT.of (by walk_at "hp") | ((with_reducible refine' My.SqT.upd ?h1 (by with_reducible assumption)); (case h1 => walk_at "sq")) | ((with_reducible refine' My.SqL.upd ?h1 (by with_reducible assumption)); (case h1 => walk_at "sq")) | ((with_reducible refine' Same.seq (by with_reducible assumption) ?h1); (case h1 => walk_at "sq")) | ((with_reducible refine' My.SqT.same ?h1 (by with_reducible assumption)); (case h1 => walk_at "sq")) | ((with_reducible refine' My.SqT.kp ?h1 (by with_reducible assumption) ?h2); (case h1 => walk_at "sq"); (case h2 => walk_at "bx1")) | ((with_reducible refine' My.SqL.kp ?h1 (by with_reducible assumption) ?h2); (case h1 => walk_at "sq"); (case h2 => walk_at "ne")))
local macro_rules | `(tactic| walk_at "sd") => `(tactic| first | assumption | omega | decide | (refine ⟨?_, ?_⟩ <;> (first | omega | decide)) | (refine Or.inl ⟨?_, ?_⟩ <;> (first | omega | decide)) | (refine Or.inr ⟨?_, ?_⟩ <;> (first | omega | decide)) | (refine ⟨?_, ?_, ?_⟩ <;> (first | omega | decide)))
local macro_rules | `(tactic| walk_at "ps") => `(tactic| first
  | with_reducible refine r_seq ?_ | with_reducible refine r_asg ?_ | with_reducible refine r_op ?_ | with_reducible refine r_cons ?_ | with_reducible refine r_nil ?_ | with_reducible refine r_c ?_
  | with_reducible refine' r_var rfl ?_ | with_reducible refine r_gname ?_ | with_reducible refine r_cb ?_ | with_reducible refine r_I0 ?_ | with_reducible refine r_ret ?_ | with_reducible refine r_ifS ?_ | with_reducible refine r_test ?_ | with_reducible refine r_B ?_
  | with_reducible refine r_next ?_ | with_reducible refine r_drop ?_ | with_reducible refine r_if ?_ | with_reducible refine r_un ?_ | with_reducible refine r_U ?_ | with_reducible refine r_gsub ?_ | with_reducible refine r_tup ?_ | with_reducible refine r_lst ?_ | with_reducible refine r_bm ?_
  | with_reducible refine r_cal ?_ | with_reducible refine r_not ?_ | with_reducible refine r_and ?_ | with_reducible refine r_or ?_ | with_reducible refine r_andV ?_ | with_reducible refine r_orV ?_ | with_reducible refine r_notV ?_
  | with_reducible refine r_abs ?_ | with_reducible refine r_intI ?_ | with_reducible refine r_intB ?_ | with_reducible refine r_m1 ?_ | with_reducible refine r_slice ?_ | with_reducible refine r_part ?_ | with_reducible refine r_nopart ?_
  | with_reducible refine r_gcons ?_ | with_reducible refine r_gnil ?_
  | with_reducible refine r_par ?_ | with_reducible refine r_par3 ?_ | with_reducible refine r_ex2 ?_ | with_reducible refine r_ex3 ?_
  | with_reducible refine r_isN ?_ | with_reducible refine r_notN ?_
  | with_reducible refine r_iZipA ?_
  | with_reducible refine r_dget ?_ | with_reducible refine r_dget2 ?_ | with_reducible refine r_iKeys ?_ | with_reducible refine r_dput ?_
  | with_reducible refine r_for ?_ | with_reducible refine r_lc ?_ | with_reducible refine r_iList ?_ | with_reducible refine r_iTup ?_ | with_reducible refine r_iRng1 ?_ | with_reducible refine r_iEnum ?_ | with_reducible refine r_orT ?_ | with_reducible refine r_yes ?_ | with_reducible refine r_ixSl ?_)
local macro_rules | `(tactic| walk_at "st") => `(tactic| first
  | walk_at "ps"
  | ((with_reducible refine' r_ixL ?h1 ?h2 ?_); (case h1 => walk_at "sq"); (case h2 => rfl))
  | ((with_reducible refine' r_setL ?h1 ?h2 ?_); (case h1 => walk_at "hp"); (case h2 => rfl))
  | ((with_reducible refine' r_I ?h1 ?_); (case h1 => walk_at "sd"))
  | ((with_reducible refine' r_eq ?h1 ?_); (case h1 => rfl)) | ((with_reducible refine' r_ne ?h1 ?_); (case h1 => rfl))
  | ((with_reducible refine' r_lenL ?h1 ?_); (case h1 => walk_at "sq")) | ((with_reducible refine' r_lenT ?h1 ?_); (case h1 => walk_at "sq")) | ((with_reducible refine' r_lenD ?h1 ?_); (case h1 => walk_at "hp"))
  | ((with_reducible refine' r_slL ?h1 ?_); (case h1 => walk_at "sq"); intro _ _)
  | ((with_reducible refine' r_append ?h1 ?h2 ?_); (case h1 => walk_at "hp"); (case h2 => exact szl (by first | omega | (simp; omega))))
  | ((with_reducible refine' r_gtup ?h1 ?h2 ?_); (case h1 => walk_at "sq"); (case h2 => rfl))
  | ((with_reducible refine' r_cat ?h1 ?h2 ?h3 ?_); (case h1 => walk_at "hp"); (case h2 => walk_at "hp"); (case h3 => exact sz (by first | omega | (simp; omega))); intro _ _)
  | ((with_reducible refine' r_wLst ?h1 ?_); (case h1 => walk_at "sq")) | ((with_reducible refine' r_wTup ?h1 ?_); (case h1 => walk_at "sq"))
  | ((with_reducible refine' r_wRng ?h1 ?_); (case h1 => walk_at "sd"))
  | ((with_reducible refine' r_truL ?h1 ?_); (case h1 => walk_at "sq"))
  | ((with_reducible refine' r_list (Or.inl ?h1) ?_); (case h1 => walk_at "sq"); intro _ _) | ((with_reducible refine' r_list (Or.inr ?h1) ?_); (case h1 => walk_at "sq"); intro _ _)
  | ((with_reducible refine' r_tupL ?h1 ?_); (case h1 => walk_at "sq"); intro _ _) | ((with_reducible refine' r_tupT ?h1 ?_); (case h1 => walk_at "sq"))
  | ((with_reducible refine' r_disp ?h1 ?_); (case h1 => exact Nat.le_of_ble_eq_true rfl); intro _ _)
  | ((with_reducible refine r_dnewK ?_); intro _ _)
  | ((with_reducible refine' r_tyL ?h1 ?_); (case h1 => walk_at "sq")) | with_reducible refine r_strV ?_
  | with_reducible refine r_exb ?_ | with_reducible refine r_exi ?_ | with_reducible refine r_exr ?_ | with_reducible refine r_exs ?_ | with_reducible refine r_exli ?_)
local macro_rules | `(tactic| walk_at "go") => `(tactic| repeat walk_at "st")
local macro_rules | `(tactic| walk_at "in") => `(tactic| dsimp only [noxK, cxK, L2.start, List.map_cons, List.map_nil, List.length_cons, List.length_nil, Nat.reduceAdd, Nat.reduceSub, List.replicate, List.cons_append, List.nil_append])

section
variable {P : Program} {w : World} {K : PySem.W.Frag} {mg : Str → Option Value} {base : Heap} {C : Addr}
abbrev sOwnCountedT : Stmt := top 13
theorem scOwnCountedT : FnScope ["pairs", "found", "kind", "many"] ["pairs"] (defScope sOwnCountedT) := ⟨rfl, rfl, rfl, by decide +kernel, rfl, by decide +kernel, by decide +kernel⟩
def spOwnCountedT (K : PySem.W.Frag) : Sp := fun vs H Q _ => ∃ (l : Addr) (xs : List V) (ps : AL), vs = [.ref l] ∧ SqT K H l xs ∧ Paired (PrA H) xs ps ∧ xs.length ≤ 30 ∧ (∀ p ∈ ps, 0 ≤ p.2) ∧
  ∀ (d : Addr) (m : AL) (H' : Hp), H d = none → H' d = some (.dK (enc m)) → (keys m).Nodup → (∀ p ∈ m, 0 < p.2) → (∀ k, get m k = tot ps k) → m.length ≤ xs.length → Same H H' → Q (.ref d) H'
theorem ok_ownCountedT {f : Addr} {fd : FuncData} (F : Fun K "_counted" "_counted" sOwnCountedT f fd) (T : Txt K mg) : FnOk P w K mg base CX0 1 f fd ["pairs"] (spOwnCountedT K) := by
  refine F.ok scOwnCountedT (fun vs H Q E h => ?_) (fun cdv A outer s H vs Q E hr h => ?_)
  · obtain ⟨l, xs, ps, rfl, _⟩ := h
    rfl
  · obtain ⟨l, xs, ps, rfl, hl, hps, h30, h0, q⟩ := h
    have hu := hu_of hr
    refine ⟨_, (pss_cons (ps_set (i := 1) scOwnCountedT.nd rfl (Or.inl rfl) pe_dnewK)
  (pss_cons (ps_for PassesOwn.never rfl (pi_tup (pv 0)) (pg_tup rfl (pgs_cons (pg_name (i := 2) scOwnCountedT.nd rfl (Or.inl rfl)) (pgs_cons (pg_name (i := 3) scOwnCountedT.nd rfl (Or.inl rfl)) pgs_nil)))
  (pss_cons (ps_if (pt_cmpR op_lt (pv 3) pe_int (nomark _))
  pss_never
  pss_nil)
  (pss_one (ps_if (pt_cmpR op_gt (pv 3) pe_int (nomark _))
  (pss_one (ps_dput hu (pv 1) (pv 2) (pe_op op_add (pe_dget2 hu (pv 1) (pv 2) pe_int ⟨rfl, rfl, rfl, rfl⟩) (pv 3)) rfl))
  pss_nil))))
  (pss_one (ps_ret (pv 1))))), ?_⟩
    walk_at "in"
    walk_at "go"
    rename_i d hd
    have lps := Paired.len hps
    refine for_it (walk_tup (xs := xs)) (fun i σ H' => ∃ (m : AL) (x2 x3 : Option V), σ = [some (.ref l), some (.ref d), x2, x3] ∧ H' d = some (.dK (enc m)) ∧ (keys m).Nodup ∧ (∀ p ∈ m, 0 < p.2) ∧ (∀ k, get m k = tot (ps.take i) k) ∧ m.length ≤ i ∧ Same H H') ?_ ?_ ?_ ?_
    · exact ⟨[], none, none, rfl, upd_same, List.nodup_nil, fun p h => by simp at h, fun k => rfl, Nat.le_refl _, fun c o e => by walk_at "hp"⟩
    · rintro i σ H' _ ⟨_, _, _, _, _, _, _, _, _, s1⟩
      exact SqT.same hl s1
    · rintro i x σ _ H1 hi ⟨m, x2, x3, rfl, hm, nd, mp, hg, lm, s1⟩ ⟨rfl, hx⟩
      obtain ⟨p, hp, t, rfl, ht⟩ := Paired.at hps hx
      have p0 : 0 ≤ p.2 := h0 p (List.mem_of_getElem? hp)
      walk_at "go"
      refine ite_dF (by omega) ?_
      walk_at "go"
      have stp : ∀ k, tot (ps.take (i + 1)) k = tot (ps.take i) k + (if p.1 = k then p.2 else 0) := fun k => tot_take hp k
      refine ite_d (fun c => ?_) (fun c => ?_)
      · walk_at "go"
        refine ⟨Or.inl ⟨enc m, Or.inl hm⟩, ?_⟩
        walk_at "go"
        refine ⟨_, DGet_enc (r := look m p.1) (Or.inl hm) rfl, ?_⟩
        rw [get_look]
        walk_at "go"
        have gnn := get_nn mp nd p.1
        refine ⟨d, _, rfl, DPut_enc hm (szl (by omega)), put m p.1 (get m p.1 + p.2), _, _, rfl, upd_same, put_nodup nd, put_pos mp (by omega), fun k => ?_, ?_, fun c o e => ?_⟩
        · rw [get_put, stp, ← hg k]
          by_cases c : k = p.1
          · rw [if_pos c, if_pos c.symm, c]
          · rw [if_neg c, if_neg (Ne.symm c), Int.add_zero]
        · have := put_len m p.1 (get m p.1 + p.2)
          omega
        · have n1 : c ≠ d := ne_of_none e hd
          walk_at "hp"
      · walk_at "go"
        refine ⟨m, _, _, rfl, hm, nd, mp, fun k => ?_, by omega, s1⟩
        rw [hg k, stp]
        have : p.2 = 0 := by omega
        rw [this]
        split <;> omega
    · rintro σ H1 ⟨m, x2, x3, rfl, hm, nd, mp, hg, lm, s1⟩
      walk_at "go"
      refine q d m H1 hd hm nd mp (fun k => ?_) lm s1
      have e := hg k
      rw [lps, List.take_length] at e
      exact e
end
end My

--T /opt/kit/linked/4bf7bf6c73b87d88f1ba1c555b42b7c50cec9cc5/law_k05_how_often_and_what_is_left/T.py
namespace My
open PySem L2
local macro_rules | `(tactic| walk_at "bx1") => `(tactic| first | with_reducible assumption | ((with_reducible refine' Bx.upd ?h1 ?h2); (case h1 => walk_at "bx1"); (case h2 => walk_at "ne")) | ((with_reducible refine' Bx.same ?h1 (by with_reducible assumption)); (case h1 => walk_at "bx1")))
local macro_rules | `(tactic| walk_at "bx") => `(tactic| (refine' Bx.mono ?h1 ?h2; (case h1 => walk_at "bx1"); (case h2 => omega)))
local macro_rules | `(tactic| walk_at "ne") => `(tactic| first | with_reducible assumption | exact Ne.symm (by with_reducible assumption) | ((with_reducible refine' ne_of_none ?h1 (by with_reducible assumption)); (case h1 => walk_at "hp")) | ((with_reducible refine' Ne.symm (ne_of_none ?h1 (by with_reducible assumption))); (case h1 => walk_at "hp")) | ((with_reducible refine' Bx.ne ?h1 (by with_reducible assumption)); (case h1 => walk_at "bx1")) | ((with_reducible refine' Ne.symm (Bx.ne ?h1 (by with_reducible assumption))); (case h1 => walk_at "bx1")))
local macro_rules | `(tactic| walk_at "hp") => `(tactic| first | with_reducible assumption | ((with_reducible refine' (upd_same.trans ?h1)); (case h1 => rfl)) | ((with_reducible refine' My.upd_at ?h1 ?h2); (case h1 => walk_at "hp"); (case h2 => walk_at "ne")) | ((with_reducible refine' My.Kp.at (by with_reducible assumption) ?h1 ?h2); (case h1 => walk_at "hp"); (case h2 => walk_at "ne")) | ((with_reducible refine' My.Same.at (by with_reducible assumption) ?h1); (case h1 => walk_at "hp")))
local macro_rules | `(tactic| walk_at "sq") => `(tactic| first | with_reducible assumption | exact SqL.of (by walk_at "hp") | exact SqT.of (by walk_at "hp") | ((with_reducible refine' My.SqT.upd ?h1 (by with_reducible assumption)); (case h1 => walk_at "sq")) | ((with_reducible refine' My.SqL.upd ?h1 (by with_reducible assumption)); (case h1 => walk_at "sq")) | ((with_reducible refine' Same.seq (by with_reducible assumption) ?h1); (case h1 => walk_at "sq")) | ((with_reducible refine' My.SqT.same ?h1 (by with_reducible assumption)); (case h1 => walk_at "sq")) | ((with_reducible refine' My.SqT.kp ?h1 (by with_reducible assumption) ?h2); (case h1 => walk_at "sq"); (case h2 => walk_at "bx1")) | ((with_reducible refine' My.SqL.kp ?h1 (by with_reducible assumption) ?h2); (case h1 => walk_at "sq"); (case h2 => walk_at "ne")))
local macro_rules | `(tactic| walk_at "sd") => `(tactic| first | assumption | omega | decide | (refine ⟨?_, ?_⟩ <;> (first | omega | decide)) | (refine Or.inl ⟨?_, ?_⟩ <;> (first | omega | decide)) | (refine Or.inr ⟨?_, ?_⟩ <;> (first | omega | decide)) | (refine ⟨?_, ?_, ?_⟩ <;> (first | omega | decide)))
local macro_rules | `(tactic| walk_at "ps") => `(tactic| first
  | with_reducible refine r_seq ?_ | with_reducible refine r_asg ?_ | with_reducible refine r_op ?_ | with_reducible refine r_cons ?_ | with_reducible refine r_nil ?_ | with_reducible refine r_c ?_
  | with_reducible refine' r_var rfl ?_ | with_reducible refine r_gname ?_ | with_reducible refine r_cb ?_ | with_reducible refine r_I0 ?_ | with_reducible refine r_ret ?_ | with_reducible refine r_ifS ?_ | with_reducible refine r_test ?_ | with_reducible refine r_B ?_
  | with_reducible refine r_next ?_ | with_reducible refine r_drop ?_ | with_reducible refine r_if ?_ | with_reducible refine r_un ?_ | with_reducible refine r_U ?_ | with_reducible refine r_gsub ?_ | with_reducible refine r_tup ?_ | with_reducible refine r_lst ?_ | with_reducible refine r_bm ?_
  | with_reducible refine r_cal ?_ | with_reducible refine r_not ?_ | with_reducible refine r_and ?_ | with_reducible refine r_or ?_ | with_reducible refine r_andV ?_ | with_reducible refine r_orV ?_ | with_reducible refine r_notV ?_
  | with_reducible refine r_abs ?_ | with_reducible refine r_intI ?_ | with_reducible refine r_intB ?_ | with_reducible refine r_m1 ?_ | with_reducible refine r_slice ?_ | with_reducible refine r_part ?_ | with_reducible refine r_nopart ?_
  | with_reducible refine r_gcons ?_ | with_reducible refine r_gnil ?_
  | with_reducible refine r_par ?_ | with_reducible refine r_par3 ?_ | with_reducible refine r_ex2 ?_ | with_reducible refine r_ex3 ?_
  | with_reducible refine r_isN ?_ | with_reducible refine r_notN ?_
  | with_reducible refine r_iZipA ?_
  | with_reducible refine r_dget ?_ | with_reducible refine r_dget2 ?_ | with_reducible refine r_iKeys ?_ | with_reducible refine r_dput ?_
  | with_reducible refine r_for ?_ | with_reducible refine r_lc ?_ | with_reducible refine r_iList ?_ | with_reducible refine r_iTup ?_ | with_reducible refine r_iRng1 ?_ | with_reducible refine r_iEnum ?_ | with_reducible refine r_orT ?_ | with_reducible refine r_yes ?_ | with_reducible refine r_ixSl ?_)
local macro_rules | `(tactic| walk_at "st") => `(tactic| first
  | walk_at "ps"
  | ((with_reducible refine' r_ixL ?h1 ?h2 ?_); (case h1 => walk_at "sq"); (case h2 => rfl))
  | ((with_reducible refine' r_setL ?h1 ?h2 ?_); (case h1 => walk_at "hp"); (case h2 => rfl))
  | ((with_reducible refine' r_I ?h1 ?_); (case h1 => walk_at "sd"))
  | ((with_reducible refine' r_eq ?h1 ?_); (case h1 => rfl)) | ((with_reducible refine' r_ne ?h1 ?_); (case h1 => rfl))
  | ((with_reducible refine' r_lenL ?h1 ?_); (case h1 => walk_at "sq")) | ((with_reducible refine' r_lenT ?h1 ?_); (case h1 => walk_at "sq")) | ((with_reducible refine' r_lenD ?h1 ?_); (case h1 => walk_at "hp"))
  | ((with_reducible refine' r_slL ?h1 ?_); (case h1 => walk_at "sq"); intro _ _)
  | ((with_reducible refine' r_append ?h1 ?h2 ?_); (case h1 => walk_at "hp"); (case h2 => exact szl (by first | omega | (simp; omega))))
  | ((with_reducible refine' r_gtup ?h1 ?h2 ?_); (case h1 => walk_at "sq"); (case h2 => rfl))
  | ((with_reducible refine' r_cat ?h1 ?h2 ?h3 ?_); (case h1 => walk_at "hp"); (case h2 => walk_at "hp"); (case h3 => exact sz (by first | omega | (simp; omega))); intro _ _)
  | ((with_reducible refine' r_wLst ?h1 ?_); (case h1 => walk_at "sq")) | ((with_reducible refine' r_wTup ?h1 ?_); (case h1 => walk_at "sq"))
  | ((with_reducible refine' r_wRng ?h1 ?_); (case h1 => walk_at "sd"))
  | ((with_reducible refine' r_truL ?h1 ?_); (case h1 => walk_at "sq"))
  | ((with_reducible refine' r_list (Or.inl ?h1) ?_); (case h1 => walk_at "sq"); intro _ _) | ((with_reducible refine' r_list (Or.inr ?h1) ?_); (case h1 => walk_at "sq"); intro _ _)
  | ((with_reducible refine' r_tupL ?h1 ?_); (case h1 => walk_at "sq"); intro _ _) | ((with_reducible refine' r_tupT ?h1 ?_); (case h1 => walk_at "sq"))
  | ((with_reducible refine' r_disp ?h1 ?_); (case h1 => exact Nat.le_of_ble_eq_true rfl); intro _ _)
  | ((with_reducible refine r_dnewK ?_); intro _ _)
  | ((with_reducible refine' r_tyL ?h1 ?_); (case h1 => walk_at "sq")) | with_reducible refine r_strV ?_
  | with_reducible refine r_exb ?_ | with_reducible refine r_exi ?_ | with_reducible refine r_exr ?_ | with_reducible refine r_exs ?_ | with_reducible refine r_exli ?_)
local macro_rules | `(tactic| walk_at "go") => `(tactic| repeat walk_at "st")
local macro_rules | `(tactic| walk_at "in") => `(tactic| dsimp only [noxK, cxK, L2.start, List.map_cons, List.map_nil, List.length_cons, List.length_nil, Nat.reduceAdd, Nat.reduceSub, List.replicate, List.cons_append, List.nil_append])

section
variable {P : Program} {w : World} {K : PySem.W.Frag} {mg : Str → Option Value} {base : Heap} {C : Addr}
abbrev sLotInit : Stmt := inClass (top 14) 0
theorem scLotInit : FnScope ["self", "pairs"] ["self", "pairs"] (defScope sLotInit) := ⟨rfl, rfl, rfl, by decide +kernel, rfl, by decide +kernel, by decide +kernel⟩
/-- what __init__ is given: pairs as a list -/
def spLotInit (K : PySem.W.Frag) (C : Addr) : Sp := fun vs H Q _ => ∃ (p dx l : Addr) (xs : List V) (ps : AL), vs = [.ref p, .ref l] ∧ H p = some (.ins C dx []) ∧ SqL K H l xs ∧ Paired (PrA H) xs ps ∧ xs.length ≤ 30 ∧ (∀ q ∈ ps, 0 ≤ q.2) ∧
  ∀ (m : AL) (H' : Hp), LoA C H' p m → (∀ k, get m k = tot ps k) → (∀ c o, H c = some o → c ≠ p → H' c = some o) → Q .non H'
theorem ok_lotInit {f t0 : Addr} {fd : FuncData} (F : FunD K "__init__" "Lot.__init__" (defArgs sLotInit) (defBody sLotInit) (defScope sLotInit) [.ref t0] [] f fd) (L : TxL K C) (Cc : Cal P w K mg base CX0 1 "_counted" ["pairs"] (spOwnCounted K)) : FnOk P w K mg base CX0 2 f fd ["self", "pairs"] (spLotInit K C) := by
  refine F.ok scLotInit (fun vs H Q E h => ?_) (fun cdv A outer s H vs Q E hr h => ?_)
  · obtain ⟨p, dx, l, xs, ps, rfl, _⟩ := h
    rfl
  · obtain ⟨p, dx, l, xs, ps, rfl, hp, hl, hps, h30, h0, q⟩ := h
    refine ⟨_, (pss_one (ps_fld (pv 0) (pe_cal Cc hr pass0 (pa_cons (pv 1) pa_nil)) rfl)), ?_⟩
    walk_at "in"
    show tCal (spOwnCounted K) E0 (tCons (tVar 1) tNil) _ H _
    walk_at "go"
    refine ⟨l, xs, ps, rfl, hl, hps, h30, h0, fun d m H1 hd hm nd mp hg lm s1 => ?_⟩
    have n1 : d ≠ p := fun z => by rw [z, hp] at hd; cases hd
    refine ⟨_, rfl, p, C, dx, [], rfl, s1 _ _ hp, L.oc.cl, L.nM, by show 0 < 1000; decide, ?_⟩
    refine q m _ ⟨⟨d, dx, upd_same, by walk_at "hp"⟩, nd, mp, by omega⟩ hg fun c o e n => ?_
    walk_at "hp"
abbrev sLotGetitem : Stmt := inClass (top 14) 2
theorem scLotGetitem : FnScope ["self", "at"] ["self", "at"] (defScope sLotGetitem) := ⟨rfl, rfl, rfl, by decide +kernel, rfl, by decide +kernel, by decide +kernel⟩
def spLotGetitem (C : Addr) : Sp := fun vs H Q _ => ∃ (a : Addr) (k : Str) (m : AL), vs = [.ref a, .str k] ∧ LoA C H a m ∧ Q (.int (get m k)) H
theorem ok_lotGetitem {f : Addr} {fd : FuncData} (F : Fun K "__getitem__" "Lot.__getitem__" sLotGetitem f fd) (L : TxL K C) : FnOk P w K mg base CX0 1 f fd ["self", "at"] (spLotGetitem C) := by
  refine F.ok scLotGetitem (fun vs H Q E h => ?_) (fun cdv A outer s H vs Q E hr h => ?_)
  · obtain ⟨a, k, m, rfl, _⟩ := h
    rfl
  · obtain ⟨a, k, m, rfl, ⟨⟨d, dx, h1, h2⟩, nd, mp, ml⟩, q⟩ := h
    have hu := hu_of hr
    refine ⟨_, (pss_one (ps_ret (pe_dget2 hu (pe_fld (pv 0) rfl) (pv 1) pe_int ⟨rfl, rfl, rfl, rfl⟩))), ?_⟩
    walk_at "in"
    walk_at "go"
    refine r_many L h1 ⟨_, rfl, r_isD h2 ?_⟩
    walk_at "go"
    refine ⟨_, DGet_enc (r := look m k) (Or.inl h2) rfl, ?_⟩
    rw [get_look]
    exact q
abbrev sLotLen : Stmt := inClass (top 14) 6
theorem scLotLen : FnScope ["self"] ["self"] (defScope sLotLen) := ⟨rfl, rfl, rfl, by decide +kernel, rfl, by decide +kernel, by decide +kernel⟩
def spLotLen (C : Addr) : Sp := fun vs H Q _ => ∃ (a : Addr) (m : AL), vs = [.ref a] ∧ LoA C H a m ∧ Q (.int m.length) H
theorem ok_lotLen {f : Addr} {fd : FuncData} (F : Fun K "__len__" "Lot.__len__" sLotLen f fd) (T : Txt K mg) (L : TxL K C) : FnOk P w K mg base CX0 1 f fd ["self"] (spLotLen C) := by
  refine F.ok scLotLen (fun vs H Q E h => ?_) (fun cdv A outer s H vs Q E hr h => ?_)
  · obtain ⟨a, m, rfl, _⟩ := h
    rfl
  · obtain ⟨a, m, rfl, ⟨⟨d, dx, h1, h2⟩, nd, mp, ml⟩, q⟩ := h
    have hu := hu_of hr
    refine ⟨_, (pss_one (ps_ret (pe_callB c_lenD (by rfl) T.len (by decide +kernel) (pa_cons (pe_fld (pv 0) rfl) pa_nil)))), ?_⟩
    walk_at "in"
    walk_at "go"
    refine r_many L h1 ?_
    walk_at "go"
    rw [enc_len]
    exact q
abbrev sLotKinds : Stmt := inClass (top 14) 9
theorem scLotKinds : FnScope ["self"] ["self"] (defScope sLotKinds) := ⟨rfl, rfl, rfl, by decide +kernel, rfl, by decide +kernel, by decide +kernel⟩
def spLotKinds (C : Addr) : Sp := fun vs H Q _ => ∃ (a : Addr) (m : AL), vs = [.ref a] ∧ LoA C H a m ∧ ∀ (l : Addr) (ys : List Str) (H' : Hp), H l = none → H' l = some (.lst (ys.map V.str)) → ys.Perm (keys m) → PyProof.Rows.sortedS ys = true → Same H H' → Q (.ref l) H'
theorem ok_lotKinds {f : Addr} {fd : FuncData} (F : Fun K "kinds" "Lot.kinds" sLotKinds f fd) (T : Txt K mg) (L : TxL K C) : FnOk P w K mg base CX0 1 f fd ["self"] (spLotKinds C) := by
  refine F.ok scLotKinds (fun vs H Q E h => ?_) (fun cdv A outer s H vs Q E hr h => ?_)
  · obtain ⟨a, m, rfl, _⟩ := h
    rfl
  · obtain ⟨a, m, rfl, ⟨⟨d, dx, h1, h2⟩, nd, mp, ml⟩, q⟩ := h
    have hu := hu_of hr
    refine ⟨_, (pss_one (ps_ret (pe_callB (cr_sortedSO rfl) (by rfl) T.sorted (by decide +kernel) (pa_cons (pe_callTy cr_setD (by rfl) T.set (by decide +kernel) (pa_cons (pe_fld (pv 0) rfl) pa_nil)) pa_nil)))), ?_⟩
    walk_at "in"
    walk_at "go"
    refine r_many L h1 ?_
    walk_at "go"
    refine r_setD h2 ml fun t ht => ?_
    walk_at "go"
    have lk : (keys m).length = m.length := List.length_map _
    refine r_sortedSO upd_same (by omega) fun ys l hp hs hl => ?_
    have n1 : l ≠ t := fun z => by rw [z, upd_same] at hl; cases hl
    have hl0 : H l = none := by rw [upd_ne n1] at hl; exact hl
    exact q l ys _ hl0 upd_same hp hs fun c o e => by walk_at "hp"
end
end My

--T /opt/kit/linked/4bf7bf6c73b87d88f1ba1c555b42b7c50cec9cc5/law_k05_how_often_and_what_is_left/T.py
namespace My
open PySem L2
local macro_rules | `(tactic| walk_at "bx1") => `(tactic| first | with_reducible assumption | ((with_reducible refine' Bx.upd ?h1 ?h2); (case h1 => walk_at "bx1"); (case h2 => walk_at "ne")) | ((with_reducible refine' Bx.same ?h1 (by with_reducible assumption)); (case h1 => walk_at "bx1")))
local macro_rules | `(tactic| walk_at "bx") => `(tactic| (refine' Bx.mono ?h1 ?h2; (case h1 => walk_at "bx1"); (case h2 => omega)))
local macro_rules | `(tactic| walk_at "ne") => `(tactic| first | with_reducible assumption | exact Ne.symm (by with_reducible assumption) | ((with_reducible refine' ne_of_none ?h1 (by with_reducible assumption)); (case h1 => walk_at "hp")) | ((with_reducible refine' Ne.symm (ne_of_none ?h1 (by with_reducible assumption))); (case h1 => walk_at "hp")) | ((with_reducible refine' Bx.ne ?h1 (by with_reducible assumption)); (case h1 => walk_at "bx1")) | ((with_reducible refine' Ne.symm (Bx.ne ?h1 (by with_reducible assumption))); (case h1 => walk_at "bx1")))
local macro_rules | `(tactic| walk_at "hp") => `(tactic| first | with_reducible assumption | ((with_reducible refine' (upd_same.trans ?h1)); (case h1 => rfl)) | ((with_reducible refine' My.upd_at ?h1 ?h2); (case h1 => walk_at "hp"); (case h2 => walk_at "ne")) | ((with_reducible refine' My.Kp.at (by with_reducible assumption) ?h1 ?h2); (case h1 => walk_at "hp"); (case h2 => walk_at "ne")) | ((with_reducible refine' My.Same.at (by with_reducible assumption) ?h1); (case h1 => walk_at "hp")))
local macro_rules | `(tactic| walk_at "sq") => `(tactic| first | with_reducible assumption | exact SqL.of (by walk_at "hp") | exact SqT.of (by walk_at "hp") | ((with_reducible refine' My.SqT.upd ?h1 (by with_reducible assumption)); (case h1 => walk_at "sq")) | ((with_reducible refine' My.SqL.upd ?h1 (by with_reducible assumption)); (case h1 => walk_at "sq")) | ((with_reducible refine' Same.seq (by with_reducible assumption) ?h1); (case h1 => walk_at "sq")) | ((with_reducible refine' My.SqT.same ?h1 (by with_reducible assumption)); (case h1 => walk_at "sq")) | ((with_reducible refine' My.SqT.kp ?h1 (by with_reducible assumption) ?h2); (case h1 => walk_at "sq"); (case h2 => walk_at "bx1")) | ((with_reducible refine' My.SqL.kp ?h1 (by with_reducible assumption) ?h2); (case h1 => walk_at "sq"); (case h2 => walk_at "ne")))
local macro_rules | `(tactic| walk_at "sd") => `(tactic| first | assumption | omega | decide | (refine ⟨?_, ?_⟩ <;> (first | omega | decide)) | (refine Or.inl ⟨?_, ?_⟩ <;> (first | omega | decide)) | (refine Or.inr ⟨?_, ?_⟩ <;> (first | omega | decide)) | (refine ⟨?_, ?_, ?_⟩ <;> (first | omega | decide)))
local macro_rules | `(tactic| walk_at "ps") => `(tactic| first
  | with_reducible refine r_seq ?_ | with_reducible refine r_asg ?_ | with_reducible refine r_op ?_ | with_reducible refine r_cons ?_ | with_reducible refine r_nil ?_ | with_reducible refine r_c ?_
  | with_reducible refine' r_var rfl ?_ | with_reducible refine r_gname ?_ | with_reducible refine r_cb ?_ | with_reducible refine r_I0 ?_ | with_reducible refine r_ret ?_ | with_reducible refine r_ifS ?_ | with_reducible refine r_test ?_ | with_reducible refine r_B ?_
  | with_reducible refine r_next ?_ | with_reducible refine r_drop ?_ | with_reducible refine r_if ?_ | with_reducible refine r_un ?_ | with_reducible refine r_U ?_ | with_reducible refine r_gsub ?_ | with_reducible refine r_tup ?_ | with_reducible refine r_lst ?_ | with_reducible refine r_bm ?_
  | with_reducible refine r_cal ?_ | with_reducible refine r_not ?_ | with_reducible refine r_and ?_ | with_reducible refine r_or ?_ | with_reducible refine r_andV ?_ | with_reducible refine r_orV ?_ | with_reducible refine r_notV ?_
  | with_reducible refine r_abs ?_ | with_reducible refine r_intI ?_ | with_reducible refine r_intB ?_ | with_reducible refine r_m1 ?_ | with_reducible refine r_slice ?_ | with_reducible refine r_part ?_ | with_reducible refine r_nopart ?_
  | with_reducible refine r_gcons ?_ | with_reducible refine r_gnil ?_
  | with_reducible refine r_par ?_ | with_reducible refine r_par3 ?_ | with_reducible refine r_ex2 ?_ | with_reducible refine r_ex3 ?_
  | with_reducible refine r_isN ?_ | with_reducible refine r_notN ?_
  | with_reducible refine r_iZipA ?_
  | with_reducible refine r_dget ?_ | with_reducible refine r_dget2 ?_ | with_reducible refine r_iKeys ?_ | with_reducible refine r_dput ?_
  | with_reducible refine r_for ?_ | with_reducible refine r_lc ?_ | with_reducible refine r_iList ?_ | with_reducible refine r_iTup ?_ | with_reducible refine r_iRng1 ?_ | with_reducible refine r_iEnum ?_ | with_reducible refine r_orT ?_ | with_reducible refine r_yes ?_ | with_reducible refine r_ixSl ?_)
local macro_rules | `(tactic| walk_at "st") => `(tactic| first
  | walk_at "ps"
  | ((with_reducible refine' r_ixL ?h1 ?h2 ?_); (case h1 => walk_at "sq"); (case h2 => rfl))
  | ((with_reducible refine' r_setL ?h1 ?h2 ?_); (case h1 => walk_at "hp"); (case h2 => rfl))
  | ((with_reducible refine' r_I ?h1 ?_); (case h1 => walk_at "sd"))
  | ((with_reducible refine' r_eq ?h1 ?_); (case h1 => rfl)) | ((with_reducible refine' r_ne ?h1 ?_); (case h1 => rfl))
  | ((with_reducible refine' r_lenL ?h1 ?_); (case h1 => walk_at "sq")) | ((with_reducible refine' r_lenT ?h1 ?_); (case h1 => walk_at "sq")) | ((with_reducible refine' r_lenD ?h1 ?_); (case h1 => walk_at "hp"))
  | ((with_reducible refine' r_slL ?h1 ?_); (case h1 => walk_at "sq"); intro _ _)
  | ((with_reducible refine' r_append ?h1 ?h2 ?_); (case h1 => walk_at "hp"); (case h2 => exact szl (by first | omega | (simp; omega))))
  | ((with_reducible refine' r_gtup ?h1 ?h2 ?_); (case h1 => walk_at "sq"); (case h2 => rfl))
  | ((with_reducible refine' r_cat ?h1 ?h2 ?h3 ?_); (case h1 => walk_at "hp"); (case h2 => walk_at "hp"); (case h3 => exact sz (by first | omega | (simp; omega))); intro _ _)
  | ((with_reducible refine' r_wLst ?h1 ?_); (case h1 => walk_at "sq")) | ((with_reducible refine' r_wTup ?h1 ?_); (case h1 => walk_at "sq"))
  | ((with_reducible refine' r_wRng ?h1 ?_); (case h1 => walk_at "sd"))
  | ((with_reducible refine' r_truL ?h1 ?_); (case h1 => walk_at "sq"))
  | ((with_reducible refine' r_list (Or.inl ?h1) ?_); (case h1 => walk_at "sq"); intro _ _) | ((with_reducible refine' r_list (Or.inr ?h1) ?_); (case h1 => walk_at "sq"); intro _ _)
  | ((with_reducible refine' r_tupL ?h1 ?_); (case h1 => walk_at "sq"); intro _ _) | ((with_reducible refine' r_tupT ?h1 ?_); (case h1 => walk_at "sq"))
  | ((with_reducible refine' r_disp ?h1 ?_); (case h1 => exact Nat.le_of_ble_eq_true rfl); intro _ _)
  | ((with_reducible refine r_dnewK ?_); intro _ _)
  | ((with_reducible refine' r_tyL ?h1 ?_); (case h1 => walk_at "sq")) | with_reducible refine r_strV ?_
  | with_reducible refine r_exb ?_ | with_reducible refine r_exi ?_ | with_reducible refine r_exr ?_ | with_reducible refine r_exs ?_ | with_reducible refine r_exli ?_)
local macro_rules | `(tactic| walk_at "go") => `(tactic| repeat walk_at "st")
local macro_rules | `(tactic| walk_at "in") => `(tactic| dsimp only [noxK, cxK, L2.start, List.map_cons, List.map_nil, List.length_cons, List.length_nil, Nat.reduceAdd, Nat.reduceSub, List.replicate, List.cons_append, List.nil_append])

section
variable {P : Program} {w : World} {K : PySem.W.Frag} {mg : Str → Option Value} {base : Heap} {C : Addr}
abbrev sLotPairs : Stmt := inClass (top 14) 10
theorem scLotPairs : FnScope ["self", "kind"] ["self"] (defScope sLotPairs) := ⟨rfl, rfl, rfl, by decide +kernel, rfl, by decide +kernel, by decide +kernel⟩
def spLotPairs (C : Addr) : Sp := fun vs H Q _ => ∃ (a : Addr) (m : AL), vs = [.ref a] ∧ LoA C H a m ∧ ∀ (p : Addr) (ts : List V) (qs : AL) (H' : Hp), H p = none → H' p = some (.tup ts) → Paired (PrA H') ts qs → Cn m qs → Same H H' → Q (.ref p) H'
theorem ok_lotPairs {f : Addr} {fd : FuncData} (F : Fun K "pairs" "Lot.pairs" sLotPairs f fd) (T : Txt K mg) (L : TxL K C) (Ok : OCal P w K mg base CX0 1 C "kinds" ["self"] (spLotKinds C)) : FnOk P w K mg base CX0 2 f fd ["self"] (spLotPairs C) := by
  refine F.ok scLotPairs (fun vs H Q E h => ?_) (fun cdv A outer s H vs Q E hr h => ?_)
  · obtain ⟨a, m, rfl, _⟩ := h
    rfl
  · obtain ⟨a, m, rfl, La, q⟩ := h
    have hu := hu_of hr
    refine ⟨_, (pss_one (ps_ret (pe_callTy c_tupL (by rfl) T.tuple (by decide +kernel) (pa_cons (pe_lc (own := [("kind", 1)]) (g := gName 1) (tt := tYes) rfl scLotPairs.nd (pi_list (pe_methO0 Ok L.oc.cl hr pass0 (pv 0))) (blkOk_by (N := ["self", "kind"]) (sc := defScope sLotPairs) (by decide +kernel)) (fun _ _ _ _ _ => (pg_name (i := 1) scLotPairs.nd rfl (Or.inl rfl))) (fun _ _ _ _ _ => pts_nil) (fun _ _ _ _ _ => (pe_tup (pa_cons (pv 1) (pa_cons (pe_dget hu (fldK K (pv 0) rfl) (pv 1) (fun _ _ => rfl)) pa_nil))))) pa_nil)))), ?_⟩
    walk_at "in"
    walk_at "go"
    obtain ⟨⟨d, dx, h1, h2⟩, nd, mp, ml⟩ := id La
    refine r_meth0 ?_
    walk_at "go"
    refine ⟨a, dx, _, rfl, h1, look1, a, m, rfl, La, fun l ys H1 hl hl1 hp hs s1 => ?_⟩
    walk_at "go"
    intro D hD
    have hD0 : H D = none := s1.free hD
    have nDl : D ≠ l := fun z => by rw [z, hl1] at hD; cases hD
    have lys : ys.length ≤ 30 := by rw [hp.length_eq]; show (keys m).length ≤ 30; rw [show (keys m).length = m.length from List.length_map _]; exact ml
    refine lc_it (walk_list (xs := ys.map V.str)) (fun i H' => ∃ xs, H' D = some (.lst xs) ∧ Paired (PrA H') xs ((ys.take i).map fun k => (k, get m k)) ∧ Same H1 H') ?_ ?_ ?_ ?_
    · exact ⟨[], upd_same, .nil, fun c o e => by have n1 : c ≠ D := ne_of_none e hD; walk_at "hp"⟩
    · rintro i H' _ ⟨_, _, _, s2⟩
      exact s2.seq (SqL.of hl1)
    · rintro i x _ H2 hi ⟨xs, hD1, hxs, s2⟩ ⟨rfl, hx⟩
      obtain ⟨k, rfl, hk⟩ := map_some hx
      walk_at "go"
      refine ⟨rfl, ?_⟩
      walk_at "go"
      refine iteT ?_
      walk_at "go"
      refine r_many L (s2 _ _ (s1 _ _ h1)) ?_
      walk_at "go"
      have kin : k ∈ keys m := hp.mem_iff.mp (List.mem_of_getElem? hk)
      have lk : look m k = some (get m k) := by
        obtain ⟨p, hpm, rfl⟩ := List.mem_map.mp kin
        unfold get
        rw [(look_mem nd).mpr (show (p.1, p.2) ∈ m from hpm)]
        rfl
      refine ⟨d, .int (get m k), rfl, DGet_enc (Or.inl (s2 _ _ (s1 _ _ h2))) lk, ?_⟩
      walk_at "go"
      rename_i t ht
      have n2 : D ≠ t := ne_of_none hD1 ht
      have lxs := Paired.len hxs
      have ltk : ((ys.take i).map fun k => (k, get m k)).length ≤ i := by rw [List.length_map, List.length_take]; omega
      have hi2 : i < ys.length := by rw [List.length_map] at hi; exact hi
      have k2 : Kp D H2 (upd (upd H2 t (.tup [V.str k, V.int (get m k)])) D (.lst (xs ++ [V.ref t]))) := fun c o e n => by walk_at "hp"
      refine ⟨xs, by walk_at "hp", szl (by omega), xs ++ [V.ref t], upd_same, ?_, fun c o e => ?_⟩
      · rw [List.take_add_one, hk, List.map_append]
        exact Paired.app (PrA.kpdAll hxs k2 hD1 (fun _ z => by cases z)) (.cons ⟨t, rfl, by walk_at "hp"⟩ .nil)
      · have n4 : c ≠ D := ne_of_none e hD
        walk_at "hp"
    · rintro H2 ⟨xs, hD1, hxs, s2⟩
      rw [List.length_map, List.take_length] at hxs
      walk_at "go"
      rename_i p hp2
      have hpp : H p = none := s1.free (s2.free hp2)
      refine q p xs _ _ hpp upd_same (Paired.mapP hxs fun _ _ z => ?_) (cn_of mp nd hp hs) fun c o e => by walk_at "hp"
      obtain ⟨t, e1, e2⟩ := z
      exact ⟨t, e1, upd_at e2 (ne_of_none e2 hp2)⟩
end
end My

--T /opt/kit/linked/4bf7bf6c73b87d88f1ba1c555b42b7c50cec9cc5/law_k05_how_often_and_what_is_left/T.py
namespace My
open PySem L2
local macro_rules | `(tactic| walk_at "bx1") => `(tactic| first | with_reducible assumption | ((with_reducible refine' Bx.upd ?h1 ?h2); (case h1 => walk_at "bx1"); (case h2 => walk_at "ne")) | ((with_reducible refine' Bx.same ?h1 (by with_reducible assumption)); (case h1 => walk_at "bx1")))
local macro_rules | `(tactic| walk_at "bx") => `(tactic| (refine' Bx.mono ?h1 ?h2; (case h1 => walk_at "bx1"); (case h2 => omega)))
local macro_rules | `(tactic| walk_at "ne") => `(tactic| first | with_reducible assumption | exact Ne.symm (by with_reducible assumption) | ((with_reducible refine' ne_of_none ?h1 (by with_reducible assumption)); (case h1 => walk_at "hp")) | ((with_reducible refine' Ne.symm (ne_of_none ?h1 (by with_reducible assumption))); (case h1 => walk_at "hp")) | ((with_reducible refine' Bx.ne ?h1 (by with_reducible assumption)); (case h1 => walk_at "bx1")) | ((with_reducible refine' Ne.symm (Bx.ne ?h1 (by with_reducible assumption))); (case h1 => walk_at "bx1")))
local macro_rules | `(tactic| walk_at "hp") => `(tactic| first | with_reducible assumption | ((with_reducible refine' (upd_same.trans ?h1)); (case h1 => rfl)) | ((with_reducible refine' My.upd_at ?h1 ?h2); (case h1 => walk_at "hp"); (case h2 => walk_at "ne")) | ((with_reducible refine' My.Kp.at (by with_reducible assumption) ?h1 ?h2); (case h1 => walk_at "hp"); (case h2 => walk_at "ne")) | ((with_reducible refine' My.Same.at (by with_reducible assumption) ?h1); (case h1 => walk_at "hp")))
local macro_rules | `(tactic| walk_at "sq") => `(tactic| first | with_reducible assumption | exact SqL.of (by walk_at "hp") | exact SqT.of (by walk_at "hp") | ((with_reducible refine' My.SqT.upd ?h1 (by with_reducible assumption)); (case h1 => walk_at "sq")) | ((with_reducible refine' My.SqL.upd ?h1 (by with_reducible assumption)); (case h1 => walk_at "sq")) | ((with_reducible refine' Same.seq (by with_reducible assumption) ?h1); (case h1 => walk_at "sq")) | ((with_reducible refine' My.SqT.same ?h1 (by with_reducible assumption)); (case h1 => walk_at "sq")) | ((with_reducible refine' My.SqT.kp ?h1 (by with_reducible assumption) ?h2); (case h1 => walk_at "sq"); (case h2 => walk_at "bx1")) | ((with_reducible refine' My.SqL.kp ?h1 (by with_reducible assumption) ?h2); (case h1 => walk_at "sq"); (case h2 => walk_at "ne")))
local macro_rules | `(tactic| walk_at "sd") => `(tactic| first | assumption | omega | decide | (refine ⟨?_, ?_⟩ <;> (first | omega | decide)) | (refine Or.inl ⟨?_, ?_⟩ <;> (first | omega | decide)) | (refine Or.inr ⟨?_, ?_⟩ <;> (first | omega | decide)) | (refine ⟨?_, ?_, ?_⟩ <;> (first | omega | decide)))
local macro_rules | `(tactic| walk_at "ps") => `(tactic| first
  | with_reducible refine r_seq ?_ | with_reducible refine r_asg ?_ | with_reducible refine r_op ?_ | with_reducible refine r_cons ?_ | with_reducible refine r_nil ?_ | with_reducible refine r_c ?_
  | with_reducible refine' r_var rfl ?_ | with_reducible refine r_gname ?_ | with_reducible refine r_cb ?_ | with_reducible refine r_I0 ?_ | with_reducible refine r_ret ?_ | with_reducible refine r_ifS ?_ | with_reducible refine r_test ?_ | with_reducible refine r_B ?_
  | with_reducible refine r_next ?_ | with_reducible refine r_drop ?_ | with_reducible refine r_if ?_ | with_reducible refine r_un ?_ | with_reducible refine r_U ?_ | with_reducible refine r_gsub ?_ | with_reducible refine r_tup ?_ | with_reducible refine r_lst ?_ | with_reducible refine r_bm ?_
  | with_reducible refine r_cal ?_ | with_reducible refine r_not ?_ | with_reducible refine r_and ?_ | with_reducible refine r_or ?_ | with_reducible refine r_andV ?_ | with_reducible refine r_orV ?_ | with_reducible refine r_notV ?_
  | with_reducible refine r_abs ?_ | with_reducible refine r_intI ?_ | with_reducible refine r_intB ?_ | with_reducible refine r_m1 ?_ | with_reducible refine r_slice ?_ | with_reducible refine r_part ?_ | with_reducible refine r_nopart ?_
  | with_reducible refine r_gcons ?_ | with_reducible refine r_gnil ?_
  | with_reducible refine r_par ?_ | with_reducible refine r_par3 ?_ | with_reducible refine r_ex2 ?_ | with_reducible refine r_ex3 ?_
  | with_reducible refine r_isN ?_ | with_reducible refine r_notN ?_
  | with_reducible refine r_iZipA ?_
  | with_reducible refine r_dget ?_ | with_reducible refine r_dget2 ?_ | with_reducible refine r_iKeys ?_ | with_reducible refine r_dput ?_
  | with_reducible refine r_for ?_ | with_reducible refine r_lc ?_ | with_reducible refine r_iList ?_ | with_reducible refine r_iTup ?_ | with_reducible refine r_iRng1 ?_ | with_reducible refine r_iEnum ?_ | with_reducible refine r_orT ?_ | with_reducible refine r_yes ?_ | with_reducible refine r_ixSl ?_)
local macro_rules | `(tactic| walk_at "st") => `(tactic| first
  | walk_at "ps"
  | ((with_reducible refine' r_ixL ?h1 ?h2 ?_); (case h1 => walk_at "sq"); (case h2 => rfl))
  | ((with_reducible refine' r_setL ?h1 ?h2 ?_); (case h1 => walk_at "hp"); (case h2 => rfl))
  | ((with_reducible refine' r_I ?h1 ?_); (case h1 => walk_at "sd"))
  | ((with_reducible refine' r_eq ?h1 ?_); (case h1 => rfl)) | ((with_reducible refine' r_ne ?h1 ?_); (case h1 => rfl))
  | ((with_reducible refine' r_lenL ?h1 ?_); (case h1 => walk_at "sq")) | ((with_reducible refine' r_lenT ?h1 ?_); (case h1 => walk_at "sq")) | ((with_reducible refine' r_lenD ?h1 ?_); (case h1 => walk_at "hp"))
  | ((with_reducible refine' r_slL ?h1 ?_); (case h1 => walk_at "sq"); intro _ _)
  | ((with_reducible refine' r_append ?h1 ?h2 ?_); (case h1 => walk_at "hp"); (case h2 => exact szl (by first | omega | (simp; omega))))
  | ((with_reducible refine' r_gtup ?h1 ?h2 ?_); (case h1 => walk_at "sq"); (case h2 => rfl))
  | ((with_reducible refine' r_cat ?h1 ?h2 ?h3 ?_); (case h1 => walk_at "hp"); (case h2 => walk_at "hp"); (case h3 => exact sz (by first | omega | (simp; omega))); intro _ _)
  | ((with_reducible refine' r_wLst ?h1 ?_); (case h1 => walk_at "sq")) | ((with_reducible refine' r_wTup ?h1 ?_); (case h1 => walk_at "sq"))
  | ((with_reducible refine' r_wRng ?h1 ?_); (case h1 => walk_at "sd"))
  | ((with_reducible refine' r_truL ?h1 ?_); (case h1 => walk_at "sq"))
  | ((with_reducible refine' r_list (Or.inl ?h1) ?_); (case h1 => walk_at "sq"); intro _ _) | ((with_reducible refine' r_list (Or.inr ?h1) ?_); (case h1 => walk_at "sq"); intro _ _)
  | ((with_reducible refine' r_tupL ?h1 ?_); (case h1 => walk_at "sq"); intro _ _) | ((with_reducible refine' r_tupT ?h1 ?_); (case h1 => walk_at "sq"))
  | ((with_reducible refine' r_disp ?h1 ?_); (case h1 => exact Nat.le_of_ble_eq_true rfl); intro _ _)
  | ((with_reducible refine r_dnewK ?_); intro _ _)
  | ((with_reducible refine' r_tyL ?h1 ?_); (case h1 => walk_at "sq")) | with_reducible refine r_strV ?_
  | with_reducible refine r_exb ?_ | with_reducible refine r_exi ?_ | with_reducible refine r_exr ?_ | with_reducible refine r_exs ?_ | with_reducible refine r_exli ?_)
local macro_rules | `(tactic| walk_at "go") => `(tactic| repeat walk_at "st")
local macro_rules | `(tactic| walk_at "in") => `(tactic| dsimp only [noxK, cxK, L2.start, List.map_cons, List.map_nil, List.length_cons, List.length_nil, Nat.reduceAdd, Nat.reduceSub, List.replicate, List.cons_append, List.nil_append])

section
variable {P : Program} {w : World} {K : PySem.W.Frag} {mg : Str → Option Value} {base : Heap} {C : Addr}
/-- Lot(xs) by __init__'s promise -/
theorem init_end {H2 : Hp} {D : Addr} {xs : List V} {ps : AL} {R : Addr → Hp → Prop} {E : XK} (hD : H2 D = some (.lst xs)) (hps : Paired (PrA H2) xs ps) (hl : xs.length ≤ 30) (h0 : ∀ q ∈ ps, 0 ≤ q.2)
    (q : ∀ (x : Addr) (m' : AL) (H' : Hp), H2 x = none → LoA C H' x m' → (∀ k, get m' k = tot ps k) → Same H2 H' → R x H') :
    ∀ x dx, H2 x = none → H2 dx = none → dx ≠ x → spLotInit K C [.ref x, .ref D] (upd (upd H2 dx (.own x)) x (.ins C dx [])) (fun v H2 => v = .non ∧ R x H2) E := by
  intro x dx hx hdx ne
  have s1 : Same H2 (upd (upd H2 dx (.own x)) x (.ins C dx [])) := fun c o e => by
    have n1 : c ≠ x := ne_of_none e hx
    have n2 : c ≠ dx := ne_of_none e hdx
    walk_at "hp"
  refine ⟨x, dx, D, xs, ps, rfl, upd_same, SqL.of (s1 _ _ hD), Paired.mapP hps fun _ _ z => z.same s1, hl, h0, fun m H' La hg kp => ⟨rfl, ?_⟩⟩
  refine q x m H' hx La hg fun c o e => ?_
  exact kp c o (s1 c o e) (ne_of_none e hx)
abbrev sLotMul : Stmt := inClass (top 14) 14
theorem scLotMul : FnScope ["self", "other", "kind", "many"] ["self", "other"] (defScope sLotMul) := ⟨rfl, rfl, rfl, by decide +kernel, rfl, by decide +kernel, by decide +kernel⟩
def spLotMul (C : Addr) : Sp := fun vs H Q _ => ∃ (a : Addr) (n : Int) (m : AL), vs = [.ref a, .int n] ∧ LoA C H a m ∧ 0 ≤ n ∧ n.natAbs < 2 ^ 300 ∧ (∀ p ∈ m, p.2.natAbs < 2 ^ 300) ∧
  ∀ (x : Addr) (m' : AL) (H' : Hp), H x = none → LoA C H' x m' → (∀ k, get m' k = get m k * n) → Same H H' → Q (.ref x) H'
theorem ok_lotMul {f : Addr} {fd : FuncData} (F : Fun K "__mul__" "Lot.__mul__" sLotMul f fd) (L : TxL K C) (Op : OCal P w K mg base CX0 2 C "pairs" ["self"] (spLotPairs C)) (Om : OMk P w K mg base CX0 2 C "Lot" ["self", "pairs"] (spLotInit K C)) : FnOk P w K mg base CX0 4 f fd ["self", "other"] (spLotMul C) := by
  refine F.ok scLotMul (fun vs H Q E h => ?_) (fun cdv A outer s H vs Q E hr h => ?_)
  · obtain ⟨a, n, m, rfl, _⟩ := h
    rfl
  · obtain ⟨a, n, m, rfl, La, n0, nb, mb, q⟩ := h
    refine ⟨_, (pss_one (ps_ret (pe_makeO Om hr pass0 (pa_cons (pe_lc (own := [("kind", 2), ("many", 3)]) (g := gTup _ 2 (gCons (gName 2) (gCons (gName 3) gNil))) (tt := tYes) rfl scLotMul.nd (pi_tup (pe_methO0 Op L.oc.cl (hr.mono (by decide)) pass0 (pv 0))) (blkOk_by (N := ["self", "other", "kind", "many"]) (sc := defScope sLotMul) (by decide +kernel)) (fun _ _ _ _ _ => (pg_tup rfl (pgs_cons (pg_name (i := 2) scLotMul.nd rfl (Or.inl rfl)) (pgs_cons (pg_name (i := 3) scLotMul.nd rfl (Or.inl rfl)) pgs_nil)))) (fun _ _ _ _ _ => pts_nil) (fun _ _ _ _ _ => (pe_tup (pa_cons (pv 2) (pa_cons (pe_op op_mulW (pv 3) (pv 1)) pa_nil))))) pa_nil)))), ?_⟩
    walk_at "in"
    walk_at "go"
    obtain ⟨⟨d, dx, h1, h2⟩, nd, mp, ml⟩ := id La
    refine r_mk ?_
    walk_at "go"
    refine r_meth0 ?_
    walk_at "go"
    refine ⟨a, dx, _, rfl, h1, look1, a, m, rfl, La, fun p ts qs H1 hp hp1 hts cn s1 => ?_⟩
    walk_at "go"
    intro D hD
    have lts : ts.length ≤ 30 := by rw [Paired.len hts, cn.len mp]; exact ml
    have lq : ts.length = qs.length := Paired.len hts
    refine lc_it (walk_tup (xs := ts)) (fun i H' => ∃ xs, H' D = some (.lst xs) ∧ Paired (PrA H') xs ((qs.take i).map fun q => (q.1, q.2 * n)) ∧ Same H1 H') ?_ ?_ ?_ ?_
    · exact ⟨[], upd_same, .nil, fun c o e => by have n1 : c ≠ D := ne_of_none e hD; walk_at "hp"⟩
    · rintro i H' _ ⟨_, _, _, s2⟩
      exact SqT.of (s2 _ _ hp1)
    · rintro i x _ H2 hi ⟨xs, hD1, hxs, s2⟩ ⟨rfl, hx⟩
      obtain ⟨r, hr1, t, rfl, ht⟩ := Paired.at hts hx
      have ht2 := s2 _ _ ht
      walk_at "go"
      refine ⟨rfl, ?_⟩
      walk_at "go"
      refine iteT ?_
      walk_at "go"
      refine r_I (wide_mul (mb r ((cn.mem mp r).mp (List.mem_of_getElem? hr1))) nb (by decide) (by decide) (by decide)) ?_
      walk_at "go"
      rename_i u hu1
      have n2 : D ≠ u := ne_of_none hD1 hu1
      have lxs := Paired.len hxs
      have ltk : ((qs.take i).map fun q => (q.1, q.2 * n)).length ≤ i := by rw [List.length_map, List.length_take]; omega
      have k2 : Kp D H2 (upd (upd H2 u (.tup [V.str r.1, V.int (r.2 * n)])) D (.lst (xs ++ [V.ref u]))) := fun c o e n => by walk_at "hp"
      refine ⟨xs, by walk_at "hp", szl (by omega), xs ++ [V.ref u], upd_same, ?_, fun c o e => ?_⟩
      · rw [List.take_add_one, hr1, List.map_append]
        exact Paired.app (PrA.kpdAll hxs k2 hD1 (fun _ z => by cases z)) (.cons ⟨u, rfl, by walk_at "hp"⟩ .nil)
      · have n4 : c ≠ D := ne_of_none e hD
        walk_at "hp"
    · rintro H2 ⟨xs, hD1, hxs, s2⟩
      rw [lq, List.take_length] at hxs
      have lxs := Paired.len hxs
      rw [List.length_map] at lxs
      refine init_end hD1 hxs (by omega) (fun z hz => ?_) fun x m' H' hx La' hg s3 => ?_
      · obtain ⟨r, hr1, rfl⟩ := List.mem_map.mp hz
        exact Int.mul_nonneg (Int.le_of_lt (mp r ((cn.mem mp r).mp hr1))) n0
      · refine q x m' H' (s1.free (s2.free hx)) La' (fun k => ?_) fun c o e => s3 _ _ (s2 _ _ (s1 _ _ e))
        rw [hg k, cn.totf mp nd (fun _ v => v * n)]
        split
        · rfl
        · rename_i hk
          rw [get_none hk, Int.zero_mul]
end
end My

--T /opt/kit/linked/4bf7bf6c73b87d88f1ba1c555b42b7c50cec9cc5/law_k05_how_often_and_what_is_left/T.py
namespace My
open PySem L2
local macro_rules | `(tactic| walk_at "bx1") => `(tactic| first | with_reducible assumption | ((with_reducible refine' Bx.upd ?h1 ?h2); (case h1 => walk_at "bx1"); (case h2 => walk_at "ne")) | ((with_reducible refine' Bx.same ?h1 (by with_reducible assumption)); (case h1 => walk_at "bx1")))
local macro_rules | `(tactic| walk_at "bx") => `(tactic| (refine' Bx.mono ?h1 ?h2; (case h1 => walk_at "bx1"); (case h2 => omega)))
local macro_rules | `(tactic| walk_at "ne") => `(tactic| first | with_reducible assumption | exact Ne.symm (by with_reducible assumption) | ((with_reducible refine' ne_of_none ?h1 (by with_reducible assumption)); (case h1 => walk_at "hp")) | ((with_reducible refine' Ne.symm (ne_of_none ?h1 (by with_reducible assumption))); (case h1 => walk_at "hp")) | ((with_reducible refine' Bx.ne ?h1 (by with_reducible assumption)); (case h1 => walk_at "bx1")) | ((with_reducible refine' Ne.symm (Bx.ne ?h1 (by with_reducible assumption))); (case h1 => walk_at "bx1")))
local macro_rules | `(tactic| walk_at "hp") => `(tactic| first | with_reducible assumption | ((with_reducible refine' (upd_same.trans ?h1)); (case h1 => rfl)) | ((with_reducible refine' My.upd_at ?h1 ?h2); (case h1 => walk_at "hp"); (case h2 => walk_at "ne")) | ((with_reducible refine' My.Kp.at (by with_reducible assumption) ?h1 ?h2); (case h1 => walk_at "hp"); (case h2 => walk_at "ne")) | ((with_reducible refine' My.Same.at (by with_reducible assumption) ?h1); (case h1 => walk_at "hp")))
local macro_rules | `(tactic| walk_at "sq") => `(tactic| first | with_reducible assumption | exact SqL.of (by walk_at "hp") | exact SqT.of (by walk_at "hp") | ((with_reducible refine' My.SqT.upd ?h1 (by with_reducible assumption)); (case h1 => walk_at "sq")) | ((with_reducible refine' My.SqL.upd ?h1 (by with_reducible assumption)); (case h1 => walk_at "sq")) | ((with_reducible refine' Same.seq (by with_reducible assumption) ?h1); (case h1 => walk_at "sq")) | ((with_reducible refine' My.SqT.same ?h1 (by with_reducible assumption)); (case h1 => walk_at "sq")) | ((with_reducible refine' My.SqT.kp ?h1 (by with_reducible assumption) ?h2); (case h1 => walk_at "sq"); (case h2 => walk_at "bx1")) | ((with_reducible refine' My.SqL.kp ?h1 (by with_reducible assumption) ?h2); (case h1 => walk_at "sq"); (case h2 => walk_at "ne")))
local macro_rules | `(tactic| walk_at "sd") => `(tactic| first | assumption | omega | decide | (refine ⟨?_, ?_⟩ <;> (first | omega | decide)) | (refine Or.inl ⟨?_, ?_⟩ <;> (first | omega | decide)) | (refine Or.inr ⟨?_, ?_⟩ <;> (first | omega | decide)) | (refine ⟨?_, ?_, ?_⟩ <;> (first | omega | decide)))
local macro_rules | `(tactic| walk_at "ps") => `(tactic| first
  | with_reducible refine r_seq ?_ | with_reducible refine r_asg ?_ | with_reducible refine r_op ?_ | with_reducible refine r_cons ?_ | with_reducible refine r_nil ?_ | with_reducible refine r_c ?_
  | with_reducible refine' r_var rfl ?_ | with_reducible refine r_gname ?_ | with_reducible refine r_cb ?_ | with_reducible refine r_I0 ?_ | with_reducible refine r_ret ?_ | with_reducible refine r_ifS ?_ | with_reducible refine r_test ?_ | with_reducible refine r_B ?_
  | with_reducible refine r_next ?_ | with_reducible refine r_drop ?_ | with_reducible refine r_if ?_ | with_reducible refine r_un ?_ | with_reducible refine r_U ?_ | with_reducible refine r_gsub ?_ | with_reducible refine r_tup ?_ | with_reducible refine r_lst ?_ | with_reducible refine r_bm ?_
  | with_reducible refine r_cal ?_ | with_reducible refine r_not ?_ | with_reducible refine r_and ?_ | with_reducible refine r_or ?_ | with_reducible refine r_andV ?_ | with_reducible refine r_orV ?_ | with_reducible refine r_notV ?_
  | with_reducible refine r_abs ?_ | with_reducible refine r_intI ?_ | with_reducible refine r_intB ?_ | with_reducible refine r_m1 ?_ | with_reducible refine r_slice ?_ | with_reducible refine r_part ?_ | with_reducible refine r_nopart ?_
  | with_reducible refine r_gcons ?_ | with_reducible refine r_gnil ?_
  | with_reducible refine r_par ?_ | with_reducible refine r_par3 ?_ | with_reducible refine r_ex2 ?_ | with_reducible refine r_ex3 ?_
  | with_reducible refine r_isN ?_ | with_reducible refine r_notN ?_
  | with_reducible refine r_iZipA ?_
  | with_reducible refine r_dget ?_ | with_reducible refine r_dget2 ?_ | with_reducible refine r_iKeys ?_ | with_reducible refine r_dput ?_
  | with_reducible refine r_for ?_ | with_reducible refine r_lc ?_ | with_reducible refine r_iList ?_ | with_reducible refine r_iTup ?_ | with_reducible refine r_iRng1 ?_ | with_reducible refine r_iEnum ?_ | with_reducible refine r_orT ?_ | with_reducible refine r_yes ?_ | with_reducible refine r_ixSl ?_)
local macro_rules | `(tactic| walk_at "st") => `(tactic| first
  | walk_at "ps"
  | ((with_reducible refine' r_ixL ?h1 ?h2 ?_); (case h1 => walk_at "sq"); (case h2 => rfl))
  | ((with_reducible refine' r_setL ?h1 ?h2 ?_); (case h1 => walk_at "hp"); (case h2 => rfl))
  | ((with_reducible refine' r_I ?h1 ?_); (case h1 => walk_at "sd"))
  | ((with_reducible refine' r_eq ?h1 ?_); (case h1 => rfl)) | ((with_reducible refine' r_ne ?h1 ?_); (case h1 => rfl))
  | ((with_reducible refine' r_lenL ?h1 ?_); (case h1 => walk_at "sq")) | ((with_reducible refine' r_lenT ?h1 ?_); (case h1 => walk_at "sq")) | ((with_reducible refine' r_lenD ?h1 ?_); (case h1 => walk_at "hp"))
  | ((with_reducible refine' r_slL ?h1 ?_); (case h1 => walk_at "sq"); intro _ _)
  | ((with_reducible refine' r_append ?h1 ?h2 ?_); (case h1 => walk_at "hp"); (case h2 => exact szl (by first | omega | (simp; omega))))
  | ((with_reducible refine' r_gtup ?h1 ?h2 ?_); (case h1 => walk_at "sq"); (case h2 => rfl))
  | ((with_reducible refine' r_cat ?h1 ?h2 ?h3 ?_); (case h1 => walk_at "hp"); (case h2 => walk_at "hp"); (case h3 => exact sz (by first | omega | (simp; omega))); intro _ _)
  | ((with_reducible refine' r_wLst ?h1 ?_); (case h1 => walk_at "sq")) | ((with_reducible refine' r_wTup ?h1 ?_); (case h1 => walk_at "sq"))
  | ((with_reducible refine' r_wRng ?h1 ?_); (case h1 => walk_at "sd"))
  | ((with_reducible refine' r_truL ?h1 ?_); (case h1 => walk_at "sq"))
  | ((with_reducible refine' r_list (Or.inl ?h1) ?_); (case h1 => walk_at "sq"); intro _ _) | ((with_reducible refine' r_list (Or.inr ?h1) ?_); (case h1 => walk_at "sq"); intro _ _)
  | ((with_reducible refine' r_tupL ?h1 ?_); (case h1 => walk_at "sq"); intro _ _) | ((with_reducible refine' r_tupT ?h1 ?_); (case h1 => walk_at "sq"))
  | ((with_reducible refine' r_disp ?h1 ?_); (case h1 => exact Nat.le_of_ble_eq_true rfl); intro _ _)
  | ((with_reducible refine r_dnewK ?_); intro _ _)
  | ((with_reducible refine' r_tyL ?h1 ?_); (case h1 => walk_at "sq")) | with_reducible refine r_strV ?_
  | with_reducible refine r_exb ?_ | with_reducible refine r_exi ?_ | with_reducible refine r_exr ?_ | with_reducible refine r_exs ?_ | with_reducible refine r_exli ?_)
local macro_rules | `(tactic| walk_at "go") => `(tactic| repeat walk_at "st")
local macro_rules | `(tactic| walk_at "in") => `(tactic| dsimp only [noxK, cxK, L2.start, List.map_cons, List.map_nil, List.length_cons, List.length_nil, Nat.reduceAdd, Nat.reduceSub, List.replicate, List.cons_append, List.nil_append])

section
variable {P : Program} {w : World} {K : PySem.W.Frag} {mg : Str → Option Value} {base : Heap} {C : Addr}
abbrev sLotSub : Stmt := inClass (top 14) 13
theorem scLotSub : FnScope ["self", "other", "kind", "many"] ["self", "other"] (defScope sLotSub) := ⟨rfl, rfl, rfl, by decide +kernel, rfl, by decide +kernel, by decide +kernel⟩
def spLotSub (C : Addr) : Sp := fun vs H Q _ => ∃ (a b : Addr) (m m2 : AL), vs = [.ref a, .ref b] ∧ LoA C H a m ∧ LoA C H b m2 ∧ (∀ k, get m2 k ≤ get m k) ∧
  ∀ (x : Addr) (m' : AL) (H' : Hp), H x = none → LoA C H' x m' → (∀ k, get m' k = get m k - get m2 k) → Same H H' → Q (.ref x) H'
theorem ok_lotSub {f : Addr} {fd : FuncData} (F : Fun K "__sub__" "Lot.__sub__" sLotSub f fd) (L : TxL K C) (Op : OCal P w K mg base CX0 2 C "pairs" ["self"] (spLotPairs C)) (Og : OCal P w K mg base CX0 1 C "__getitem__" ["self", "at"] (spLotGetitem C)) (Om : OMk P w K mg base CX0 2 C "Lot" ["self", "pairs"] (spLotInit K C)) : FnOk P w K mg base CX0 4 f fd ["self", "other"] (spLotSub C) := by
  refine F.ok scLotSub (fun vs H Q E h => ?_) (fun cdv A outer s H vs Q E hr h => ?_)
  · obtain ⟨a, b, m, m2, rfl, _⟩ := h
    rfl
  · obtain ⟨a, b, m, m2, rfl, La, Lb, le, q⟩ := h
    refine ⟨_, (pss_cons (ps_for PassesOwn.never rfl (pi_tup (pe_methO0 Op L.oc.cl (hr.mono (by decide)) pass0 (pv 1))) (pg_tup rfl (pgs_cons (pg_name (i := 2) scLotSub.nd rfl (Or.inl rfl)) (pgs_cons (pg_name (i := 3) scLotSub.nd rfl (Or.inl rfl)) pgs_nil)))
  (pss_one (ps_if (pt_cmpR op_lt (pe_ixO Og (hr.mono (by decide)) pass0 (pv 0) (pv 2)) (pv 3) (nomark _))
  pss_never
  pss_nil)))
  (pss_one (ps_ret (pe_makeO Om hr pass0 (pa_cons (pe_lc (own := [("kind", 2), ("many", 3)]) (g := gTup _ 2 (gCons (gName 2) (gCons (gName 3) gNil))) (tt := tYes) rfl scLotSub.nd (pi_tup (pe_methO0 Op L.oc.cl (hr.mono (by decide)) pass0 (pv 0))) (blkOk_by (N := ["self", "other", "kind", "many"]) (sc := defScope sLotSub) (by decide +kernel)) (fun _ _ _ _ _ => (pg_tup rfl (pgs_cons (pg_name (i := 2) scLotSub.nd rfl (Or.inl rfl)) (pgs_cons (pg_name (i := 3) scLotSub.nd rfl (Or.inl rfl)) pgs_nil)))) (fun _ _ _ _ _ => pts_nil) (fun _ _ _ _ _ => (pe_tup (pa_cons (pv 2) (pa_cons (pe_op op_sub (pv 3) (pe_ixO Og (hr.mono (by decide)) pass0 (pv 1) (pv 2))) pa_nil))))) pa_nil))))), ?_⟩
    walk_at "in"
    walk_at "go"
    obtain ⟨⟨d, dx, h1, h2⟩, nd, mp, ml⟩ := id La
    obtain ⟨⟨d2, dx2, h12, h22⟩, nd2, mp2, ml2⟩ := id Lb
    refine r_meth0 ?_
    walk_at "go"
    refine ⟨b, dx2, _, rfl, h12, look1, b, m2, rfl, Lb, fun p2 ts2 qs2 H1 hp2 hp21 hts2 cn2 s1 => ?_⟩
    walk_at "go"
    refine for_it (walk_tup (xs := ts2)) (fun i σ H' => ∃ (x2 x3 : Option V), σ = [some (.ref a), some (.ref b), x2, x3] ∧ Same H1 H') ?_ ?_ ?_ ?_
    · exact ⟨none, none, rfl, fun c o e => e⟩
    · rintro i σ H' _ ⟨_, _, _, s2⟩
      exact SqT.of (s2 _ _ hp21)
    · rintro i x σ _ H2 hi ⟨x2, x3, rfl, s2⟩ ⟨rfl, hx⟩
      obtain ⟨r, hr1, t, rfl, ht⟩ := Paired.at hts2 hx
      have ht2 := s2 _ _ ht
      walk_at "go"
      refine r_ixO ?_
      walk_at "go"
      refine ⟨a, dx, _, rfl, s2 _ _ (s1 _ _ h1), a, r.1, m, rfl, (La.same s1).same s2, ?_⟩
      walk_at "go"
      have rm : r ∈ m2 := (cn2.mem mp2 r).mp (List.mem_of_getElem? hr1)
      have g2 : get m2 r.1 = r.2 := by
        unfold get
        rw [(look_mem nd2).mpr (show (r.1, r.2) ∈ m2 from rm)]
        rfl
      have lek := le r.1
      refine ite_dF (by omega) ?_
      walk_at "go"
      exact ⟨_, _, rfl, s2⟩
    rintro σ H2 ⟨x2, x3, rfl, s2⟩
    have s12 : Same H H2 := fun c o e => s2 _ _ (s1 _ _ e)
    walk_at "go"
    refine r_mk ?_
    walk_at "go"
    refine r_meth0 ?_
    walk_at "go"
    refine ⟨a, dx, _, rfl, s12 _ _ h1, look1, a, m, rfl, La.same s12, fun p ts qs H3 hp hp1 hts cn s3 => ?_⟩
    walk_at "go"
    have s13 : Same H H3 := fun c o e => s3 _ _ (s12 _ _ e)
    intro D hD
    have lts : ts.length ≤ 30 := by rw [Paired.len hts, cn.len mp]; exact ml
    have lq : ts.length = qs.length := Paired.len hts
    refine lc_it (walk_tup (xs := ts)) (fun i H' => ∃ xs, H' D = some (.lst xs) ∧ Paired (PrA H') xs ((qs.take i).map fun q => (q.1, q.2 - get m2 q.1)) ∧ Same H3 H') ?_ ?_ ?_ ?_
    · exact ⟨[], upd_same, .nil, fun c o e => by have n1 : c ≠ D := ne_of_none e hD; walk_at "hp"⟩
    · rintro i H' _ ⟨_, _, _, s4⟩
      exact SqT.of (s4 _ _ hp1)
    · rintro i x _ H4 hi ⟨xs, hD1, hxs, s4⟩ ⟨rfl, hx⟩
      obtain ⟨r, hr1, t, rfl, ht⟩ := Paired.at hts hx
      have ht2 := s4 _ _ ht
      walk_at "go"
      refine ⟨rfl, ?_⟩
      walk_at "go"
      refine iteT ?_
      walk_at "go"
      refine r_ixO ?_
      walk_at "go"
      have s14 : Same H H4 := fun c o e => s4 _ _ (s13 _ _ e)
      refine ⟨b, dx2, _, rfl, s14 _ _ h12, b, r.1, m2, rfl, Lb.same s14, ?_⟩
      walk_at "go"
      rename_i u hu1
      have n2 : D ≠ u := ne_of_none hD1 hu1
      have lxs := Paired.len hxs
      have ltk : ((qs.take i).map fun q => (q.1, q.2 - get m2 q.1)).length ≤ i := by rw [List.length_map, List.length_take]; omega
      have k2 : Kp D H4 (upd (upd H4 u (.tup [V.str r.1, V.int (r.2 - get m2 r.1)])) D (.lst (xs ++ [V.ref u]))) := fun c o e n => by walk_at "hp"
      refine ⟨xs, by walk_at "hp", szl (by omega), xs ++ [V.ref u], upd_same, ?_, fun c o e => ?_⟩
      · rw [List.take_add_one, hr1, List.map_append]
        exact Paired.app (PrA.kpdAll hxs k2 hD1 (fun _ z => by cases z)) (.cons ⟨u, rfl, by walk_at "hp"⟩ .nil)
      · have n4 : c ≠ D := ne_of_none e hD
        have e4 := s4 _ _ e
        walk_at "hp"
    · rintro H4 ⟨xs, hD1, hxs, s4⟩
      rw [lq, List.take_length] at hxs
      have lxs := Paired.len hxs
      rw [List.length_map] at lxs
      refine init_end hD1 hxs (by omega) (fun z hz => ?_) fun x m' H' hx La' hg s5 => ?_
      · obtain ⟨r, hr1, rfl⟩ := List.mem_map.mp hz
        have rm : r ∈ m := (cn.mem mp r).mp hr1
        have g1 : get m r.1 = r.2 := by
          unfold get
          rw [(look_mem nd).mpr (show (r.1, r.2) ∈ m from rm)]
          rfl
        have := le r.1
        show 0 ≤ r.2 - get m2 r.1
        omega
      · refine q x m' H' (s13.free (s4.free hx)) La' (fun k => ?_) fun c o e => s5 _ _ (s4 _ _ (s13 _ _ e))
        rw [hg k, cn.totf mp nd (fun k v => v - get m2 k)]
        split
        · rfl
        · rename_i hk
          have g0 := get_none hk
          have := le k
          have := get_nn mp2 nd2 k
          omega
end
end My

--T /opt/kit/linked/4bf7bf6c73b87d88f1ba1c555b42b7c50cec9cc5/law_k05_how_often_and_what_is_left/T.py
namespace My
open PySem L2
local macro_rules | `(tactic| walk_at "bx1") => `(tactic| first | with_reducible assumption | ((with_reducible refine' Bx.upd ?h1 ?h2); (case h1 => walk_at "bx1"); (case h2 => walk_at "ne")) | ((with_reducible refine' Bx.same ?h1 (by with_reducible assumption)); (case h1 => walk_at "bx1")))
local macro_rules | `(tactic| walk_at "bx") => `(tactic| (refine' Bx.mono ?h1 ?h2; (case h1 => walk_at "bx1"); (case h2 => omega)))
local macro_rules | `(tactic| walk_at "ne") => `(tactic| first | with_reducible assumption | exact Ne.symm (by with_reducible assumption) | ((with_reducible refine' ne_of_none ?h1 (by with_reducible assumption)); (case h1 => walk_at "hp")) | ((with_reducible refine' Ne.symm (ne_of_none ?h1 (by with_reducible assumption))); (case h1 => walk_at "hp")) | ((with_reducible refine' Bx.ne ?h1 (by with_reducible assumption)); (case h1 => walk_at "bx1")) | ((with_reducible refine' Ne.symm (Bx.ne ?h1 (by with_reducible assumption))); (case h1 => walk_at "bx1")))
local macro_rules | `(tactic| walk_at "hp") => `(tactic| first | with_reducible assumption | ((with_reducible refine' (upd_same.trans ?h1)); (case h1 => rfl)) | ((with_reducible refine' My.upd_at ?h1 ?h2); (case h1 => walk_at "hp"); (case h2 => walk_at "ne")) | ((with_reducible refine' My.Kp.at (by with_reducible assumption) ?h1 ?h2); (case h1 => walk_at "hp"); (case h2 => walk_at "ne")) | ((with_reducible refine' My.Same.at (by with_reducible assumption) ?h1); (case h1 => walk_at "hp")))
local macro_rules | `(tactic| walk_at "sq") => `(tactic| first | with_reducible assumption | exact SqL.of (by walk_at "hp") | exact SqT.of (by walk_at "hp") | ((with_reducible refine' My.SqT.upd ?h1 (by with_reducible assumption)); (case h1 => walk_at "sq")) | ((with_reducible refine' My.SqL.upd ?h1 (by with_reducible assumption)); (case h1 => walk_at "sq")) | ((with_reducible refine' Same.seq (by with_reducible assumption) ?h1); (case h1 => walk_at "sq")) | ((with_reducible refine' My.SqT.same ?h1 (by with_reducible assumption)); (case h1 => walk_at "sq")) | ((with_reducible refine' My.SqT.kp ?h1 (by with_reducible assumption) ?h2); (case h1 => walk_at "sq"); (case h2 => walk_at "bx1")) | ((with_reducible refine' My.SqL.kp ?h1 (by with_reducible assumption) ?h2); (case h1 => walk_at "sq"); (case h2 => walk_at "ne")))
local macro_rules | `(tactic| walk_at "sd") => `(tactic| first | assumption | omega | decide | (refine ⟨?_, ?_⟩ <;> (first | omega | decide)) | (refine Or.inl ⟨?_, ?_⟩ <;> (first | omega | decide)) | (refine Or.inr ⟨?_, ?_⟩ <;> (first | omega | decide)) | (refine ⟨?_, ?_, ?_⟩ <;> (first | omega | decide)))
local macro_rules | `(tactic| walk_at "ps") => `(tactic| first
  | with_reducible refine r_seq ?_ | with_reducible refine r_asg ?_ | with_reducible refine r_op ?_ | with_reducible refine r_cons ?_ | with_reducible refine r_nil ?_ | with_reducible refine r_c ?_
  | with_reducible refine' r_var rfl ?_ | with_reducible refine r_gname ?_ | with_reducible refine r_cb ?_ | with_reducible refine r_I0 ?_ | with_reducible refine r_ret ?_ | with_reducible refine r_ifS ?_ | with_reducible refine r_test ?_ | with_reducible refine r_B ?_
  | with_reducible refine r_next ?_ | with_reducible refine r_drop ?_ | with_reducible refine r_if ?_ | with_reducible refine r_un ?_ | with_reducible refine r_U ?_ | with_reducible refine r_gsub ?_ | with_reducible refine r_tup ?_ | with_reducible refine r_lst ?_ | with_reducible refine r_bm ?_
  | with_reducible refine r_cal ?_ | with_reducible refine r_not ?_ | with_reducible refine r_and ?_ | with_reducible refine r_or ?_ | with_reducible refine r_andV ?_ | with_reducible refine r_orV ?_ | with_reducible refine r_notV ?_
  | with_reducible refine r_abs ?_ | with_reducible refine r_intI ?_ | with_reducible refine r_intB ?_ | with_reducible refine r_m1 ?_ | with_reducible refine r_slice ?_ | with_reducible refine r_part ?_ | with_reducible refine r_nopart ?_
  | with_reducible refine r_gcons ?_ | with_reducible refine r_gnil ?_
  | with_reducible refine r_par ?_ | with_reducible refine r_par3 ?_ | with_reducible refine r_ex2 ?_ | with_reducible refine r_ex3 ?_
  | with_reducible refine r_isN ?_ | with_reducible refine r_notN ?_
  | with_reducible refine r_iZipA ?_
  | with_reducible refine r_dget ?_ | with_reducible refine r_dget2 ?_ | with_reducible refine r_iKeys ?_ | with_reducible refine r_dput ?_
  | with_reducible refine r_for ?_ | with_reducible refine r_lc ?_ | with_reducible refine r_iList ?_ | with_reducible refine r_iTup ?_ | with_reducible refine r_iRng1 ?_ | with_reducible refine r_iEnum ?_ | with_reducible refine r_orT ?_ | with_reducible refine r_yes ?_ | with_reducible refine r_ixSl ?_)
local macro_rules | `(tactic| walk_at "st") => `(tactic| first
  | walk_at "ps"
  | ((with_reducible refine' r_ixL ?h1 ?h2 ?_); (case h1 => walk_at "sq"); (case h2 => rfl))
  | ((with_reducible refine' r_setL ?h1 ?h2 ?_); (case h1 => walk_at "hp"); (case h2 => rfl))
  | ((with_reducible refine' r_I ?h1 ?_); (case h1 => walk_at "sd"))
  | ((with_reducible refine' r_eq ?h1 ?_); (case h1 => rfl)) | ((with_reducible refine' r_ne ?h1 ?_); (case h1 => rfl))
  | ((with_reducible refine' r_lenL ?h1 ?_); (case h1 => walk_at "sq")) | ((with_reducible refine' r_lenT ?h1 ?_); (case h1 => walk_at "sq")) | ((with_reducible refine' r_lenD ?h1 ?_); (case h1 => walk_at "hp"))
  | ((with_reducible refine' r_slL ?h1 ?_); (case h1 => walk_at "sq"); intro _ _)
  | ((with_reducible refine' r_append ?h1 ?h2 ?_); (case h1 => walk_at "hp"); (case h2 => exact szl (by first | omega | (simp; omega))))
  | ((with_reducible refine' r_gtup ?h1 ?h2 ?_); (case h1 => walk_at "sq"); (case h2 => rfl))
  | ((with_reducible refine' r_cat ?h1 ?h2 ?h3 ?_); (case h1 => walk_at "hp"); (case h2 => walk_at "hp"); (case h3 => exact sz (by first | omega | (simp; omega))); intro _ _)
  | ((with_reducible refine' r_wLst ?h1 ?_); (case h1 => walk_at "sq")) | ((with_reducible refine' r_wTup ?h1 ?_); (case h1 => walk_at "sq"))
  | ((with_reducible refine' r_wRng ?h1 ?_); (case h1 => walk_at "sd"))
  | ((with_reducible refine' r_truL ?h1 ?_); (case h1 => walk_at "sq"))
  | ((with_reducible refine' r_list (Or.inl ?h1) ?_); (case h1 => walk_at "sq"); intro _ _) | ((with_reducible refine' r_list (Or.inr ?h1) ?_); (case h1 => walk_at "sq"); intro _ _)
  | ((with_reducible refine' r_tupL ?h1 ?_); (case h1 => walk_at "sq"); intro _ _) | ((with_reducible refine' r_tupT ?h1 ?_); (case h1 => walk_at "sq"))
  | ((with_reducible refine' r_disp ?h1 ?_); (case h1 => exact Nat.le_of_ble_eq_true rfl); intro _ _)
  | ((with_reducible refine r_dnewK ?_); intro _ _)
  | ((with_reducible refine' r_tyL ?h1 ?_); (case h1 => walk_at "sq")) | with_reducible refine r_strV ?_
  | with_reducible refine r_exb ?_ | with_reducible refine r_exi ?_ | with_reducible refine r_exr ?_ | with_reducible refine r_exs ?_ | with_reducible refine r_exli ?_)
local macro_rules | `(tactic| walk_at "go") => `(tactic| repeat walk_at "st")
local macro_rules | `(tactic| walk_at "in") => `(tactic| dsimp only [noxK, cxK, L2.start, List.map_cons, List.map_nil, List.length_cons, List.length_nil, Nat.reduceAdd, Nat.reduceSub, List.replicate, List.cons_append, List.nil_append])

section
variable {P : Program} {w : World} {K : PySem.W.Frag} {mg : Str → Option Value} {base : Heap} {C : Addr}
theorem r_len0 {K : PySem.W.Frag} {σ : L2.St} {H : Hp} {Q : VK} {E : XK} {a dx d : Addr} {m : AL} (h : LoA C H a m) (h1 : H a = some (.ins C dx [("_many", .ref d)])) (q : Q (.int m.length) H) :
    ∃ a' dx fs, [V.ref a] = [V.ref a'] ∧ H a' = some (.ins C dx fs) ∧ spLotLen C [.ref a] H (fun v H' => ∃ n : Int, v = .int n ∧ (0 ≤ n ∧ n < 2 ^ 63) ∧ Q v H') E :=
  ⟨a, dx, _, rfl, h1, a, m, rfl, h, m.length, rfl, ⟨by omega, by have := h.ln; omega⟩, q⟩
theorem get_of {m : AL} (nd : (keys m).Nodup) {r : Str × Int} (h : r ∈ m) : get m r.1 = r.2 := by
  unfold get
  rw [(look_mem nd).mpr (show (r.1, r.2) ∈ m from h)]
  rfl
abbrev sLotFloordiv : Stmt := inClass (top 14) 18
theorem scLotFloordiv : FnScope ["self", "other", "kind", "many"] ["self", "other"] (defScope sLotFloordiv) := ⟨rfl, rfl, rfl, by decide +kernel, rfl, by decide +kernel, by decide +kernel⟩
def spLotFdiv (C : Addr) : Sp := fun vs H Q _ => ∃ (a b : Addr) (m m2 : AL), vs = [.ref a, .ref b] ∧ LoA C H a m ∧ LoA C H b m2 ∧ m2 ≠ [] ∧ (∀ p ∈ m, p.2.natAbs < 2 ^ 300) ∧ (∀ p ∈ m2, p.2.natAbs < 2 ^ 300) ∧
  ∀ (n : Int) (H' : Hp), 0 ≤ n → n.natAbs < 2 ^ 300 → (∀ k, get m2 k * n ≤ get m k) → (∃ k ∈ keys m2, get m k < get m2 k * (n + 1)) → Same H H' → Q (.int n) H'
theorem get_abs {m : AL} {b : Nat} (hb : 0 < b) (nd : (keys m).Nodup) (h : ∀ p ∈ m, p.2.natAbs < b) (k : Str) : (get m k).natAbs < b := by
  by_cases c : k ∈ keys m
  · obtain ⟨p, hp, rfl⟩ := List.mem_map.mp c
    rw [get_of nd hp]
    exact h p hp
  · rw [get_none c]
    exact hb
theorem ok_lotFdiv {f : Addr} {fd : FuncData} (F : Fun K "__floordiv__" "Lot.__floordiv__" sLotFloordiv f fd) (T : Txt K mg) (L : TxL K C) (Op : OCal P w K mg base CX0 2 C "pairs" ["self"] (spLotPairs C)) (Og : OCal P w K mg base CX0 1 C "__getitem__" ["self", "at"] (spLotGetitem C)) (Ol : OCal P w K mg base CX0 1 C "__len__" ["self"] (spLotLen C)) : FnOk P w K mg base CX0 3 f fd ["self", "other"] (spLotFdiv C) := by
  refine F.ok scLotFloordiv (fun vs H Q E h => ?_) (fun cdv A outer s H vs Q E hr h => ?_)
  · obtain ⟨a, b, m, m2, rfl, _⟩ := h
    rfl
  · obtain ⟨a, b, m, m2, rfl, La, Lb, ne, mb, mb2, q⟩ := h
    refine ⟨_, (pss_cons (ps_if (pt_cmpR op_eq (pe_callB (c_lenO Ol hr pass0) (by rfl) T.len (by decide +kernel) (pa_cons (pv 1) pa_nil)) pe_int (nomark _))
  pss_never
  pss_nil)
  (pss_one (ps_ret (pe_callB (cr_min rfl) (by rfl) T.min (by decide +kernel) (pa_cons (pe_lc (own := [("kind", 2), ("many", 3)]) (g := gTup _ 2 (gCons (gName 2) (gCons (gName 3) gNil))) (tt := tYes) rfl scLotFloordiv.nd (pi_tup (pe_methO0 Op L.oc.cl hr pass0 (pv 1))) (blkOk_by (N := ["self", "other", "kind", "many"]) (sc := defScope sLotFloordiv) (by decide +kernel)) (fun _ _ _ _ _ => (pg_tup rfl (pgs_cons (pg_name (i := 2) scLotFloordiv.nd rfl (Or.inl rfl)) (pgs_cons (pg_name (i := 3) scLotFloordiv.nd rfl (Or.inl rfl)) pgs_nil)))) (fun _ _ _ _ _ => pts_nil) (fun _ _ _ _ _ => (pe_callTy c_int (by rfl) T.int (by decide +kernel) (pa_cons (pe_op op_fdivW (pe_ixO Og hr pass0 (pv 0) (pv 2)) (pv 3)) pa_nil)))) pa_nil))))), ?_⟩
    walk_at "in"
    walk_at "go"
    obtain ⟨⟨d, dx, h1, h2⟩, nd, mp, ml⟩ := id La
    obtain ⟨⟨d2, dx2, h12, h22⟩, nd2, mp2, ml2⟩ := id Lb
    have l0 : 0 < m2.length := List.length_pos_iff.mpr ne
    refine ⟨b, dx2, _, rfl, h12, b, m2, rfl, Lb, m2.length, rfl, ⟨by omega, by omega⟩, ?_⟩
    walk_at "go"
    refine ite_dF (fun z => by have := V.int.inj z; omega) ?_
    walk_at "go"
    refine r_meth0 ?_
    walk_at "go"
    refine ⟨b, dx2, _, rfl, h12, look1, b, m2, rfl, Lb, fun p ts qs H1 hp hp1 hts cn s1 => ?_⟩
    walk_at "go"
    intro D hD
    have lts : ts.length ≤ 30 := by rw [Paired.len hts, cn.len mp2]; exact ml2
    have lq : ts.length = qs.length := Paired.len hts
    refine lc_it (walk_tup (xs := ts)) (fun i H' => H' D = some (.lst ((qs.take i).map fun q => V.int (get m q.1 / q.2))) ∧ Same H1 H') ?_ ?_ ?_ ?_
    · exact ⟨upd_same, fun c o e => by have n1 : c ≠ D := ne_of_none e hD; walk_at "hp"⟩
    · rintro i H' _ ⟨_, s2⟩
      exact SqT.of (s2 _ _ hp1)
    · rintro i x _ H2 hi ⟨hD1, s2⟩ ⟨rfl, hx⟩
      obtain ⟨r, hr1, t, rfl, ht⟩ := Paired.at hts hx
      have ht2 := s2 _ _ ht
      walk_at "go"
      refine ⟨rfl, ?_⟩
      walk_at "go"
      refine iteT ?_
      walk_at "go"
      refine r_ixO ?_
      walk_at "go"
      refine ⟨a, dx, _, rfl, s2 _ _ (s1 _ _ h1), a, r.1, m, rfl, (La.same s1).same s2, ?_⟩
      walk_at "go"
      have rm : r ∈ m2 := (cn.mem mp2 r).mp (List.mem_of_getElem? hr1)
      refine r_I (wide_div (mp2 r rm) (mb2 r rm) (by decide) (by decide)) ?_
      walk_at "go"
      refine ⟨_, by walk_at "hp", szl (by rw [List.length_map, List.length_take]; omega), ?_, fun c o e => ?_⟩
      · rw [List.take_add_one, hr1, List.map_append]
        exact upd_same
      · have n4 : c ≠ D := ne_of_none e hD
        have e4 := s2 _ _ e
        walk_at "hp"
    · rintro H2 ⟨hD1, s2⟩
      rw [lq, List.take_length] at hD1
      walk_at "go"
      have e1 : (qs.map fun q => V.int (get m q.1 / q.2)) = (qs.map fun q => get m q.1 / q.2).map V.int := by rw [List.map_map]; rfl
      rw [e1] at hD1
      refine ⟨D, _, rfl, SqL.of hD1, by rw [List.length_map, cn.len mp2]; exact l0, fun n hn hmin => ?_⟩
      obtain ⟨r, hr1, rfl⟩ := List.mem_map.mp hn
      have rm : r ∈ m2 := (cn.mem mp2 r).mp hr1
      have r0 := mp2 r rm
      have gnn := get_nn mp nd
      have n0 : 0 ≤ get m r.1 / r.2 := Int.ediv_nonneg (gnn _) (Int.le_of_lt r0)
      refine q _ H2 n0 ?_ (fun k => ?_) ⟨r.1, List.mem_map.mpr ⟨r, rm, rfl⟩, ?_⟩ fun c o e => s2 _ _ (s1 _ _ e)
      · have h3 := Int.ediv_le_self r.2 (gnn r.1)
        have h4 := get_abs (b := 2 ^ 300) (by decide) nd mb r.1
        have h5 := gnn r.1
        generalize get m r.1 / r.2 = z at *
        omega
      · by_cases c : k ∈ keys m2
        · obtain ⟨u, hu, rfl⟩ := List.mem_map.mp c
          rw [get_of nd2 hu]
          have u0 := mp2 u hu
          have h3 := hmin (get m u.1 / u.2) (List.mem_map.mpr ⟨u, (cn.mem mp2 u).mpr hu, rfl⟩)
          have h4 := Int.mul_ediv_self_le (x := get m u.1) (Int.ne_of_gt u0)
          have h5 := Int.mul_le_mul_of_nonneg_left h3 (Int.le_of_lt u0)
          exact Int.le_trans h5 h4
        · rw [get_none c, Int.zero_mul]
          exact gnn k
      · rw [get_of nd2 rm, Int.mul_comm]
        exact Int.lt_ediv_add_one_mul_self _ r0
end
end My

--T /opt/kit/linked/4bf7bf6c73b87d88f1ba1c555b42b7c50cec9cc5/law_k05_how_often_and_what_is_left/T.py
namespace My
open PySem L2
local macro_rules | `(tactic| walk_at "bx1") => `(tactic| first | with_reducible assumption | ((with_reducible refine' Bx.upd ?h1 ?h2); (case h1 => walk_at "bx1"); (case h2 => walk_at "ne")) | ((with_reducible refine' Bx.same ?h1 (by with_reducible assumption)); (case h1 => walk_at "bx1")))
local macro_rules | `(tactic| walk_at "bx") => `(tactic| (refine' Bx.mono ?h1 ?h2; (case h1 => walk_at "bx1"); (case h2 => omega)))
local macro_rules | `(tactic| walk_at "ne") => `(tactic| first | with_reducible assumption | exact Ne.symm (by with_reducible assumption) | ((with_reducible refine' ne_of_none ?h1 (by with_reducible assumption)); (case h1 => walk_at "hp")) | ((with_reducible refine' Ne.symm (ne_of_none ?h1 (by with_reducible assumption))); (case h1 => walk_at "hp")) | ((with_reducible refine' Bx.ne ?h1 (by with_reducible assumption)); (case h1 => walk_at "bx1")) | ((with_reducible refine' Ne.symm (Bx.ne ?h1 (by with_reducible assumption))); (case h1 => walk_at "bx1")))
local macro_rules | `(tactic| walk_at "hp") => `(tactic| first | with_reducible assumption | ((with_reducible refine' (upd_same.trans ?h1)); (case h1 => rfl)) | ((with_reducible refine' My.upd_at ?h1 ?h2); (case h1 => walk_at "hp"); (case h2 => walk_at "ne")) | ((with_reducible refine' My.Kp.at (by with_reducible assumption) ?h1 ?h2); (case h1 => walk_at "hp"); (case h2 => walk_at "ne")) | ((with_reducible refine' My.Same.at (by with_reducible assumption) ?h1); (case h1 => walk_at "hp")))
local macro_rules | `(tactic| walk_at "sq") => `(tactic| first | with_reducible assumption | exact SqL.of (by walk_at "hp") | exact SqT.of (by walk_at "hp") | ((with_reducible refine' My.SqT.upd ?h1 (by with_reducible assumption)); (case h1 => walk_at "sq")) | ((with_reducible refine' My.SqL.upd ?h1 (by with_reducible assumption)); (case h1 => walk_at "sq")) | ((with_reducible refine' Same.seq (by with_reducible assumption) ?h1); (case h1 => walk_at "sq")) | ((with_reducible refine' My.SqT.same ?h1 (by with_reducible assumption)); (case h1 => walk_at "sq")) | ((with_reducible refine' My.SqT.kp ?h1 (by with_reducible assumption) ?h2); (case h1 => walk_at "sq"); (case h2 => walk_at "bx1")) | ((with_reducible refine' My.SqL.kp ?h1 (by with_reducible assumption) ?h2); (case h1 => walk_at "sq"); (case h2 => walk_at "ne")))
local macro_rules | `(tactic| walk_at "sd") => `(tactic| first | assumption | omega | decide | (refine ⟨?_, ?_⟩ <;> (first | omega | decide)) | (refine Or.inl ⟨?_, ?_⟩ <;> (first | omega | decide)) | (refine Or.inr ⟨?_, ?_⟩ <;> (first | omega | decide)) | (refine ⟨?_, ?_, ?_⟩ <;> (first | omega | decide)))
local macro_rules | `(tactic| walk_at "ps") => `(tactic| first
  | with_reducible refine r_seq ?_ | with_reducible refine r_asg ?_ | with_reducible refine r_op ?_ | with_reducible refine r_cons ?_ | with_reducible refine r_nil ?_ | with_reducible refine r_c ?_
  | with_reducible refine' r_var rfl ?_ | with_reducible refine r_gname ?_ | with_reducible refine r_cb ?_ | with_reducible refine r_I0 ?_ | with_reducible refine r_ret ?_ | with_reducible refine r_ifS ?_ | with_reducible refine r_test ?_ | with_reducible refine r_B ?_
  | with_reducible refine r_next ?_ | with_reducible refine r_drop ?_ | with_reducible refine r_if ?_ | with_reducible refine r_un ?_ | with_reducible refine r_U ?_ | with_reducible refine r_gsub ?_ | with_reducible refine r_tup ?_ | with_reducible refine r_lst ?_ | with_reducible refine r_bm ?_
  | with_reducible refine r_cal ?_ | with_reducible refine r_not ?_ | with_reducible refine r_and ?_ | with_reducible refine r_or ?_ | with_reducible refine r_andV ?_ | with_reducible refine r_orV ?_ | with_reducible refine r_notV ?_
  | with_reducible refine r_abs ?_ | with_reducible refine r_intI ?_ | with_reducible refine r_intB ?_ | with_reducible refine r_m1 ?_ | with_reducible refine r_slice ?_ | with_reducible refine r_part ?_ | with_reducible refine r_nopart ?_
  | with_reducible refine r_gcons ?_ | with_reducible refine r_gnil ?_
  | with_reducible refine r_par ?_ | with_reducible refine r_par3 ?_ | with_reducible refine r_ex2 ?_ | with_reducible refine r_ex3 ?_
  | with_reducible refine r_isN ?_ | with_reducible refine r_notN ?_
  | with_reducible refine r_iZipA ?_
  | with_reducible refine r_dget ?_ | with_reducible refine r_dget2 ?_ | with_reducible refine r_iKeys ?_ | with_reducible refine r_dput ?_
  | with_reducible refine r_for ?_ | with_reducible refine r_lc ?_ | with_reducible refine r_iList ?_ | with_reducible refine r_iTup ?_ | with_reducible refine r_iRng1 ?_ | with_reducible refine r_iEnum ?_ | with_reducible refine r_orT ?_ | with_reducible refine r_yes ?_ | with_reducible refine r_ixSl ?_)
local macro_rules | `(tactic| walk_at "st") => `(tactic| first
  | walk_at "ps"
  | ((with_reducible refine' r_ixL ?h1 ?h2 ?_); (case h1 => walk_at "sq"); (case h2 => rfl))
  | ((with_reducible refine' r_setL ?h1 ?h2 ?_); (case h1 => walk_at "hp"); (case h2 => rfl))
  | ((with_reducible refine' r_I ?h1 ?_); (case h1 => walk_at "sd"))
  | ((with_reducible refine' r_eq ?h1 ?_); (case h1 => rfl)) | ((with_reducible refine' r_ne ?h1 ?_); (case h1 => rfl))
  | ((with_reducible refine' r_lenL ?h1 ?_); (case h1 => walk_at "sq")) | ((with_reducible refine' r_lenT ?h1 ?_); (case h1 => walk_at "sq")) | ((with_reducible refine' r_lenD ?h1 ?_); (case h1 => walk_at "hp"))
  | ((with_reducible refine' r_slL ?h1 ?_); (case h1 => walk_at "sq"); intro _ _)
  | ((with_reducible refine' r_append ?h1 ?h2 ?_); (case h1 => walk_at "hp"); (case h2 => exact szl (by first | omega | (simp; omega))))
  | ((with_reducible refine' r_gtup ?h1 ?h2 ?_); (case h1 => walk_at "sq"); (case h2 => rfl))
  | ((with_reducible refine' r_cat ?h1 ?h2 ?h3 ?_); (case h1 => walk_at "hp"); (case h2 => walk_at "hp"); (case h3 => exact sz (by first | omega | (simp; omega))); intro _ _)
  | ((with_reducible refine' r_wLst ?h1 ?_); (case h1 => walk_at "sq")) | ((with_reducible refine' r_wTup ?h1 ?_); (case h1 => walk_at "sq"))
  | ((with_reducible refine' r_wRng ?h1 ?_); (case h1 => walk_at "sd"))
  | ((with_reducible refine' r_truL ?h1 ?_); (case h1 => walk_at "sq"))
  | ((with_reducible refine' r_list (Or.inl ?h1) ?_); (case h1 => walk_at "sq"); intro _ _) | ((with_reducible refine' r_list (Or.inr ?h1) ?_); (case h1 => walk_at "sq"); intro _ _)
  | ((with_reducible refine' r_tupL ?h1 ?_); (case h1 => walk_at "sq"); intro _ _) | ((with_reducible refine' r_tupT ?h1 ?_); (case h1 => walk_at "sq"))
  | ((with_reducible refine' r_disp ?h1 ?_); (case h1 => exact Nat.le_of_ble_eq_true rfl); intro _ _)
  | ((with_reducible refine r_dnewK ?_); intro _ _)
  | ((with_reducible refine' r_tyL ?h1 ?_); (case h1 => walk_at "sq")) | with_reducible refine r_strV ?_
  | with_reducible refine r_exb ?_ | with_reducible refine r_exi ?_ | with_reducible refine r_exr ?_ | with_reducible refine r_exs ?_ | with_reducible refine r_exli ?_)
local macro_rules | `(tactic| walk_at "go") => `(tactic| repeat walk_at "st")
local macro_rules | `(tactic| walk_at "in") => `(tactic| dsimp only [noxK, cxK, L2.start, List.map_cons, List.map_nil, List.length_cons, List.length_nil, Nat.reduceAdd, Nat.reduceSub, List.replicate, List.cons_append, List.nil_append])

section
variable {P : Program} {w : World} {K : PySem.W.Frag} {mg : Str → Option Value} {base : Heap} {C : Addr}
/-- Lot * a whole number: what the types themselves know -/
structure TxI (K : PySem.W.Frag) (C : Addr) : Prop where
  ex : ∃ fo ro rc : Option Value, PySem.W.findIn K (.ref C) (dunderR Operator.Mult.info.2) = some rc ∧ (rc = none ∨ ∃ g : Addr, rc = some (.ref g)) ∧ PySem.W.findIn K (.type "int") (PySem.dunder Operator.Mult.info.2) = some fo ∧ PySem.W.findIn K (.type "int") (dunderR Operator.Mult.info.2) = some ro
abbrev sLotMod : Stmt := inClass (top 14) 19
theorem scLotMod : FnScope ["self", "other"] ["self", "other"] (defScope sLotMod) := ⟨rfl, rfl, rfl, by decide +kernel, rfl, by decide +kernel, by decide +kernel⟩
def spLotMod (C : Addr) : Sp := fun vs H Q _ => ∃ (a b : Addr) (m m2 : AL), vs = [.ref a, .ref b] ∧ LoA C H a m ∧ LoA C H b m2 ∧ m2 ≠ [] ∧ (∀ p ∈ m, p.2.natAbs < 2 ^ 300) ∧ (∀ p ∈ m2, p.2.natAbs < 2 ^ 300) ∧
  ∀ (x : Addr) (n : Int) (m' : AL) (H' : Hp), H x = none → LoA C H' x m' → 0 ≤ n → (∀ k, get m2 k * n ≤ get m k) → (∃ k ∈ keys m2, get m k < get m2 k * (n + 1)) → (∀ k, get m' k = get m k - get m2 k * n) → Same H H' → Q (.ref x) H'
theorem ok_lotMod {f : Addr} {fd : FuncData} (F : Fun K "__mod__" "Lot.__mod__" sLotMod f fd) (L : TxL K C) (TI : TxI K C) (Of : OCal P w K mg base CX0 3 C (PySem.dunder Operator.FloorDiv.info.2) ["self", "other"] (spLotFdiv C)) (Ou : OCal P w K mg base CX0 4 C (PySem.dunder Operator.Mult.info.2) ["self", "other"] (spLotMul C)) (Os : OCal P w K mg base CX0 4 C (PySem.dunder Operator.Sub.info.2) ["self", "other"] (spLotSub C)) : FnOk P w K mg base CX0 5 f fd ["self", "other"] (spLotMod C) := by
  refine F.ok scLotMod (fun vs H Q E h => ?_) (fun cdv A outer s H vs Q E hr h => ?_)
  · obtain ⟨a, b, m, m2, rfl, _⟩ := h
    rfl
  · obtain ⟨a, b, m, m2, rfl, La, Lb, ne, mb, mb2, q⟩ := h
    obtain ⟨fo, ro, rc, e1, e2, e3, e4⟩ := TI.ex
    refine ⟨_, (pss_one (ps_ret (pe_bin Os L.oc hr passE0 (pv 0) (pe_binI Ou L.oc hr passE0 e1 e2 e3 e4 (pv 1) (pe_bin Of L.oc (hr.mono (by decide)) passE0 (pv 0) (pv 1)))))), ?_⟩
    walk_at "in"
    walk_at "go"
    obtain ⟨⟨d, dx, h1, h2⟩, nd, mp, ml⟩ := id La
    obtain ⟨⟨d2, dx2, h12, h22⟩, nd2, mp2, ml2⟩ := id Lb
    refine r_opS ?_
    walk_at "go"
    refine r_opS ?_
    walk_at "go"
    refine r_opS ?_
    walk_at "go"
    refine ⟨a, b, dx, dx2, _, _, rfl, rfl, h1, h12, a, b, m, m2, rfl, La, Lb, ne, mb, mb2, fun n H1 n0 nb le ex s1 => ?_⟩
    have Lb1 := Lb.same s1
    obtain ⟨k0, hk0, hlt⟩ := ex
    refine ⟨b, dx2, _, n, rfl, rfl, s1 _ _ h12, b, n, m2, rfl, Lb1, n0, nb, mb2, fun y m3 H2 hy Ly g3 s2 => ?_⟩
    have s12 : Same H H2 := fun c o e => s2 _ _ (s1 _ _ e)
    obtain ⟨⟨d3, dx3, h13, h23⟩, nd3, mp3, ml3⟩ := id Ly
    refine ⟨a, y, dx, dx3, _, _, rfl, rfl, s12 _ _ h1, h13, a, y, m, m3, rfl, La.same s12, Ly, fun k => ?_, fun x m4 H3 hx L4 g4 s3 => ?_⟩
    · rw [g3 k]
      exact le k
    · refine q x n m4 H3 (s12.free hx) L4 n0 le ⟨k0, hk0, hlt⟩ (fun k => ?_) fun c o e => s3 _ _ (s12 _ _ e)
      rw [g4 k, g3 k]
abbrev sLotIadd : Stmt := inClass (top 14) 20
theorem scLotIadd : FnScope ["self", "other"] ["self", "other"] (defScope sLotIadd) := ⟨rfl, rfl, rfl, by decide +kernel, rfl, by decide +kernel, by decide +kernel⟩
def spLotIadd (C : Addr) : Sp := fun vs H Q _ => ∃ (a b : Addr) (m m2 : AL), vs = [.ref a, .ref b] ∧ LoA C H a m ∧ LoA C H b m2 ∧ m.length + m2.length ≤ 30 ∧
  ∀ (m' : AL) (H' : Hp), LoA C H' a m' → (∀ k, get m' k = get m k + get m2 k) → Kp a H H' → Q (.ref a) H'
theorem ok_lotIadd {f : Addr} {fd : FuncData} (F : Fun K "__iadd__" "Lot.__iadd__" sLotIadd f fd) (L : TxL K C) (Op : OCal P w K mg base CX0 2 C "pairs" ["self"] (spLotPairs C)) (Cc : Cal P w K mg base CX0 1 "_counted" ["pairs"] (spOwnCountedT K)) : FnOk P w K mg base CX0 3 f fd ["self", "other"] (spLotIadd C) := by
  refine F.ok scLotIadd (fun vs H Q E h => ?_) (fun cdv A outer s H vs Q E hr h => ?_)
  · obtain ⟨a, b, m, m2, rfl, _⟩ := h
    rfl
  · obtain ⟨a, b, m, m2, rfl, La, Lb, lm, q⟩ := h
    refine ⟨_, (pss_cons (ps_fld (pv 0) (pe_cal Cc (hr.mono (by decide)) pass0 (pa_cons (pe_op op_catA (pe_methO0 Op L.oc.cl hr pass0 (pv 0)) (pe_methO0 Op L.oc.cl hr pass0 (pv 1))) pa_nil)) rfl)
  (pss_one (ps_ret (pv 0)))), ?_⟩
    walk_at "in"
    walk_at "go"
    obtain ⟨⟨d, dx, h1, h2⟩, nd, mp, ml⟩ := id La
    obtain ⟨⟨d2, dx2, h12, h22⟩, nd2, mp2, ml2⟩ := id Lb
    show tCal (spOwnCountedT K) E0 _ _ H _
    walk_at "go"
    refine r_meth0 ?_
    walk_at "go"
    refine ⟨a, dx, _, rfl, h1, look1, a, m, rfl, La, fun p ts qs H1 hp hp1 hts cn s1 => ?_⟩
    refine r_meth0 ?_
    walk_at "go"
    refine ⟨b, dx2, _, rfl, s1 _ _ h12, look1, b, m2, rfl, Lb.same s1, fun p2 ts2 qs2 H2 hp2 hp21 hts2 cn2 s2 => ?_⟩
    have l1 : ts.length = m.length := (Paired.len hts).trans (cn.len mp)
    have l2 : ts2.length = m2.length := (Paired.len hts2).trans (cn2.len mp2)
    refine r_catA (SqT.of (s2 _ _ hp1)) (SqT.of hp21) (sz (by omega)) fun c H3 hc s3 => ?_
    walk_at "go"
    have pp : Paired (PrA H3) (ts ++ ts2) (qs ++ qs2) := Paired.app (Paired.mapP hts fun _ _ z => (z.same s2).same s3) (Paired.mapP hts2 fun _ _ z => z.same s3)
    refine ⟨c, ts ++ ts2, qs ++ qs2, rfl, hc, pp, by rw [List.length_append]; omega, fun z hz => ?_, fun d' m' H4 hd' hm' nd' mp' hg lm' s4 => ?_⟩
    · rcases List.mem_append.mp hz with z' | z'
      · exact Int.le_of_lt (mp z ((cn.mem mp z).mp z'))
      · exact Int.le_of_lt (mp2 z ((cn2.mem mp2 z).mp z'))
    · have s14 : Same H H4 := fun c o e => s4 _ _ (s3 _ _ (s2 _ _ (s1 _ _ e)))
      have ha4 := s14 _ _ h1
      have na : d' ≠ a := fun z => by rw [z, s3 _ _ (s2 _ _ (s1 _ _ h1))] at hd'; cases hd'
      refine ⟨_, rfl, a, C, dx, _, rfl, ha4, L.oc.cl, L.nM, by show 1 < 1000; decide, ?_⟩
      walk_at "go"
      rw [List.length_append] at lm'
      have ep : putF "_many" (V.ref d') [(("_many" : Str), V.ref d)] = [(("_many" : Str), V.ref d')] := by
        show (if ("_many" : Str) = "_many" then _ else _) = _
        rw [if_pos rfl]
      refine q m' _ ⟨⟨d', dx, by rw [ep]; exact upd_same, by walk_at "hp"⟩, nd', mp', by omega⟩ (fun k => ?_) fun c o e n => ?_
      · have t1 := cn.totf mp nd (fun _ v => v) k
        have t2 := cn2.totf mp2 nd2 (fun _ v => v) k
        have e1 : (qs.map fun p => (p.1, p.2)) = qs := List.map_id' qs
        have e2 : (qs2.map fun p => (p.1, p.2)) = qs2 := List.map_id' qs2
        rw [e1] at t1
        rw [e2] at t2
        rw [hg k, tot_app, t1, t2]
        by_cases c1 : k ∈ keys m
        · rw [if_pos c1]
          by_cases c2 : k ∈ keys m2
          · rw [if_pos c2]
          · rw [if_neg c2, get_none c2]
        · rw [if_neg c1, get_none c1]
          by_cases c2 : k ∈ keys m2
          · rw [if_pos c2]
          · rw [if_neg c2, get_none c2]
      · have e4 := s14 _ _ e
        walk_at "hp"
end
end My

--T /opt/kit/linked/4bf7bf6c73b87d88f1ba1c555b42b7c50cec9cc5/law_k05_how_often_and_what_is_left/T.py
namespace My
open PySem L2
local macro_rules | `(tactic| walk_at "bx1") => `(tactic| first | with_reducible assumption | ((with_reducible refine' Bx.upd ?h1 ?h2); (case h1 => walk_at "bx1"); (case h2 => walk_at "ne")) | ((with_reducible refine' Bx.same ?h1 (by with_reducible assumption)); (case h1 => walk_at "bx1")))
local macro_rules | `(tactic| walk_at "bx") => `(tactic| (refine' Bx.mono ?h1 ?h2; (case h1 => walk_at "bx1"); (case h2 => omega)))
local macro_rules | `(tactic| walk_at "ne") => `(tactic| first | with_reducible assumption | exact Ne.symm (by with_reducible assumption) | ((with_reducible refine' ne_of_none ?h1 (by with_reducible assumption)); (case h1 => walk_at "hp")) | ((with_reducible refine' Ne.symm (ne_of_none ?h1 (by with_reducible assumption))); (case h1 => walk_at "hp")) | ((with_reducible refine' Bx.ne ?h1 (by with_reducible assumption)); (case h1 => walk_at "bx1")) | ((with_reducible refine' Ne.symm (Bx.ne ?h1 (by with_reducible assumption))); (case h1 => walk_at "bx1")))
local macro_rules | `(tactic| walk_at "hp") => `(tactic| first | with_reducible assumption | ((with_reducible refine' (upd_same.trans ?h1)); (case h1 => rfl)) | ((with_reducible refine' My.upd_at ?h1 ?h2); (case h1 => walk_at "hp"); (case h2 => walk_at "ne")) | ((with_reducible refine' My.Kp.at (by with_reducible assumption) ?h1 ?h2); (case h1 => walk_at "hp"); (case h2 => walk_at "ne")) | ((with_reducible refine' My.Same.at (by with_reducible assumption) ?h1); (case h1 => walk_at "hp")))
local macro_rules | `(tactic| walk_at "sq") => `(tactic| first | with_reducible assumption | exact SqL.of (by walk_at "hp") | exact SqT.of (by walk_at "hp") | ((with_reducible refine' My.SqT.upd ?h1 (by with_reducible assumption)); (case h1 => walk_at "sq")) | ((with_reducible refine' My.SqL.upd ?h1 (by with_reducible assumption)); (case h1 => walk_at "sq")) | ((with_reducible refine' Same.seq (by with_reducible assumption) ?h1); (case h1 => walk_at "sq")) | ((with_reducible refine' My.SqT.same ?h1 (by with_reducible assumption)); (case h1 => walk_at "sq")) | ((with_reducible refine' My.SqT.kp ?h1 (by with_reducible assumption) ?h2); (case h1 => walk_at "sq"); (case h2 => walk_at "bx1")) | ((with_reducible refine' My.SqL.kp ?h1 (by with_reducible assumption) ?h2); (case h1 => walk_at "sq"); (case h2 => walk_at "ne")))
local macro_rules | `(tactic| walk_at "sd") => `(tactic| first | assumption | omega | decide | (refine ⟨?_, ?_⟩ <;> (first | omega | decide)) | (refine Or.inl ⟨?_, ?_⟩ <;> (first | omega | decide)) | (refine Or.inr ⟨?_, ?_⟩ <;> (first | omega | decide)) | (refine ⟨?_, ?_, ?_⟩ <;> (first | omega | decide)))
local macro_rules | `(tactic| walk_at "ps") => `(tactic| first
  | with_reducible refine r_seq ?_ | with_reducible refine r_asg ?_ | with_reducible refine r_op ?_ | with_reducible refine r_cons ?_ | with_reducible refine r_nil ?_ | with_reducible refine r_c ?_
  | with_reducible refine' r_var rfl ?_ | with_reducible refine r_gname ?_ | with_reducible refine r_cb ?_ | with_reducible refine r_I0 ?_ | with_reducible refine r_ret ?_ | with_reducible refine r_ifS ?_ | with_reducible refine r_test ?_ | with_reducible refine r_B ?_
  | with_reducible refine r_next ?_ | with_reducible refine r_drop ?_ | with_reducible refine r_if ?_ | with_reducible refine r_un ?_ | with_reducible refine r_U ?_ | with_reducible refine r_gsub ?_ | with_reducible refine r_tup ?_ | with_reducible refine r_lst ?_ | with_reducible refine r_bm ?_
  | with_reducible refine r_cal ?_ | with_reducible refine r_not ?_ | with_reducible refine r_and ?_ | with_reducible refine r_or ?_ | with_reducible refine r_andV ?_ | with_reducible refine r_orV ?_ | with_reducible refine r_notV ?_
  | with_reducible refine r_abs ?_ | with_reducible refine r_intI ?_ | with_reducible refine r_intB ?_ | with_reducible refine r_m1 ?_ | with_reducible refine r_slice ?_ | with_reducible refine r_part ?_ | with_reducible refine r_nopart ?_
  | with_reducible refine r_gcons ?_ | with_reducible refine r_gnil ?_
  | with_reducible refine r_par ?_ | with_reducible refine r_par3 ?_ | with_reducible refine r_ex2 ?_ | with_reducible refine r_ex3 ?_
  | with_reducible refine r_isN ?_ | with_reducible refine r_notN ?_
  | with_reducible refine r_iZipA ?_
  | with_reducible refine r_dget ?_ | with_reducible refine r_dget2 ?_ | with_reducible refine r_iKeys ?_ | with_reducible refine r_dput ?_
  | with_reducible refine r_for ?_ | with_reducible refine r_lc ?_ | with_reducible refine r_iList ?_ | with_reducible refine r_iTup ?_ | with_reducible refine r_iRng1 ?_ | with_reducible refine r_iEnum ?_ | with_reducible refine r_orT ?_ | with_reducible refine r_yes ?_ | with_reducible refine r_ixSl ?_)
local macro_rules | `(tactic| walk_at "st") => `(tactic| first
  | walk_at "ps"
  | ((with_reducible refine' r_ixL ?h1 ?h2 ?_); (case h1 => walk_at "sq"); (case h2 => rfl))
  | ((with_reducible refine' r_setL ?h1 ?h2 ?_); (case h1 => walk_at "hp"); (case h2 => rfl))
  | ((with_reducible refine' r_I ?h1 ?_); (case h1 => walk_at "sd"))
  | ((with_reducible refine' r_eq ?h1 ?_); (case h1 => rfl)) | ((with_reducible refine' r_ne ?h1 ?_); (case h1 => rfl))
  | ((with_reducible refine' r_lenL ?h1 ?_); (case h1 => walk_at "sq")) | ((with_reducible refine' r_lenT ?h1 ?_); (case h1 => walk_at "sq")) | ((with_reducible refine' r_lenD ?h1 ?_); (case h1 => walk_at "hp"))
  | ((with_reducible refine' r_slL ?h1 ?_); (case h1 => walk_at "sq"); intro _ _)
  | ((with_reducible refine' r_append ?h1 ?h2 ?_); (case h1 => walk_at "hp"); (case h2 => exact szl (by first | omega | (simp; omega))))
  | ((with_reducible refine' r_gtup ?h1 ?h2 ?_); (case h1 => walk_at "sq"); (case h2 => rfl))
  | ((with_reducible refine' r_cat ?h1 ?h2 ?h3 ?_); (case h1 => walk_at "hp"); (case h2 => walk_at "hp"); (case h3 => exact sz (by first | omega | (simp; omega))); intro _ _)
  | ((with_reducible refine' r_wLst ?h1 ?_); (case h1 => walk_at "sq")) | ((with_reducible refine' r_wTup ?h1 ?_); (case h1 => walk_at "sq"))
  | ((with_reducible refine' r_wRng ?h1 ?_); (case h1 => walk_at "sd"))
  | ((with_reducible refine' r_truL ?h1 ?_); (case h1 => walk_at "sq"))
  | ((with_reducible refine' r_list (Or.inl ?h1) ?_); (case h1 => walk_at "sq"); intro _ _) | ((with_reducible refine' r_list (Or.inr ?h1) ?_); (case h1 => walk_at "sq"); intro _ _)
  | ((with_reducible refine' r_tupL ?h1 ?_); (case h1 => walk_at "sq"); intro _ _) | ((with_reducible refine' r_tupT ?h1 ?_); (case h1 => walk_at "sq"))
  | ((with_reducible refine' r_disp ?h1 ?_); (case h1 => exact Nat.le_of_ble_eq_true rfl); intro _ _)
  | ((with_reducible refine r_dnewK ?_); intro _ _)
  | ((with_reducible refine' r_tyL ?h1 ?_); (case h1 => walk_at "sq")) | with_reducible refine r_strV ?_
  | with_reducible refine r_exb ?_ | with_reducible refine r_exi ?_ | with_reducible refine r_exr ?_ | with_reducible refine r_exs ?_ | with_reducible refine r_exli ?_)
local macro_rules | `(tactic| walk_at "go") => `(tactic| repeat walk_at "st")
local macro_rules | `(tactic| walk_at "in") => `(tactic| dsimp only [noxK, cxK, L2.start, List.map_cons, List.map_nil, List.length_cons, List.length_nil, Nat.reduceAdd, Nat.reduceSub, List.replicate, List.cons_append, List.nil_append])

section
variable {P : Program} {w : World} {K : PySem.W.Frag} {mg : Str → Option Value} {base : Heap} {C CN : Addr}
/-- facts of the error Nothing -/
structure TxN (K : PySem.W.Frag) (mg : Str → Option Value) (CN : Addr) : Prop where
  g : mg "Nothing" = some (.ref CN)
  x : PySem.W.excIn K CN [.type "ZeroDivisionError", .type "ArithmeticError", .type "Exception", .type "BaseException", .type "object"] "ZeroDivisionError.__new__" = true
  k : PySem.W.keepIn K (.ref CN) = true
  b : PySem.W.subIn K (.ref CN) (.type "BaseException") = some true
  t : PySem.W.typeIn K (.ref CN) = some (.type "type")
def spLotFdivX (C CN : Addr) : Sp := fun vs H Q E => ∃ (a b : Addr) (m : AL), vs = [.ref a, .ref b] ∧ LoA C H a m ∧ LoA C H b [] ∧ E (.ref CN) none H
theorem ok_lotFdivX {f : Addr} {fd : FuncData} (F : Fun K "__floordiv__" "Lot.__floordiv__" sLotFloordiv f fd) (T : Txt K mg) (L : TxL K C) (TN : TxN K mg CN) (Ol : OCal P w K mg base CX0 1 C "__len__" ["self"] (spLotLen C)) : FnOk P w K mg base (CX P w) 3 f fd ["self", "other"] (spLotFdivX C CN) := by
  refine F.okX scLotFloordiv (fun vs H Q E h => ?_) (fun cdv A outer s H vs Q E hr h => ?_)
  · obtain ⟨a, b, m, rfl, _⟩ := h
    rfl
  · obtain ⟨a, b, m, rfl, La, Lb, q⟩ := h
    refine ⟨_, pss_cons (ps_if (pt_cmpR op_eq (pe_callB (c_lenO Ol hr pass0) (by rfl) T.len (by decide +kernel) (pa_cons (pv 1) pa_nil)) pe_int (nomark _)) (pss_one (ps_raise rfl (takes_of rfl rfl rfl rfl) (pmk_own0 PySem.F.excBase_ZeroDivisionError TN.x TN.g TN.k (raises_own TN.b TN.t) (by rfl)))) pss_nil) pss_never, ?_⟩
    walk_at "in"
    walk_at "go"
    obtain ⟨⟨d2, dx2, h12, h22⟩, nd2, mp2, ml2⟩ := id Lb
    refine ⟨b, dx2, _, rfl, h12, b, [], rfl, Lb, ([] : AL).length, rfl, ⟨by decide, by decide⟩, ?_⟩
    walk_at "go"
    refine ite_dT rfl ?_
    exact q
theorem passTk {X : Cx} {W : WX} (tk : Takes X W) : PassS (CX X.prog X.w) X (fun σ => WE W σ) := fun pins σ H s e s' I c => passAt tk σ pins H s e s' I c
def spLotModX (C CN : Addr) : Sp := fun vs H Q E => ∃ (a b : Addr) (m : AL), vs = [.ref a, .ref b] ∧ LoA C H a m ∧ LoA C H b [] ∧ E (.ref CN) none H
abbrev sLotModX : Stmt := inClass (top 14) 19
theorem scLotModX : FnScope ["self", "other"] ["self", "other"] (defScope sLotModX) := ⟨rfl, rfl, rfl, by decide +kernel, rfl, by decide +kernel, by decide +kernel⟩
theorem ok_lotModX {f : Addr} {fd : FuncData} (F : Fun K "__mod__" "Lot.__mod__" sLotModX f fd) (L : TxL K C) (TI : TxI K C) (Of : OCal P w K mg base (CX P w) 3 C (PySem.dunder Operator.FloorDiv.info.2) ["self", "other"] (spLotFdivX C CN)) (Ou : OCal P w K mg base CX0 4 C (PySem.dunder Operator.Mult.info.2) ["self", "other"] (spLotMul C)) (Os : OCal P w K mg base CX0 4 C (PySem.dunder Operator.Sub.info.2) ["self", "other"] (spLotSub C)) : FnOk P w K mg base (CX P w) 5 f fd ["self", "other"] (spLotModX C CN) := by
  refine F.okX scLotModX (fun vs H Q E h => ?_) (fun cdv A outer s H vs Q E hr h => ?_)
  · obtain ⟨a, b, m, rfl, _⟩ := h
    rfl
  · obtain ⟨a, b, m, rfl, La, Lb, q⟩ := h
    obtain ⟨fo, ro, rc, e1, e2, e3, e4⟩ := TI.ex
    refine ⟨_, (pss_one (ps_ret (pe_bin Os L.oc hr passE0 (pv 0) (pe_binI Ou L.oc hr passE0 e1 e2 e3 e4 (pv 1) (pe_bin Of L.oc (hr.mono (by decide)) (passTk (takes_of rfl rfl rfl rfl)) (pv 0) (pv 1)))))), ?_⟩
    walk_at "in"
    walk_at "go"
    obtain ⟨⟨d, dx, h1, h2⟩, nd, mp, ml⟩ := id La
    obtain ⟨⟨d2, dx2, h12, h22⟩, nd2, mp2, ml2⟩ := id Lb
    refine r_opS ?_
    walk_at "go"
    refine r_opS ?_
    walk_at "go"
    refine r_opS ?_
    walk_at "go"
    exact ⟨a, b, dx, dx2, _, _, rfl, rfl, h1, h12, a, b, m, rfl, La, Lb, q⟩
end
end My

set_option exponentiation.threshold 3000
--T /opt/kit/linked/4bf7bf6c73b87d88f1ba1c555b42b7c50cec9cc5/law_k05_how_often_and_what_is_left/T.py
namespace My
open PySem L2
local macro_rules | `(tactic| walk_at "bx1") => `(tactic| first | with_reducible assumption | ((with_reducible refine' Bx.upd ?h1 ?h2); (case h1 => walk_at "bx1"); (case h2 => walk_at "ne")) | ((with_reducible refine' Bx.same ?h1 (by with_reducible assumption)); (case h1 => walk_at "bx1")))
local macro_rules | `(tactic| walk_at "bx") => `(tactic| (refine' Bx.mono ?h1 ?h2; (case h1 => walk_at "bx1"); (case h2 => omega)))
local macro_rules | `(tactic| walk_at "ne") => `(tactic| first | with_reducible assumption | exact Ne.symm (by with_reducible assumption) | ((with_reducible refine' ne_of_none ?h1 (by with_reducible assumption)); (case h1 => walk_at "hp")) | ((with_reducible refine' Ne.symm (ne_of_none ?h1 (by with_reducible assumption))); (case h1 => walk_at "hp")) | ((with_reducible refine' Bx.ne ?h1 (by with_reducible assumption)); (case h1 => walk_at "bx1")) | ((with_reducible refine' Ne.symm (Bx.ne ?h1 (by with_reducible assumption))); (case h1 => walk_at "bx1")))
local macro_rules | `(tactic| walk_at "hp") => `(tactic| first | with_reducible assumption | ((with_reducible refine' (upd_same.trans ?h1)); (case h1 => rfl)) | ((with_reducible refine' My.upd_at ?h1 ?h2); (case h1 => walk_at "hp"); (case h2 => walk_at "ne")) | ((with_reducible refine' My.Kp.at (by with_reducible assumption) ?h1 ?h2); (case h1 => walk_at "hp"); (case h2 => walk_at "ne")) | ((with_reducible refine' My.Same.at (by with_reducible assumption) ?h1); (case h1 => walk_at "hp")))
local macro_rules | `(tactic| walk_at "sq") => `(tactic| first | with_reducible assumption | exact SqL.of (by walk_at "hp") | exact SqT.of (by walk_at "hp") | ((with_reducible refine' My.SqT.upd ?h1 (by with_reducible assumption)); (case h1 => walk_at "sq")) | ((with_reducible refine' My.SqL.upd ?h1 (by with_reducible assumption)); (case h1 => walk_at "sq")) | ((with_reducible refine' Same.seq (by with_reducible assumption) ?h1); (case h1 => walk_at "sq")) | ((with_reducible refine' My.SqT.same ?h1 (by with_reducible assumption)); (case h1 => walk_at "sq")) | ((with_reducible refine' My.SqT.kp ?h1 (by with_reducible assumption) ?h2); (case h1 => walk_at "sq"); (case h2 => walk_at "bx1")) | ((with_reducible refine' My.SqL.kp ?h1 (by with_reducible assumption) ?h2); (case h1 => walk_at "sq"); (case h2 => walk_at "ne")))
local macro_rules | `(tactic| walk_at "sd") => `(tactic| first | assumption | omega | decide | (refine ⟨?_, ?_⟩ <;> (first | omega | decide)) | (refine Or.inl ⟨?_, ?_⟩ <;> (first | omega | decide)) | (refine Or.inr ⟨?_, ?_⟩ <;> (first | omega | decide)) | (refine ⟨?_, ?_, ?_⟩ <;> (first | omega | decide)))
local macro_rules | `(tactic| walk_at "ps") => `(tactic| first
  | with_reducible refine r_seq ?_ | with_reducible refine r_asg ?_ | with_reducible refine r_op ?_ | with_reducible refine r_cons ?_ | with_reducible refine r_nil ?_ | with_reducible refine r_c ?_
  | with_reducible refine' r_var rfl ?_ | with_reducible refine r_gname ?_ | with_reducible refine r_cb ?_ | with_reducible refine r_I0 ?_ | with_reducible refine r_ret ?_ | with_reducible refine r_ifS ?_ | with_reducible refine r_test ?_ | with_reducible refine r_B ?_
  | with_reducible refine r_next ?_ | with_reducible refine r_drop ?_ | with_reducible refine r_if ?_ | with_reducible refine r_un ?_ | with_reducible refine r_U ?_ | with_reducible refine r_gsub ?_ | with_reducible refine r_tup ?_ | with_reducible refine r_lst ?_ | with_reducible refine r_bm ?_
  | with_reducible refine r_cal ?_ | with_reducible refine r_not ?_ | with_reducible refine r_and ?_ | with_reducible refine r_or ?_ | with_reducible refine r_andV ?_ | with_reducible refine r_orV ?_ | with_reducible refine r_notV ?_
  | with_reducible refine r_abs ?_ | with_reducible refine r_intI ?_ | with_reducible refine r_intB ?_ | with_reducible refine r_m1 ?_ | with_reducible refine r_slice ?_ | with_reducible refine r_part ?_ | with_reducible refine r_nopart ?_
  | with_reducible refine r_gcons ?_ | with_reducible refine r_gnil ?_
  | with_reducible refine r_par ?_ | with_reducible refine r_par3 ?_ | with_reducible refine r_ex2 ?_ | with_reducible refine r_ex3 ?_
  | with_reducible refine r_isN ?_ | with_reducible refine r_notN ?_
  | with_reducible refine r_iZipA ?_
  | with_reducible refine r_dget ?_ | with_reducible refine r_dget2 ?_ | with_reducible refine r_iKeys ?_ | with_reducible refine r_dput ?_
  | with_reducible refine r_for ?_ | with_reducible refine r_lc ?_ | with_reducible refine r_iList ?_ | with_reducible refine r_iTup ?_ | with_reducible refine r_iRng1 ?_ | with_reducible refine r_iEnum ?_ | with_reducible refine r_orT ?_ | with_reducible refine r_yes ?_ | with_reducible refine r_ixSl ?_)
local macro_rules | `(tactic| walk_at "st") => `(tactic| first
  | walk_at "ps"
  | ((with_reducible refine' r_ixL ?h1 ?h2 ?_); (case h1 => walk_at "sq"); (case h2 => rfl))
  | ((with_reducible refine' r_setL ?h1 ?h2 ?_); (case h1 => walk_at "hp"); (case h2 => rfl))
  | ((with_reducible refine' r_I ?h1 ?_); (case h1 => walk_at "sd"))
  | ((with_reducible refine' r_eq ?h1 ?_); (case h1 => rfl)) | ((with_reducible refine' r_ne ?h1 ?_); (case h1 => rfl))
  | ((with_reducible refine' r_lenL ?h1 ?_); (case h1 => walk_at "sq")) | ((with_reducible refine' r_lenT ?h1 ?_); (case h1 => walk_at "sq")) | ((with_reducible refine' r_lenD ?h1 ?_); (case h1 => walk_at "hp"))
  | ((with_reducible refine' r_slL ?h1 ?_); (case h1 => walk_at "sq"); intro _ _)
  | ((with_reducible refine' r_append ?h1 ?h2 ?_); (case h1 => walk_at "hp"); (case h2 => exact szl (by first | omega | (simp; omega))))
  | ((with_reducible refine' r_gtup ?h1 ?h2 ?_); (case h1 => walk_at "sq"); (case h2 => rfl))
  | ((with_reducible refine' r_cat ?h1 ?h2 ?h3 ?_); (case h1 => walk_at "hp"); (case h2 => walk_at "hp"); (case h3 => exact sz (by first | omega | (simp; omega))); intro _ _)
  | ((with_reducible refine' r_wLst ?h1 ?_); (case h1 => walk_at "sq")) | ((with_reducible refine' r_wTup ?h1 ?_); (case h1 => walk_at "sq"))
  | ((with_reducible refine' r_wRng ?h1 ?_); (case h1 => walk_at "sd"))
  | ((with_reducible refine' r_truL ?h1 ?_); (case h1 => walk_at "sq"))
  | ((with_reducible refine' r_list (Or.inl ?h1) ?_); (case h1 => walk_at "sq"); intro _ _) | ((with_reducible refine' r_list (Or.inr ?h1) ?_); (case h1 => walk_at "sq"); intro _ _)
  | ((with_reducible refine' r_tupL ?h1 ?_); (case h1 => walk_at "sq"); intro _ _) | ((with_reducible refine' r_tupT ?h1 ?_); (case h1 => walk_at "sq"))
  | ((with_reducible refine' r_disp ?h1 ?_); (case h1 => exact Nat.le_of_ble_eq_true rfl); intro _ _)
  | ((with_reducible refine r_dnewK ?_); intro _ _)
  | ((with_reducible refine' r_tyL ?h1 ?_); (case h1 => walk_at "sq")) | with_reducible refine r_strV ?_
  | with_reducible refine r_exb ?_ | with_reducible refine r_exi ?_ | with_reducible refine r_exr ?_ | with_reducible refine r_exs ?_ | with_reducible refine r_exli ?_)
local macro_rules | `(tactic| walk_at "go") => `(tactic| repeat walk_at "st")
local macro_rules | `(tactic| walk_at "in") => `(tactic| dsimp only [noxK, cxK, L2.start, List.map_cons, List.map_nil, List.length_cons, List.length_nil, Nat.reduceAdd, Nat.reduceSub, List.replicate, List.cons_append, List.nil_append])

section
variable {P : Program} {w : World} {K : PySem.W.Frag} {mg : Str → Option Value} {base : Heap} {C CN : Addr}
def HandP (H : Hp) (x : V) : Prop := ∃ (t : Addr) (a b : Int), x = .ref t ∧ H t = some (.tup [.int a, .int b]) ∧ 0 ≤ a ∧ 0 < b ∧ a < 2 ^ 200 ∧ b < 2 ^ 150
theorem HandP.same {H H' : Hp} {x : V} (h : HandP H x) (s : Same H H') : HandP H' x := by
  obtain ⟨t, a, b, e, h, r⟩ := h
  exact ⟨t, a, b, e, s _ _ h, r⟩
theorem mem3 {x a b c : V} {i : Nat} (h : [a, b, c][i]? = some x) : x = a ∨ x = b ∨ x = c := by
  have := List.mem_of_getElem? h
  simpa using this
theorem fd_unique {a b n : Int} (hb : 0 < b) (h1 : b * n ≤ a) (h2 : a < b * (n + 1)) : n = a / b := by
  have h3 : n ≤ a / b := (Int.le_ediv_iff_mul_le hb).mpr (by rw [Int.mul_comm]; exact h1)
  have h4 : a / b < n + 1 := (Int.ediv_lt_iff_lt_mul hb).mpr (by rw [Int.mul_comm]; exact h2)
  omega
theorem tot1 (k0 : Str) (b : Int) (k : Str) : tot [(k0, b)] k = if k0 = k then b else 0 := by
  show (if k0 = k then b else 0) + 0 = _
  exact Int.add_zero _
theorem tot2 (k0 k1 : Str) (a b : Int) (k : Str) : tot [(k0, a), (k1, b)] k = (if k0 = k then a else 0) + (if k1 = k then b else 0) := by
  show _ + (_ + 0) = _
  rw [Int.add_zero]
theorem sm_list {K : PySem.W.Frag} {n : Nat} {H : Hp} {a b : Addr} {xs ys : List V} (h1 : H a = some (.lst xs)) (h2 : H b = some (.lst ys)) (e : xs = ys) (hl : xs.length ≤ 1000) (hi : ∀ x ∈ xs, ∃ i, x = V.int i) : Sm K (n + 2) (.ref a) (.ref b) H := by
  subst e
  refine Or.inr (Or.inl ⟨a, b, xs, xs, rfl, rfl, h1, h2, rfl, hl, fun i u v hu hv => ?_⟩)
  rw [hu] at hv
  cases hv
  exact Or.inl ⟨rfl, Or.inr (Or.inr (Or.inl (hi u (List.mem_of_getElem? hu))))⟩
abbrev sByHandRight : Stmt := top 27
theorem scByHandRight : FnScope ["_law_names_here", "_law_mine", "_law_its", "_law_got", "_law_one_so", "_law_two_so"] ["_law_names_here"] (defScope sByHandRight) := ⟨rfl, rfl, rfl, by decide +kernel, rfl, by decide +kernel, by decide +kernel⟩
def spByHand (K : PySem.W.Frag) : Sp := fun vs H Q _ => ∃ (l : Addr) (k0 k1 : Str), vs = [.ref l] ∧ H l = some (.lst [.str k0, .str k1]) ∧ k0 ≠ k1 ∧ ∀ H', Same H H' → Q (.bl true) H'
theorem ok_byHand {f : Addr} {fd : FuncData} (F : Fun K "_law_by_hand_right" "_law_by_hand_right" sByHandRight f fd) (T : Txt K mg) (L : TxL K C) (TI : TxI K C)
    (Om : OMk P w K mg base CX0 2 C "Lot" ["self", "pairs"] (spLotInit K C)) (Og : OCal P w K mg base CX0 1 C "__getitem__" ["self", "at"] (spLotGetitem C))
    (Of : OCal P w K mg base CX0 3 C (PySem.dunder Operator.FloorDiv.info.2) ["self", "other"] (spLotFdiv C)) (Orm : OCal P w K mg base CX0 5 C (PySem.dunder Operator.Mod.info.2) ["self", "other"] (spLotMod C)) (Ou : OCal P w K mg base CX0 4 C (PySem.dunder Operator.Mult.info.2) ["self", "other"] (spLotMul C))
    (Cs : Cal P w K mg base CX0 2 "_law_same" ["_law_got", "_law_due"] (spSame K 2)) : FnOk P w K mg base CX0 6 f fd ["_law_names_here"] (spByHand K) := by
  refine F.ok scByHandRight (fun vs H Q E h => ?_) (fun cdv A outer s H vs Q E hr h => ?_)
  · obtain ⟨l, k0, k1, rfl, _⟩ := h
    rfl
  · obtain ⟨l, k0, k1, rfl, hl, ne, q⟩ := h
    obtain ⟨fo, ro, rc, e1, e2, e3, e4⟩ := TI.ex
    refine ⟨_, (pss_cons (ps_for PassesOwn.never rfl (pi_list (pe_lst (pa_cons (pe_tup (pa_cons (pe_op op_add (pe_op op_pow pe_int pe_int) pe_int) (pa_cons (pe_op op_add (pe_op op_pow pe_int pe_int) pe_int) pa_nil))) (pa_cons (pe_tup (pa_cons (pe_op op_sub (pe_op op_pow pe_int pe_int) pe_int) (pa_cons (pe_op op_pow pe_int pe_int) pa_nil))) (pa_cons (pe_tup (pa_cons (pe_op op_sub (pe_op op_pow pe_int pe_int) pe_int) (pa_cons (pe_op op_pow pe_int pe_int) pa_nil))) pa_nil))))) (pg_tup rfl (pgs_cons (pg_name (i := 1) scByHandRight.nd rfl (Or.inl rfl)) (pgs_cons (pg_name (i := 2) scByHandRight.nd rfl (Or.inl rfl)) pgs_nil)))
  (pss_cons (ps_par (i := 4) (j := 5) rfl scByHandRight.nd rfl rfl (by decide) rfl rfl (pa_cons (pe_makeO Om (hr.mono (by decide)) pass0 (pa_cons (pe_lst (pa_cons (pe_tup (pa_cons (pe_ix ix_list (pv 0) pe_int (fun _ _ => rfl)) (pa_cons (pv 1) pa_nil))) (pa_cons (pe_tup (pa_cons (pe_ix ix_list (pv 0) pe_int (fun _ _ => rfl)) (pa_cons (pe_op op_pow pe_int pe_int) pa_nil))) pa_nil))) pa_nil)) (pa_cons (pe_makeO Om (hr.mono (by decide)) pass0 (pa_cons (pe_lst (pa_cons (pe_tup (pa_cons (pe_ix ix_list (pv 0) pe_int (fun _ _ => rfl)) (pa_cons (pv 2) pa_nil))) pa_nil)) pa_nil)) pa_nil)) (by rfl))
  (pss_cons (ps_set (i := 3) scByHandRight.nd rfl (Or.inl rfl) (pe_lst (pa_cons (pe_bin Of L.oc (hr.mono (by decide)) passE0 (pv 4) (pv 5)) (pa_cons (pe_ixO Og (hr.mono (by decide)) pass0 (pe_bin Orm L.oc hr passE0 (pv 4) (pv 5)) (pe_ix ix_list (pv 0) pe_int (fun _ _ => rfl))) (pa_cons (pe_bin Of L.oc (hr.mono (by decide)) passE0 (pe_binI Ou L.oc (hr.mono (by decide)) passE0 e1 e2 e3 e4 (pv 5) (pe_op op_pow pe_int pe_int)) (pv 5)) pa_nil)))))
  (pss_one (ps_if (pt_not (pt_val (pe_cal Cs (hr.mono (by decide)) pass0 (pa_cons (pv 3) (pa_cons (pe_lst (pa_cons (pe_op op_fdivW (pv 1) (pv 2)) (pa_cons (pe_op op_sub (pv 1) (pe_op op_mulW (pv 2) (pe_op op_fdivW (pv 1) (pv 2)))) (pa_cons (pe_op op_pow pe_int pe_int) pa_nil)))) pa_nil)))))
  (pss_one (ps_ret pe_bl))
  pss_nil)))))
  (pss_one (ps_ret pe_bl))), ?_⟩
    walk_at "in"
    walk_at "go"
    rename_i t1 ht1 t2 ht2 t3 ht3 D hD
    refine for_it (walk_list (xs := [V.ref t1, V.ref t2, V.ref t3])) (fun i σ H' => ∃ (x1 x2 x3 x4 x5 : Option V), σ = [some (.ref l), x1, x2, x3, x4, x5] ∧ Same H H' ∧ H' D = some (.lst [V.ref t1, V.ref t2, V.ref t3]) ∧ HandP H' (.ref t1) ∧ HandP H' (.ref t2) ∧ HandP H' (.ref t3)) ?_ ?_ ?_ ?_
    · refine ⟨_, _, _, _, _, rfl, fun c o e => by walk_at "hp", upd_same, ⟨t1, _, _, rfl, by walk_at "hp", by decide, by decide, by decide, by decide⟩, ⟨t2, _, _, rfl, by walk_at "hp", by decide, by decide, by decide, by decide⟩, ⟨t3, _, _, rfl, by walk_at "hp", by decide, by decide, by decide, by decide⟩⟩
    · rintro i σ H' _ ⟨_, _, _, _, _, _, _, h, _⟩
      exact SqL.of h
    · rintro i x σ _ H1 hi ⟨x1, x2, x3, x4, x5, rfl, s1, hD1, p1, p2, p3⟩ ⟨rfl, hx⟩
      obtain ⟨t, a, b, rfl, ht, a0, b0, ab, bb⟩ : HandP H1 x := by
        rcases mem3 hx with z | z | z
        · rw [z]; exact p1
        · rw [z]; exact p2
        · rw [z]; exact p3
      clear hx
      have hl1 := s1 _ _ hl
      walk_at "go"
      refine r_mk ?_
      walk_at "go"
      rename_i u1 hu1 u2 hu2 L1 hL1
      refine init_end (xs := [V.ref u1, V.ref u2]) (ps := [(k0, a), (k1, 10 ^ 50)]) ?_ ?_ (by simp) (fun z hz => ?_) fun x m1 H2 hx La g1 s2 => ?_
      · exact upd_same
      · exact .cons ⟨u1, rfl, by walk_at "hp"⟩ (.cons ⟨u2, rfl, by walk_at "hp"⟩ .nil)
      · rcases List.mem_cons.mp hz with z' | z'
        · rw [z']; exact a0
        · rw [List.mem_singleton.mp z']
          show (0 : Int) ≤ 10 ^ 50
          decide
      have s12 : Same H1 H2 := fun c o e => s2 _ _ (by walk_at "hp")
      clear s2 hu2 hL1 hu1
      have hl2 := s12 _ _ hl1
      walk_at "go"
      refine r_mk ?_
      walk_at "go"
      rename_i u3 hu3 L2' hL2
      refine init_end (xs := [V.ref u3]) (ps := [(k0, b)]) ?_ ?_ (by simp) (fun z hz => ?_) fun y m2 H3 hy Lb g2 s3 => ?_
      · exact upd_same
      · exact .cons ⟨u3, rfl, by walk_at "hp"⟩ .nil
      · rw [List.mem_singleton.mp hz]; exact Int.le_of_lt b0
      have s23 : Same H2 H3 := fun c o e => s3 _ _ (by walk_at "hp")
      clear s3 hu3 hL2
      have La3 := La.same s23
      obtain ⟨⟨d, dx, h1, h2⟩, nd, mp, ml⟩ := id La3
      obtain ⟨⟨d2, dx2, h12, h22⟩, nd2, mp2, ml2⟩ := id Lb
      have g1' : ∀ k, get m1 k = (if k0 = k then a else 0) + (if k1 = k then 10 ^ 50 else 0) := fun k => (g1 k).trans (tot2 _ _ _ _ k)
      have g2' : ∀ k, get m2 k = if k0 = k then b else 0 := fun k => (g2 k).trans (tot1 _ _ k)
      have g10 : get m1 k0 = a := by rw [g1', if_pos rfl, if_neg (Ne.symm ne), Int.add_zero]
      have g20 : get m2 k0 = b := by rw [g2', if_pos rfl]
      have ne2 : m2 ≠ [] := fun z => by rw [z] at g20; have : (0 : Int) = b := g20; omega
      have only : ∀ k ∈ keys m2, k = k0 := fun k hk => by
        have h3 := get_pos mp2 nd2 hk
        rw [g2'] at h3
        by_cases c : k0 = k
        · exact c.symm
        · rw [if_neg c] at h3; omega
      have mb : ∀ p ∈ m1, p.2.natAbs < 2 ^ 300 := fun p hp => by
        have h3 := get_of nd hp
        rw [g1'] at h3
        have h4 := mp p hp
        split at h3 <;> split at h3 <;> omega
      have mb2 : ∀ p ∈ m2, p.2.natAbs < 2 ^ 300 := fun p hp => by
        have h3 := get_of nd2 hp
        rw [g2'] at h3
        have h4 := mp2 p hp
        split at h3 <;> omega
      walk_at "go"
      refine r_opS ?_
      walk_at "go"
      refine ⟨x, y, dx, dx2, _, _, rfl, rfl, h1, h12, x, y, m1, m2, rfl, La3, Lb, ne2, mb, mb2, fun n H4 n0 nb le ex s4 => ?_⟩
      obtain ⟨kk, hkk, hlt⟩ := ex
      have ekk := only kk hkk
      rw [ekk] at hlt
      have en : n = a / b := fd_unique b0 (by have := le k0; rw [g10, g20] at this; exact this) (by rw [g10, g20] at hlt; exact hlt)
      walk_at "go"
      have Lb4 := Lb.same s4
      refine r_ixO ?_
      refine r_opS ?_
      walk_at "go"
      refine ⟨x, y, dx, dx2, _, _, rfl, rfl, s4 _ _ h1, s4 _ _ h12, x, y, m1, m2, rfl, La3.same s4, Lb4, ne2, mb, mb2, fun z n' m3 H5 hz Lz n0' le' ex' g3 s5 => ?_⟩
      obtain ⟨kk', hkk', hlt'⟩ := ex'
      rw [only kk' hkk'] at hlt'
      have en' : n' = a / b := fd_unique b0 (by have := le' k0; rw [g10, g20] at this; exact this) (by rw [g10, g20] at hlt'; exact hlt')
      have hl5 : H5 l = some (.lst [.str k0, .str k1]) := s5 _ _ (s4 _ _ (s23 _ _ hl2))
      walk_at "go"
      obtain ⟨⟨dz, dxz, hz1, hz2⟩, ndz, mpz, mlz⟩ := id Lz
      refine ⟨z, dxz, _, rfl, hz1, z, k0, m3, rfl, Lz, ?_⟩
      walk_at "go"
      refine r_opS ?_
      refine r_opS ?_
      walk_at "go"
      have h125 := s5 _ _ (s4 _ _ h12)
      refine ⟨y, dx2, _, _, rfl, rfl, h125, y, 10 ^ 30, m2, rfl, Lb4.same s5, by decide, by decide, mb2, fun v m4 H6 hv Lv g4 s6 => ?_⟩
      walk_at "go"
      obtain ⟨⟨dv, dxv, hv1, hv2⟩, ndv, mpv, mlv⟩ := id Lv
      have mb4 : ∀ p ∈ m4, p.2.natAbs < 2 ^ 300 := fun p hp => by
        have h3 := get_of ndv hp
        rw [g4, g2'] at h3
        have h4 := mpv p hp
        split at h3 <;> omega
      refine ⟨v, y, dxv, dx2, _, _, rfl, rfl, hv1, s6 _ _ h125, v, y, m4, m2, rfl, Lv, (Lb4.same s5).same s6, ne2, mb4, mb2, fun n2 H7 n20 n2b le2 ex2 s7 => ?_⟩
      obtain ⟨kk2, hkk2, hlt2⟩ := ex2
      rw [only kk2 hkk2] at hlt2
      have en2 : n2 = 10 ^ 30 := by
        have e1 : n2 = (b * 10 ^ 30) / b := fd_unique b0 (by have := le2 k0; rw [g4, g20] at this; exact this) (by rw [g4, g20] at hlt2; exact hlt2)
        rw [e1, Int.mul_ediv_cancel_left _ (Int.ne_of_gt b0)]
      walk_at "go"
      rename_i g hg
      have q0 : 0 ≤ a / b := Int.ediv_nonneg a0 (Int.le_of_lt b0)
      have q1 : a / b ≤ a := Int.ediv_le_self b a0
      have db : b.natAbs < 2 ^ 150 := by omega
      have dq : (a / b).natAbs < 2 ^ 200 := by
        generalize a / b = zz at *
        omega
      refine r_I (wide_div b0 db (by decide) (by decide)) ?_
      walk_at "go"
      refine r_I (wide_div b0 db (by decide) (by decide)) ?_
      walk_at "go"
      refine r_I (wide_mul db dq (by decide) (by decide) (by decide)) ?_
      walk_at "go"
      rename_i g2 hg2
      refine ⟨.ref g, .ref g2, rfl, sm_list (by walk_at "hp") upd_same ?_ (by simp) ?_, fun H8 s8 => ?_⟩
      · rw [en, en2, g3, g10, g20, en']
        rfl
      · intro u hu
        simp at hu
        rcases hu with z | z | z <;> exact ⟨_, z⟩
      walk_at "go"
      refine iteF ?_
      walk_at "go"
      have s18 : Same H1 H8 := fun c o e => by
        have e7 := s7 _ _ (s6 _ _ (s5 _ _ (s4 _ _ (s23 _ _ (s12 _ _ e)))))
        exact s8 _ _ (by walk_at "hp")
      exact ⟨_, _, _, _, _, rfl, fun c o e => s18 _ _ (s1 _ _ e), s18 _ _ hD1, p1.same s18, p2.same s18, p3.same s18⟩
    · rintro σ H1 ⟨x1, x2, x3, x4, x5, rfl, s1, _⟩
      walk_at "go"
      exact q H1 s1
end
end My

set_option exponentiation.threshold 3000
--T /opt/kit/linked/4bf7bf6c73b87d88f1ba1c555b42b7c50cec9cc5/law_k05_how_often_and_what_is_left/T.py
namespace My
open PySem L2
local macro_rules | `(tactic| walk_at "bx1") => `(tactic| first | with_reducible assumption | ((with_reducible refine' Bx.upd ?h1 ?h2); (case h1 => walk_at "bx1"); (case h2 => walk_at "ne")) | ((with_reducible refine' Bx.same ?h1 (by with_reducible assumption)); (case h1 => walk_at "bx1")))
local macro_rules | `(tactic| walk_at "bx") => `(tactic| (refine' Bx.mono ?h1 ?h2; (case h1 => walk_at "bx1"); (case h2 => omega)))
local macro_rules | `(tactic| walk_at "ne") => `(tactic| first | with_reducible assumption | exact Ne.symm (by with_reducible assumption) | ((with_reducible refine' ne_of_none ?h1 (by with_reducible assumption)); (case h1 => walk_at "hp")) | ((with_reducible refine' Ne.symm (ne_of_none ?h1 (by with_reducible assumption))); (case h1 => walk_at "hp")) | ((with_reducible refine' Bx.ne ?h1 (by with_reducible assumption)); (case h1 => walk_at "bx1")) | ((with_reducible refine' Ne.symm (Bx.ne ?h1 (by with_reducible assumption))); (case h1 => walk_at "bx1")))
local macro_rules | `(tactic| walk_at "hp") => `(tactic| first | with_reducible assumption | ((with_reducible refine' (upd_same.trans ?h1)); (case h1 => rfl)) | ((with_reducible refine' My.upd_at ?h1 ?h2); (case h1 => walk_at "hp"); (case h2 => walk_at "ne")) | ((with_reducible refine' My.Kp.at (by with_reducible assumption) ?h1 ?h2); (case h1 => walk_at "hp"); (case h2 => walk_at "ne")) | ((with_reducible refine' My.Same.at (by with_reducible assumption) ?h1); (case h1 => walk_at "hp")))
local macro_rules | `(tactic| walk_at "sq") => `(tactic| first | with_reducible assumption | exact SqL.of (by walk_at "hp") | exact SqT.of (by walk_at "hp") | ((with_reducible refine' My.SqT.upd ?h1 (by with_reducible assumption)); (case h1 => walk_at "sq")) | ((with_reducible refine' My.SqL.upd ?h1 (by with_reducible assumption)); (case h1 => walk_at "sq")) | ((with_reducible refine' Same.seq (by with_reducible assumption) ?h1); (case h1 => walk_at "sq")) | ((with_reducible refine' My.SqT.same ?h1 (by with_reducible assumption)); (case h1 => walk_at "sq")) | ((with_reducible refine' My.SqT.kp ?h1 (by with_reducible assumption) ?h2); (case h1 => walk_at "sq"); (case h2 => walk_at "bx1")) | ((with_reducible refine' My.SqL.kp ?h1 (by with_reducible assumption) ?h2); (case h1 => walk_at "sq"); (case h2 => walk_at "ne")))
local macro_rules | `(tactic| walk_at "sd") => `(tactic| first | assumption | omega | decide | (refine ⟨?_, ?_⟩ <;> (first | omega | decide)) | (refine Or.inl ⟨?_, ?_⟩ <;> (first | omega | decide)) | (refine Or.inr ⟨?_, ?_⟩ <;> (first | omega | decide)) | (refine ⟨?_, ?_, ?_⟩ <;> (first | omega | decide)))
local macro_rules | `(tactic| walk_at "ps") => `(tactic| first
  | with_reducible refine r_seq ?_ | with_reducible refine r_asg ?_ | with_reducible refine r_op ?_ | with_reducible refine r_cons ?_ | with_reducible refine r_nil ?_ | with_reducible refine r_c ?_
  | with_reducible refine' r_var rfl ?_ | with_reducible refine r_gname ?_ | with_reducible refine r_cb ?_ | with_reducible refine r_I0 ?_ | with_reducible refine r_ret ?_ | with_reducible refine r_ifS ?_ | with_reducible refine r_test ?_ | with_reducible refine r_B ?_
  | with_reducible refine r_next ?_ | with_reducible refine r_drop ?_ | with_reducible refine r_if ?_ | with_reducible refine r_un ?_ | with_reducible refine r_U ?_ | with_reducible refine r_gsub ?_ | with_reducible refine r_tup ?_ | with_reducible refine r_lst ?_ | with_reducible refine r_bm ?_
  | with_reducible refine r_cal ?_ | with_reducible refine r_not ?_ | with_reducible refine r_and ?_ | with_reducible refine r_or ?_ | with_reducible refine r_andV ?_ | with_reducible refine r_orV ?_ | with_reducible refine r_notV ?_
  | with_reducible refine r_abs ?_ | with_reducible refine r_intI ?_ | with_reducible refine r_intB ?_ | with_reducible refine r_m1 ?_ | with_reducible refine r_slice ?_ | with_reducible refine r_part ?_ | with_reducible refine r_nopart ?_
  | with_reducible refine r_gcons ?_ | with_reducible refine r_gnil ?_
  | with_reducible refine r_par ?_ | with_reducible refine r_par3 ?_ | with_reducible refine r_ex2 ?_ | with_reducible refine r_ex3 ?_
  | with_reducible refine r_isN ?_ | with_reducible refine r_notN ?_
  | with_reducible refine r_iZipA ?_
  | with_reducible refine r_dget ?_ | with_reducible refine r_dget2 ?_ | with_reducible refine r_iKeys ?_ | with_reducible refine r_dput ?_
  | with_reducible refine r_for ?_ | with_reducible refine r_lc ?_ | with_reducible refine r_iList ?_ | with_reducible refine r_iTup ?_ | with_reducible refine r_iRng1 ?_ | with_reducible refine r_iEnum ?_ | with_reducible refine r_orT ?_ | with_reducible refine r_yes ?_ | with_reducible refine r_ixSl ?_)
local macro_rules | `(tactic| walk_at "st") => `(tactic| first
  | walk_at "ps"
  | ((with_reducible refine' r_ixL ?h1 ?h2 ?_); (case h1 => walk_at "sq"); (case h2 => rfl))
  | ((with_reducible refine' r_setL ?h1 ?h2 ?_); (case h1 => walk_at "hp"); (case h2 => rfl))
  | ((with_reducible refine' r_I ?h1 ?_); (case h1 => walk_at "sd"))
  | ((with_reducible refine' r_eq ?h1 ?_); (case h1 => rfl)) | ((with_reducible refine' r_ne ?h1 ?_); (case h1 => rfl))
  | ((with_reducible refine' r_lenL ?h1 ?_); (case h1 => walk_at "sq")) | ((with_reducible refine' r_lenT ?h1 ?_); (case h1 => walk_at "sq")) | ((with_reducible refine' r_lenD ?h1 ?_); (case h1 => walk_at "hp"))
  | ((with_reducible refine' r_slL ?h1 ?_); (case h1 => walk_at "sq"); intro _ _)
  | ((with_reducible refine' r_append ?h1 ?h2 ?_); (case h1 => walk_at "hp"); (case h2 => exact szl (by first | omega | (simp; omega))))
  | ((with_reducible refine' r_gtup ?h1 ?h2 ?_); (case h1 => walk_at "sq"); (case h2 => rfl))
  | ((with_reducible refine' r_cat ?h1 ?h2 ?h3 ?_); (case h1 => walk_at "hp"); (case h2 => walk_at "hp"); (case h3 => exact sz (by first | omega | (simp; omega))); intro _ _)
  | ((with_reducible refine' r_wLst ?h1 ?_); (case h1 => walk_at "sq")) | ((with_reducible refine' r_wTup ?h1 ?_); (case h1 => walk_at "sq"))
  | ((with_reducible refine' r_wRng ?h1 ?_); (case h1 => walk_at "sd"))
  | ((with_reducible refine' r_truL ?h1 ?_); (case h1 => walk_at "sq"))
  | ((with_reducible refine' r_list (Or.inl ?h1) ?_); (case h1 => walk_at "sq"); intro _ _) | ((with_reducible refine' r_list (Or.inr ?h1) ?_); (case h1 => walk_at "sq"); intro _ _)
  | ((with_reducible refine' r_tupL ?h1 ?_); (case h1 => walk_at "sq"); intro _ _) | ((with_reducible refine' r_tupT ?h1 ?_); (case h1 => walk_at "sq"))
  | ((with_reducible refine' r_disp ?h1 ?_); (case h1 => exact Nat.le_of_ble_eq_true rfl); intro _ _)
  | ((with_reducible refine r_dnewK ?_); intro _ _)
  | ((with_reducible refine' r_tyL ?h1 ?_); (case h1 => walk_at "sq")) | with_reducible refine r_strV ?_
  | with_reducible refine r_exb ?_ | with_reducible refine r_exi ?_ | with_reducible refine r_exr ?_ | with_reducible refine r_exs ?_ | with_reducible refine r_exli ?_)
local macro_rules | `(tactic| walk_at "go") => `(tactic| repeat walk_at "st")
local macro_rules | `(tactic| walk_at "in") => `(tactic| dsimp only [noxK, cxK, L2.start, List.map_cons, List.map_nil, List.length_cons, List.length_nil, Nat.reduceAdd, Nat.reduceSub, List.replicate, List.cons_append, List.nil_append])

section
variable {P : Program} {w : World} {K : PySem.W.Frag} {mg : Str → Option Value} {base : Heap} {C CN : Addr}
def spRefused (C : Addr) : Sp := fun vs H Q _ => ∃ (a b : Addr) (m : AL) (i : Int), vs = [.ref a, .ref b, .int i] ∧ LoA C H a m ∧ LoA C H b [] ∧ (i = 0 ∨ i = 1) ∧
  ∀ (t : Addr) (H' : Hp), H t = none → H' t = some (.tup [.bl true, .bl false]) → Same H H' → Q (.ref t) H'
abbrev sRight : Stmt := top 28
theorem scRight : FnScope ["_law_box_here", "_law_turn", "_law_its", "_law_own", "_law_names_here", "_law_bound", "_law_by_so", "_law_mine", "_law_one_so", "_law_two_so", "_law_got", "_law_often", "_law_fresh", "_law_due", "_law_more"] ["_law_box_here"] (defScope sRight) := ⟨rfl, rfl, rfl, by decide +kernel, rfl, by decide +kernel, by decide +kernel⟩
theorem sm_tup2 {K : PySem.W.Frag} {n : Nat} {H : Hp} {a b : Addr} (h1 : H a = some (.tup [.bl true, .bl false])) (h2 : H b = some (.tup [.bl true, .bl false])) : Sm K (n + 2) (.ref a) (.ref b) H := by
  refine Or.inr (Or.inr ⟨a, b, _, _, rfl, rfl, h1, h2, rfl, by simp, fun i u v hu hv => ?_⟩)
  rw [hu] at hv
  cases hv
  have := List.mem_of_getElem? hu
  simp at this
  rcases this with z | z
  · exact Or.inl ⟨rfl, Or.inr (Or.inl ⟨_, z⟩)⟩
  · exact Or.inl ⟨rfl, Or.inr (Or.inl ⟨_, z⟩)⟩
theorem sm_prs {K : PySem.W.Frag} {n : Nat} {H : Hp} {a b : Addr} {xs ys : List V} {qs : AL} (h1 : H a = some (.tup xs)) (h2 : H b = some (.tup ys)) (p1 : Paired (PrA H) xs qs) (p2 : Paired (PrA H) ys qs) (hl : qs.length ≤ 1000) : Sm K (n + 3) (.ref a) (.ref b) H := by
  have l1 := Paired.len p1
  have l2 := Paired.len p2
  refine Or.inr (Or.inr ⟨a, b, xs, ys, rfl, rfl, h1, h2, by omega, by omega, fun i u v hu hv => ?_⟩)
  obtain ⟨r, hr, t, rfl, ht⟩ := Paired.at p1 hu
  obtain ⟨r', hr', t', rfl, ht'⟩ := Paired.at p2 hv
  rw [hr] at hr'
  cases hr'
  refine Or.inr (Or.inr ⟨t, t', _, _, rfl, rfl, ht, ht', rfl, by simp, fun i u v hu hv => ?_⟩)
  rw [hu] at hv
  cases hv
  have := List.mem_of_getElem? hu
  simp at this
  rcases this with z | z
  · exact Or.inl ⟨rfl, Or.inr (Or.inr (Or.inr ⟨_, z⟩))⟩
  · exact Or.inl ⟨rfl, Or.inr (Or.inr (Or.inl ⟨_, z⟩))⟩
theorem sm_lst {K : PySem.W.Frag} {n : Nat} {H : Hp} {a b : Addr} {xs ys : List V} (h1 : H a = some (.lst xs)) (h2 : H b = some (.lst ys)) (e : xs.length = ys.length) (hl : xs.length ≤ 1000) (h : ∀ (i : Nat) (u v : V), xs[i]? = some u → ys[i]? = some v → Sm K n u v H) : Sm K (n + 1) (.ref a) (.ref b) H := Or.inr (Or.inl ⟨a, b, xs, ys, rfl, rfl, h1, h2, e, hl, h⟩)
theorem at3 {a b c a' b' c' : V} {R : V → V → Prop} (h1 : R a a') (h2 : R b b') (h3 : R c c') (i : Nat) (u v : V) (hu : [a, b, c][i]? = some u) (hv : [a', b', c'][i]? = some v) : R u v := by
  match i, hu, hv with
  | 0, hu, hv => cases hu; cases hv; exact h1
  | 1, hu, hv => cases hu; cases hv; exact h2
  | 2, hu, hv => cases hu; cases hv; exact h3
  | n + 3, hu, hv => simp at hu
theorem at2 {a b a' b' : V} {R : V → V → Prop} (h1 : R a a') (h2 : R b b') (i : Nat) (u v : V) (hu : [a, b][i]? = some u) (hv : [a', b'][i]? = some v) : R u v := by
  match i, hu, hv with
  | 0, hu, hv => cases hu; cases hv; exact h1
  | 1, hu, hv => cases hu; cases hv; exact h2
  | n + 2, hu, hv => simp at hu
theorem len_sub {m : AL} {ws : List Str} (nd : (keys m).Nodup) (h : ∀ k ∈ keys m, k ∈ ws) : m.length ≤ ws.length := by
  have e : m.length = (keys m).length := (List.length_map _).symm
  rw [e]
  exact List.Nodup.length_le_of_subset nd h
theorem paired_perm {H : Hp} {ys xs : List V} (p : ys.Perm xs) : ∀ {ps : AL}, Paired (PrA H) xs ps → ∃ ps' : AL, ps'.Perm ps ∧ Paired (PrA H) ys ps' := by
  induction p with
  | nil => exact fun {ps} h => ⟨ps, .refl _, h⟩
  | cons x _ ih =>
    intro ps h
    match ps, h with
    | k :: r, .cons e h =>
      obtain ⟨ks', p', h'⟩ := ih h
      exact ⟨k :: ks', p'.cons k, .cons e h'⟩
  | swap x y l =>
    intro ps h
    match ps, h with
    | k :: j :: r, .cons e (.cons e2 h) => exact ⟨j :: k :: r, .swap k j r, .cons e2 (.cons e h)⟩
  | trans _ _ i1 i2 =>
    intro ps h
    obtain ⟨k1, p1, h1⟩ := i2 h
    obtain ⟨k2, p2, h2⟩ := i1 h1
    exact ⟨k2, p2.trans p1, h2⟩
theorem tot_bound {M : Int} (hM : 0 ≤ M) (k : Str) : ∀ {ps : AL}, (∀ p ∈ ps, 0 ≤ p.2 ∧ p.2 < M) → 0 ≤ tot ps k ∧ tot ps k ≤ ps.length * M
  | [], _ => ⟨Int.le_refl _, by show (0 : Int) ≤ ((0 : Nat) : Int) * M; rw [Int.natCast_zero, Int.zero_mul]; exact Int.le_refl _⟩
  | p :: r, h => by
    obtain ⟨h1, h2⟩ := tot_bound hM k (ps := r) fun q hq => h q (List.mem_cons_of_mem _ hq)
    obtain ⟨h3, h4⟩ := h p List.mem_cons_self
    have e : ((r.length + 1 : Nat) : Int) * M = (r.length : Int) * M + M := by rw [Int.natCast_succ, Int.add_mul, Int.one_mul]
    show 0 ≤ (if p.1 = k then p.2 else 0) + tot r k ∧ (if p.1 = k then p.2 else 0) + tot r k ≤ ((r.length + 1 : Nat) : Int) * M
    rw [e]
    split <;> exact ⟨by omega, by omega⟩
def spRight : Sp := fun vs H Q _ => ∃ (a : Addr), vs = [.ref a] ∧ Bx H a 1000 ∧ ∀ H', Kp a H H' → Q (.bl true) H'
theorem ok_right {f : Addr} {fd : FuncData} (F : Fun K "_law_right" "_law_right" sRight f fd) (T : Txt K mg) (L : TxL K C)
    (Om : OMk P w K mg base CX0 2 C "Lot" ["self", "pairs"] (spLotInit K C)) (Op : OCal P w K mg base CX0 2 C "pairs" ["self"] (spLotPairs C))
    (Of : OCal P w K mg base CX0 3 C (PySem.dunder Operator.FloorDiv.info.2) ["self", "other"] (spLotFdiv C)) (Orm : OCal P w K mg base CX0 5 C (PySem.dunder Operator.Mod.info.2) ["self", "other"] (spLotMod C)) (Oi : OCal P w K mg base CX0 3 C (dunderI Operator.Add.info.2) ["self", "other"] (spLotIadd C))
    (Cs : Cal P w K mg base CX0 4 "_law_same" ["_law_got", "_law_due"] (spSame K 4)) (Cn : Cal P w K mg base CX0 3 "_law_names" ["_law_box_here", "_law_some"] spNames) (Co : Cal P w K mg base CX0 2 "_law_of" ["_law_box_here", "_law_some"] spOf) (Ct : Cal P w K mg base CX0 1 "_law_take" ["_law_box_here", "_law_below"] spTake)
    (Cc : Cal P w K mg base CX0 1 "_law_counted" ["_law_pairs_so"] (spCounted K)) (Cm : Cal P w K mg base CX0 2 "_law_mixed" ["_law_box_here", "_law_rows_so"] (spMixed K)) (Cp : Cal P w K mg base CX0 2 "_law_pairs" ["_law_numbers_so"] spPairs)
    (Ch : Cal P w K mg base CX0 6 "_law_by_hand_right" ["_law_names_here"] (spByHand K)) (Cr : Cal P w K mg base CX0 6 "_law_refused" ["_law_one_so", "_law_two_so", "_law_sort"] (spRefused C)) : FnOk P w K mg base CX0 7 f fd ["_law_box_here"] spRight := by
  refine F.ok scRight (fun vs H Q E h => ?_) (fun cdv A outer s H vs Q E hr h => ?_)
  · obtain ⟨a, rfl, _⟩ := h
    rfl
  · obtain ⟨a, rfl, hb, q⟩ := h
    have hu := hu_of hr
    refine ⟨_, (pss_cons (ps_if (pt_not (pt_val (pe_cal Ch hr pass0 (pa_cons (pe_cal Cn (hr.mono (by decide)) pass0 (pa_cons (pv 0) (pa_cons pe_int pa_nil))) pa_nil))))
  (pss_one (ps_ret pe_bl))
  pss_nil)
  (pss_cons (ps_for PassesOwn.never rfl (pi_range1 rfl T.range (pa_cons pe_int pa_nil)) (pg_name (i := 1) scRight.nd rfl (Or.inl rfl))
  (pss_cons (ps_asg (pe_tup (pa_cons (pe_cal Cn (hr.mono (by decide)) pass0 (pa_cons (pv 0) (pa_cons pe_int pa_nil))) (pa_cons (pe_cal Co (hr.mono (by decide)) pass0 (pa_cons (pv 0) (pa_cons (pe_lst (pa_cons pe_int (pa_cons pe_int (pa_cons (pe_op op_pow pe_int pe_int) pa_nil)))) pa_nil))) pa_nil))) (pg_tup rfl (pgs_cons (pg_name (i := 4) scRight.nd rfl (Or.inl rfl)) (pgs_cons (pg_name (i := 5) scRight.nd rfl (Or.inr rfl)) pgs_nil))))
  (pss_cons (ps_set (i := 2) scRight.nd rfl (Or.inl rfl) (pe_cal Cc (hr.mono (by decide)) pass0 (pa_cons (pe_lc (own := [("_law_own", 3)]) (g := gName 3) rfl scRight.nd (pi_list (pv 4)) (blkOk_by (N := ["_law_box_here", "_law_turn", "_law_its", "_law_own", "_law_names_here", "_law_bound", "_law_by_so", "_law_mine", "_law_one_so", "_law_two_so", "_law_got", "_law_often", "_law_fresh", "_law_due", "_law_more"]) (sc := defScope sRight) (by decide +kernel)) (fun _ _ _ _ _ => (pg_name (i := 3) scRight.nd rfl (Or.inl rfl))) (fun _ _ _ _ _ => (pts_one (pt_cmpR op_eq (pe_cal Ct (hr.mono (by decide)) pass0 (pa_cons (pv 0) (pa_cons pe_int pa_nil))) pe_int (nomark _)))) (fun _ _ _ _ _ => (pe_tup (pa_cons (pv 3) (pa_cons (pe_cal Ct (hr.mono (by decide)) pass0 (pa_cons (pv 0) (pa_cons (pv 5) pa_nil))) pa_nil))))) pa_nil)))
  (pss_cons (ps_par (i := 6) (j := 7) rfl scRight.nd rfl rfl (by decide) rfl rfl (pa_cons (pe_cal Co (hr.mono (by decide)) pass0 (pa_cons (pv 0) (pa_cons (pe_lst (pa_cons pe_int (pa_cons pe_int (pa_cons pe_int (pa_cons (pe_op op_pow pe_int pe_int) pa_nil))))) pa_nil))) (pa_cons pe_dnewK pa_nil)) (by rfl))
  (pss_cons (ps_for PassesOwn.never rfl (pi_list (pv 4)) (pg_name (i := 3) scRight.nd rfl (Or.inl rfl))
  (pss_one (ps_dput hu (pv 7) (pv 3) (pe_op op_add (pe_op op_mul (pe_dget2 hu (pv 2) (pv 3) pe_int ⟨rfl, rfl, rfl, rfl⟩) (pv 6)) (pe_cal Ct (hr.mono (by decide)) pass0 (pa_cons (pv 0) (pa_cons (pv 5) pa_nil)))) rfl)))
  (Evl.pss_cut (ps_par (i := 8) (j := 9) rfl scRight.nd rfl rfl (by decide) rfl rfl (pa_cons (pe_makeO Om (hr.mono (by decide)) pass0 (pa_cons (pe_cal Cm (hr.mono (by decide)) pass0 (pa_cons (pv 0) (pa_cons (pe_cal Cp (hr.mono (by decide)) pass0 (pa_cons (pv 7) pa_nil)) pa_nil))) pa_nil)) (pa_cons (pe_makeO Om (hr.mono (by decide)) pass0 (pa_cons (pe_cal Cm (hr.mono (by decide)) pass0 (pa_cons (pv 0) (pa_cons (pe_cal Cp (hr.mono (by decide)) pass0 (pa_cons (pv 2) pa_nil)) pa_nil))) pa_nil)) pa_nil)) (by rfl))
  (pss_one (ps_if (pt_cmpR (op_eqD (hu64 hr)) (pe_cal Cp (hr.mono (by decide)) pass0 (pa_cons (pv 2) pa_nil)) (pe_tup pa_nil) (nomark _))
  (pss_cons (ps_set (i := 10) scRight.nd rfl (Or.inl rfl) (pe_lst (pa_cons (pe_cal Cr hr pass0 (pa_cons (pv 8) (pa_cons (pv 9) (pa_cons pe_int pa_nil)))) (pa_cons (pe_cal Cr hr pass0 (pa_cons (pv 8) (pa_cons (pv 9) (pa_cons pe_int pa_nil)))) (pa_cons (pe_cal Cr hr pass0 (pa_cons (pv 9) (pa_cons (pv 9) (pa_cons pe_int pa_nil)))) pa_nil)))))
  (pss_one (ps_if (pt_not (pt_val (pe_cal Cs (hr.mono (by decide)) pass0 (pa_cons (pv 10) (pa_cons (pe_lst (pa_cons (pe_tup (pa_cons pe_bl (pa_cons pe_bl pa_nil))) (pa_cons (pe_tup (pa_cons pe_bl (pa_cons pe_bl pa_nil))) (pa_cons (pe_tup (pa_cons pe_bl (pa_cons pe_bl pa_nil))) pa_nil)))) pa_nil)))))
  (pss_one (ps_ret pe_bl))
  pss_nil)))
  (pss_cons (ps_set (i := 11) scRight.nd rfl (Or.inl rfl) (pe_bin Of L.oc (hr.mono (by decide)) passE0 (pv 8) (pv 9)))
  (pss_cons (ps_if (PW.pt (pw_or (pt_not (pt_val (pe_callB call_isi (by rfl) T.isinstance (by decide +kernel) (pa_cons (pv 11) (pa_cons (pe_bltn (v := .ty "int") (by rfl) T.int (by decide +kernel) rfl) pa_nil))))) (pw_or (pt_val (pe_callB call_isi (by rfl) T.isinstance (by decide +kernel) (pa_cons (pv 11) (pa_cons (pe_bltn (v := .ty "bool") (by rfl) T.bool (by decide +kernel) rfl) pa_nil)))) (pw_or1 (pt_cmpR op_lt (pv 11) (pv 6) (nomark _))))))
  (pss_one (ps_ret pe_bl))
  pss_nil)
  (pss_cons (ps_asg (pe_tup (pa_cons pe_dnewK (pa_cons pe_int pa_nil))) (pg_tup rfl (pgs_cons (pg_name (i := 13) scRight.nd rfl (Or.inr rfl)) (pgs_cons (pg_name (i := 14) scRight.nd rfl (Or.inl rfl)) pgs_nil))))
  (pss_cons (ps_for PassesOwn.never rfl (pi_list (pv 4)) (pg_name (i := 3) scRight.nd rfl (Or.inl rfl))
  (pss_cons (ps_dput hu (pv 13) (pv 3) (pe_op op_sub (pe_dget hu (pv 7) (pv 3) (fun _ _ => rfl)) (pe_op op_mul (pe_dget2 hu (pv 2) (pv 3) pe_int ⟨rfl, rfl, rfl, rfl⟩) (pv 11))) rfl)
  (pss_one (ps_if (pt_cmpR op_gt (pe_dget2 hu (pv 2) (pv 3) pe_int ⟨rfl, rfl, rfl, rfl⟩) (pe_dget hu (pv 13) (pv 3) (fun _ _ => rfl)) (nomark _))
  (pss_one (ps_set (i := 14) scRight.nd rfl (Or.inl rfl) (pe_op op_add (pv 14) pe_int)))
  pss_nil))))
  (pss_cons (ps_if (PW.pt (pw_or (pt_cmpR (op_neD (hu64 hr)) (pe_lc (own := [("_law_own", 3)]) (g := gName 3) rfl scRight.nd (pi_list (pv 4)) (blkOk_by (N := ["_law_box_here", "_law_turn", "_law_its", "_law_own", "_law_names_here", "_law_bound", "_law_by_so", "_law_mine", "_law_one_so", "_law_two_so", "_law_got", "_law_often", "_law_fresh", "_law_due", "_law_more"]) (sc := defScope sRight) (by decide +kernel)) (fun _ _ _ _ _ => (pg_name (i := 3) scRight.nd rfl (Or.inl rfl))) (fun _ _ _ _ _ => (pts_one (pt_cmpR op_lt (pe_dget hu (pv 13) (pv 3) (fun _ _ => rfl)) pe_int (nomark _)))) (fun _ _ _ _ _ => (pv 3))) (pe_lst pa_nil) (nomark _)) (pw_or1 (pt_cmpR op_eq (pv 14) pe_int (nomark _)))))
  (pss_one (ps_ret pe_bl))
  pss_nil)
  (pss_cons (ps_set (i := 10) scRight.nd rfl (Or.inl rfl) (pe_lst (pa_cons (pe_methO0 Op L.oc.cl (hr.mono (by decide)) pass0 (pe_bin Orm L.oc (hr.mono (by decide)) passE0 (pv 8) (pv 9))) (pa_cons (pe_methO0 Op L.oc.cl (hr.mono (by decide)) pass0 (pv 8)) (pa_cons (pe_methO0 Op L.oc.cl (hr.mono (by decide)) pass0 (pv 9)) pa_nil)))))
  (pss_cons (ps_if (pt_not (pt_val (pe_cal Cs (hr.mono (by decide)) pass0 (pa_cons (pv 10) (pa_cons (pe_lst (pa_cons (pe_cal Cp (hr.mono (by decide)) pass0 (pa_cons (pv 13) pa_nil)) (pa_cons (pe_cal Cp (hr.mono (by decide)) pass0 (pa_cons (pv 7) pa_nil)) (pa_cons (pe_cal Cp (hr.mono (by decide)) pass0 (pa_cons (pv 2) pa_nil)) pa_nil)))) pa_nil)))))
  (pss_one (ps_ret pe_bl))
  pss_nil)
  (pss_cons (ps_set (i := 12) scRight.nd rfl (Or.inl rfl) (pe_bin Orm L.oc (hr.mono (by decide)) passE0 (pv 8) (pv 9)))
  (pss_cons (ps_aug (i := 12) scRight.nd rfl (Or.inl rfl) (pe_makeO Om (hr.mono (by decide)) pass0 (pa_cons (pe_lst (pa_cons (pe_tup (pa_cons (pe_ix ix_list (pv 4) pe_int (fun _ _ => rfl)) (pa_cons pe_int pa_nil))) pa_nil)) pa_nil)) (ip_own Oi L.oc (hr.mono (by decide)) pass0))
  (pss_one (ps_if (pt_not (pt_val (pe_cal Cs (hr.mono (by decide)) pass0 (pa_cons (pe_lst (pa_cons (pe_methO0 Op L.oc.cl (hr.mono (by decide)) pass0 (pv 8)) (pa_cons (pe_methO0 Op L.oc.cl (hr.mono (by decide)) pass0 (pv 9)) pa_nil))) (pa_cons (pe_lst (pa_cons (pe_cal Cp (hr.mono (by decide)) pass0 (pa_cons (pv 7) pa_nil)) (pa_cons (pe_cal Cp (hr.mono (by decide)) pass0 (pa_cons (pv 2) pa_nil)) pa_nil))) pa_nil)))))
  (pss_one (ps_ret pe_bl))
  pss_nil)))))))))))))))))))
  (pss_one (ps_ret pe_bl)))), ?_⟩
    walk_at "in"
    walk_at "go"
    refine ⟨a, 900, 2, rfl, by decide, hb.mono (by decide), fun l ws H1 hl lw nw kw hl1 hb1 k1 => ?_⟩
    walk_at "go"
    obtain ⟨w0, w1, rfl⟩ : ∃ w0 w1, ws = [w0, w1] := by
      match ws, lw with
      | [w0, w1], _ => exact ⟨w0, w1, rfl⟩
    have nw01 : w0 ≠ w1 := fun z => by rw [z] at nw; simp at nw
    refine ⟨l, w0, w1, rfl, hl1, nw01, fun H2 s2 => ?_⟩
    walk_at "go"
    refine iteF ?_
    walk_at "go"
    have hb2 := hb1.same s2
    have k2 : Kp a H H2 := k1.trans (Kp.of s2)
    refine for_it (walk_range (n := 6)) (fun i σ H' => ∃ x1 x2 x3 x4 x5 x6 x7 x8 x9 x10 x11 x12 x13 x14 : Option V, σ = [some (.ref a), x1, x2, x3, x4, x5, x6, x7, x8, x9, x10, x11, x12, x13, x14] ∧ Bx H' a (100 * (6 - i) + 50) ∧ Kp a H H') ?_ ?_ ?_ ?_
    · exact ⟨_, _, _, _, _, _, _, _, _, _, _, _, _, _, rfl, hb2.mono (by decide), k2⟩
    · intro i σ H' _ _
      trivial
    · rintro i _ σ _ H3 hi ⟨x1, x2, x3, x4, x5, x6, x7, x8, x9, x10, x11, x12, x13, x14, rfl, hb3, k3⟩ ⟨rfl, rfl⟩
      obtain ⟨B, hB⟩ : ∃ B, B = 100 * (6 - (i + 1)) + 50 := ⟨_, rfl⟩
      have hb3' : Bx H3 a (B + 100) := hb3.mono (by omega)
      rw [← hB]
      clear hb3 hl1 k1 hb1 hb2 k2 s2
      walk_at "go"
      refine ⟨a, B + 33, 6, rfl, by decide, hb3'.mono (by omega), fun l ws H4 hl lw nw kw hl4 hb4 k4 => ?_⟩
      walk_at "go"
      rename_i L1 hL1
      refine ⟨a, L1, B + 32, _, rfl, by walk_at "bx", upd_same, Ne.symm (hb4.ne hL1), by simp, by simp, fun v j H5 hv hb5 k5 => ?_⟩
      obtain ⟨bd, rfl, bd1, bd2⟩ : ∃ n : Int, v = .int n ∧ 1 ≤ n ∧ n ≤ 1000000 := by
        have := List.mem_of_getElem? hv
        simp at this
        rcases this with z | z | z
        · exact ⟨_, z, by decide, by decide⟩
        · exact ⟨_, z, by decide, by decide⟩
        · exact ⟨_, z, by decide, by decide⟩
      walk_at "go"
      rename_i pt hpt
      have nla : l ≠ a := Ne.symm (hb3'.ne hl)
      have hl5 : H5 l = some (.lst (ws.map V.str)) := by walk_at "hp"
      have k35 : Kp a H3 H5 := fun c o e n => k5 c o (upd_at (k4 c o e n) (ne_of_none (k4 c o e n) hL1)) n
      obtain ⟨H6, e6⟩ : ∃ H6, H6 = upd H5 pt (.tup [V.ref l, V.int bd]) := ⟨_, rfl⟩
      have hl6 : H6 l = some (.lst (ws.map V.str)) := by rw [e6]; walk_at "hp"
      have hb6 : Bx H6 a (B + 32) := by rw [e6]; walk_at "bx"
      have k36 : Kp a H3 H6 := fun c o e n => by rw [e6]; exact upd_at (k35 c o e n) (ne_of_none (k35 c o e n) hpt)
      rw [← e6]
      clear e6 hpt hl5 hb5 k35 k5 hv hL1 k4 hb4 hl4
      intro D hD
      have naD : a ≠ D := hb6.ne hD
      have lws : (ws.map V.str).length = 6 := by rw [List.length_map]; exact lw
      refine lc_it (walk_list (xs := ws.map V.str)) (fun i H' => ∃ xs ps, H' D = some (.lst xs) ∧ Paired (PrA H') xs ps ∧ xs.length ≤ i ∧ Bx H' a (B + 20 + 2 * (6 - i)) ∧ (∀ p ∈ ps, p.1 ∈ ws ∧ 0 ≤ p.2 ∧ p.2 < 1000000) ∧ Kp a H6 H') ?_ ?_ ?_ ?_
      · exact ⟨[], [], upd_same, .nil, Nat.le_refl _, by walk_at "bx", fun p h => by simp at h, fun c o e n => by have n1 : c ≠ D := ne_of_none e hD; walk_at "hp"⟩
      · rintro i H' _ ⟨_, _, _, _, _, _, _, k7⟩
        exact SqL.of (k7 _ _ hl6 nla)
      · rintro i2 x _ H7 hi2 ⟨xs, ps, hD7, hxs, lx, hb7, hps, k7⟩ ⟨rfl, hx⟩
        obtain ⟨k, rfl, hk⟩ := map_some hx
        rw [lws] at hi2
        obtain ⟨b2, hb2⟩ : ∃ b2, b2 = B + 20 + 2 * (6 - (i2 + 1)) := ⟨_, rfl⟩
        have hb7' : Bx H7 a (b2 + 1 + 1) := hb7.mono (by omega)
        rw [← hb2]
        walk_at "go"
        refine ⟨rfl, ?_⟩
        walk_at "go"
        refine ⟨a, b2 + 1, 2, rfl, hb7', by decide, by decide, fun d H8 d0 d2 hb8 k8 => ?_⟩
        walk_at "go"
        obtain ⟨_, _, _, ha7, _⟩ := id hb7'
        have hD8 : H8 D = some (.lst xs) := k8 _ _ hD7 (Ne.symm naD)
        have hxs8 : Paired (PrA H8) xs ps := PrA.kpdAll hxs k8 ha7 (fun _ z => by cases z)
        refine ite_d (fun c => ?_) (fun c => ?_)
        · walk_at "go"
          refine ⟨a, b2, bd, rfl, hb8, by omega, by omega, fun d' H9 d0' d2' hb9 k9 => ?_⟩
          walk_at "go"
          rename_i t ht
          obtain ⟨_, _, _, ha8, _⟩ := id hb8
          have hD9 : H9 D = some (.lst xs) := k9 _ _ hD8 (Ne.symm naD)
          have hxs9 : Paired (PrA H9) xs ps := PrA.kpdAll hxs8 k9 ha8 (fun _ z => by cases z)
          have n2 : D ≠ t := ne_of_none hD9 ht
          have nat : a ≠ t := hb9.ne ht
          have k10 : Kp D H9 (upd (upd H9 t (.tup [V.str k, V.int d'])) D (.lst (xs ++ [V.ref t]))) := fun c o e n => by walk_at "hp"
          refine ⟨xs, by walk_at "hp", szl (by omega), xs ++ [V.ref t], ps ++ [(k, d')], upd_same, ?_, by rw [List.length_append]; show xs.length + 1 ≤ _; omega, ?_, fun p hp => ?_, fun c o e n => ?_⟩
          · exact Paired.app (PrA.kpdAll hxs9 k10 hD9 (fun _ z => by cases z)) (.cons ⟨t, rfl, by walk_at "hp"⟩ .nil)
          · walk_at "bx"
          · rcases List.mem_append.mp hp with z | z
            · exact hps p z
            · rw [List.mem_singleton.mp z]
              exact ⟨List.mem_of_getElem? hk, d0', by show d' < 1000000; omega⟩
          · have e9 := k9 _ _ (k8 _ _ (k7 _ _ e n) n) n
            have n4 : c ≠ D := ne_of_none e hD
            walk_at "hp"
        · exact ⟨xs, ps, hD8, hxs8, by omega, hb8.mono (by omega), hps, k7.trans k8⟩
      · rintro H7 ⟨xs, ps, hD7, hxs, lx, hb7, hps, k7⟩
        rw [lws] at lx hb7
        have hb7' : Bx H7 a (B + 20) := hb7.mono (by omega)
        walk_at "go"
        refine ⟨D, xs, ps, rfl, SqL.of hD7, hxs, by omega, fun dI mI H8 hdI hmI ndI gI kI lI s8 => ?_⟩
        have lps := Paired.len hxs
        have bI : ∀ k, 0 ≤ get mI k ∧ get mI k ≤ 6000000 := fun k => by
          have h1 := tot_bound (M := 1000000) (by decide) k fun p hp => (hps p hp).2
          rw [gI k]
          omega
        have kIw : ∀ k ∈ keys mI, k ∈ ws := fun k hk => by
          obtain ⟨p, hp, rfl⟩ := List.mem_map.mp (kI k hk)
          exact (hps p hp).1
        have k38 : Kp a H3 H8 := (k36.trans k7).trans (Kp.of s8)
        have hl8 : H8 l = some (.lst (ws.map V.str)) := s8 _ _ (k7 _ _ hl6 nla)
        have hb8 := hb7'.same s8
        have naI : a ≠ dI := hb7'.ne hdI
        clear hb7 hb7' k7 k36 hl6 hb6 hD gI hps hxs hD7 hdI s8 kI
        walk_at "go"
        rename_i L2 hL2
        refine ⟨a, L2, B + 19, _, rfl, by walk_at "bx", upd_same, Ne.symm (hb8.ne hL2), by simp, by simp, fun v j2 H9 hv hb9 k9 => ?_⟩
        obtain ⟨bv, rfl, y0, y1⟩ : ∃ n : Int, v = .int n ∧ 0 ≤ n ∧ n ≤ 100000 := by
          have := List.mem_of_getElem? hv
          simp at this
          rcases this with z | z | z | z
          · exact ⟨_, z, by decide, by decide⟩
          · exact ⟨_, z, by decide, by decide⟩
          · exact ⟨_, z, by decide, by decide⟩
          · exact ⟨_, z, by decide, by decide⟩
        have k89 : Kp a H8 H9 := fun c o e n => k9 c o (upd_at e (ne_of_none e hL2)) n
        have hl9 := k89 _ _ hl8 nla
        have hmI9 := k89 _ _ hmI (Ne.symm naI)
        have k39 := k38.trans k89
        clear hv k9 hL2 k89 k38 hl8 hmI hb8
        walk_at "go"
        rename_i dM hdM
        have naM : a ≠ dM := hb9.ne hdM
        refine for_it (walk_list (xs := ws.map V.str)) (fun j σ H' => ∃ (mM : AL) (x1 x3 : Option V), σ = [some (.ref a), x1, some (.ref dI), x3, some (.ref l), some (.int bd), some (.int bv), some (.ref dM), x8, x9, x10, x11, x12, x13, x14] ∧ H' dM = some (.dK (enc mM)) ∧ (keys mM).Nodup ∧ (∀ k ∈ keys mM, k ∈ ws.take j) ∧ (∀ k ∈ ws.take j, get mI k * bv ≤ get mM k ∧ k ∈ keys mM) ∧ (∀ k, 0 ≤ get mM k ∧ get mM k < 1000000000000) ∧ mM.length ≤ j ∧ Bx H' a (B + 13 + (6 - j)) ∧ Kp a H9 H') ?_ ?_ ?_ ?_
        · exact ⟨[], _, _, rfl, upd_same, List.nodup_nil, fun k h => by simp [keys] at h, fun k h => by simp at h, fun k => ⟨Int.le_refl _, by show (0 : Int) < _; decide⟩, Nat.le_refl _, by walk_at "bx", fun c o e n => by have n1 : c ≠ dM := ne_of_none e hdM; walk_at "hp"⟩
        · rintro j σ H' _ ⟨_, _, _, _, _, _, _, _, _, _, _, k10⟩
          exact SqL.of (k10 _ _ hl9 nla)
        · rintro j x σ _ H10 hj ⟨mM, x1, x3, rfl, hmM, ndM, kM, leM, bM, lM, hb10, k10⟩ ⟨rfl, hx⟩
          obtain ⟨k, rfl, hk⟩ := map_some hx
          rw [lws] at hj
          obtain ⟨b2, hb2⟩ : ∃ b2, b2 = B + 13 + (6 - (j + 1)) := ⟨_, rfl⟩
          have hb10' : Bx H10 a (b2 + 1) := hb10.mono (by omega)
          rw [← hb2]
          have hmI10 := k10 _ _ hmI9 (Ne.symm naI)
          walk_at "go"
          refine ⟨Or.inl ⟨enc mI, Or.inl hmI10⟩, ?_⟩
          walk_at "go"
          refine ⟨_, DGet_enc (r := look mI k) (Or.inl hmI10) rfl, ?_⟩
          rw [get_look]
          walk_at "go"
          refine ⟨a, b2, bd, rfl, hb10', by omega, by omega, fun d H11 d0 d2 hb11 k11 => ?_⟩
          walk_at "go"
          have hmM11 := k11 _ _ hmM (Ne.symm naM)
          obtain ⟨g0, g1⟩ := bI k
          have pr0 : 0 ≤ get mI k * bv := Int.mul_nonneg g0 y0
          have pr1 : get mI k * bv ≤ 6000000 * 100000 := Int.mul_le_mul g1 y1 y0 (by decide)
          refine ⟨dM, _, rfl, DPut_enc hmM11 (szl (by omega)), put mM k (get mI k * bv + d), _, _, rfl, upd_same, put_nodup ndM, fun k' h => ?_, fun k' h => ?_, fun k' => ?_, ?_, ?_, fun c o e n => ?_⟩
          · rw [List.take_add_one, hk]
            rw [keys_put] at h
            split at h
            · exact List.mem_append_left _ (kM k' h)
            · rcases List.mem_append.mp h with h | h
              · exact List.mem_append_left _ (kM k' h)
              · exact List.mem_append_right _ (by simpa using h)
          · rw [get_put]
            rw [List.take_add_one, hk] at h
            by_cases c : k' = k
            · rw [if_pos c, c]
              refine ⟨by omega, ?_⟩
              rw [keys_put]
              split
              · assumption
              · simp
            · rw [if_neg c]
              rcases List.mem_append.mp h with h | h
              · refine ⟨(leM k' h).1, ?_⟩
                rw [keys_put]
                split
                · exact (leM k' h).2
                · exact List.mem_append_left _ (leM k' h).2
              · exact absurd (by simpa using h) c
          · rw [get_put]
            split
            · omega
            · exact bM k'
          · have := put_len mM k (get mI k * bv + d)
            omega
          · walk_at "bx"
          · have n4 : c ≠ dM := ne_of_none e hdM
            have e11 := k11 _ _ (k10 _ _ e n) n
            walk_at "hp"
        · rintro σ H10 ⟨mM, x1, x3, rfl, hmM, ndM, kM, leM, bM, lM, hb10, k10⟩
          rw [lws] at lM hb10
          have ltk : ws.take (ws.map V.str).length = ws := by rw [List.length_map, List.take_length]
          rw [ltk] at kM leM
          have hb10' : Bx H10 a (B + 13) := hb10.mono (by omega)
          have hl10 := k10 _ _ hl9 nla
          have hmI10 := k10 _ _ hmI9 (Ne.symm naI)
          have k310 := k39.trans k10
          clear hb10 k10 k39 hl9 hmI9 hb9 hdM
          refine ⟨fun σ' H' => ∃ (x y : Addr) (m1 m2 : AL), σ' = [some (.ref a), x1, some (.ref dI), x3, some (.ref l), some (.int bd), some (.int bv), some (.ref dM), some (.ref x), some (.ref y), x10, x11, x12, x13, x14] ∧ LoA C H' x m1 ∧ (∀ k, get m1 k = get mM k) ∧ LoA C H' y m2 ∧ (∀ k, get m2 k = get mI k) ∧ H' dM = some (.dK (enc mM)) ∧ H' dI = some (.dK (enc mI)) ∧ H' l = some (.lst (ws.map V.str)) ∧ Bx H' a B ∧ Kp a H3 H', ?_, ?_⟩
          · walk_at "go"
            refine r_mk ?_
            walk_at "go"
            refine ⟨dM, mM, rfl, hmM, ndM, by omega, fun p ts qs H11 hp hp1 hts cn s11 => ?_⟩
            walk_at "go"
            have lts : ts.length ≤ 6 := by
              rw [Paired.len hts, cn.1.length_eq]
              exact Nat.le_trans (List.length_filter_le _ _) lM
            refine ⟨a, p, B + 7, ts, rfl, (hb10'.same s11).mono (by omega), SqT.of hp1, by omega, fun Lm ys H12 hLm pm hLm1 hb12 k12 => ?_⟩
            walk_at "go"
            obtain ⟨_, _, _, ha11, _⟩ := id (hb10'.same s11)
            obtain ⟨ps', pps, hys⟩ := paired_perm pm (PrA.kpdAll hts k12 ha11 (fun _ z => by cases z))
            have nn : ∀ k, 0 ≤ get mM k := fun k => (bM k).1
            refine init_end (xs := ys) (ps := ps') hLm1 hys (by rw [pm.length_eq]; omega) (fun z hz => ?_) fun x m1 H13 hx Lx g1 s13 => ?_
            · have h1 := cn.1.mem_iff.mp (pps.mem_iff.mp hz)
              have h2 := (mem_pos ndM (k := z.1) (n := z.2)).mp h1
              omega
            have g1' : ∀ k, get m1 k = get mM k := fun k => by rw [g1 k, tot_perm pps, tot_perm cn.1, tot_pos ndM nn]
            have k1013 : Kp a H10 H13 := fun c o e n => s13 _ _ (k12 _ _ (s11 _ _ e) n)
            have hb13 := hb12.same s13
            have hmI13 := k1013 _ _ hmI10 (Ne.symm naI)
            clear hts cn hp1 s11 hLm1 hb12 k12 hys s13 pps g1 ha11
            walk_at "go"
            refine r_mk ?_
            walk_at "go"
            refine ⟨dI, mI, rfl, hmI13, ndI, by omega, fun p ts qs H14 hp hp1 hts cn s14 => ?_⟩
            walk_at "go"
            have lts : ts.length ≤ 6 := by
              rw [Paired.len hts, cn.1.length_eq]
              exact Nat.le_trans (List.length_filter_le _ _) (by omega)
            refine ⟨a, p, B, ts, rfl, (hb13.same s14).mono (by omega), SqT.of hp1, by omega, fun Lm ys H15 hLm pm hLm1 hb15 k15 => ?_⟩
            walk_at "go"
            obtain ⟨_, _, _, ha14, _⟩ := id (hb13.same s14)
            obtain ⟨ps', pps, hys⟩ := paired_perm pm (PrA.kpdAll hts k15 ha14 (fun _ z => by cases z))
            have nnI : ∀ k, 0 ≤ get mI k := fun k => (bI k).1
            refine init_end (xs := ys) (ps := ps') hLm1 hys (by rw [pm.length_eq]; omega) (fun z hz => ?_) fun y m2 H16 hy Ly g2 s16 => ?_
            · have h1 := cn.1.mem_iff.mp (pps.mem_iff.mp hz)
              have h2 := (mem_pos ndI (k := z.1) (n := z.2)).mp h1
              omega
            have g2' : ∀ k, get m2 k = get mI k := fun k => by rw [g2 k, tot_perm pps, tot_perm cn.1, tot_pos ndI nnI]
            have k1316 : Kp a H13 H16 := fun c o e n => s16 _ _ (k15 _ _ (s14 _ _ e) n)
            walk_at "go"
            have Lx16 : LoA C H16 x m1 := by
              obtain ⟨⟨d, dx, h1, h2⟩, nd, mp, ml⟩ := Lx
              obtain ⟨_, _, _, ha13, _⟩ := id hb13
              exact ⟨⟨d, dx, k1316 _ _ h1 (ne_of h1 ha13 (by intro z; cases z)), k1316 _ _ h2 (ne_of h2 ha13 (by intro z; cases z))⟩, nd, mp, ml⟩
            have k1016 := k1013.trans k1316
            have naM' : dM ≠ a := Ne.symm naM
            exact ⟨x, y, m1, m2, rfl, Lx16, g1', Ly, g2', k1016 _ _ hmM naM', k1016 _ _ hmI10 (Ne.symm naI), k1016 _ _ hl10 nla, hb15.same s16, k310.trans k1016⟩
          · rintro σ H11 ⟨x, y, m1, m2, rfl, Lx, g1, Ly, g2, hmM, hmI, hl11, hb11, k311⟩
            walk_at "go"
            refine ⟨dI, mI, rfl, hmI, ndI, by omega, fun p ts qs H12 hp hp1 hts cn s12 => ?_⟩
            walk_at "go"
            rename_i t0 ht0
            have kq : ∀ z ∈ qs, KindS z.1 := fun z hz => by
              have h1 := cn.1.mem_iff.mp hz
              exact kw _ (kIw _ (List.mem_map.mpr ⟨z, (List.mem_filter.mp h1).1, rfl⟩))
            refine ⟨pd qs, .tuple [], ?_, ?_, shaped_pd kq, by decide, ?_⟩
            · exact dp_pairs (by walk_at "hp") (Paired.mapP hts fun _ _ z => z.same fun c o e => by walk_at "hp")
            · exact .tup (SqT.of upd_same) .nil
            rw [eqv_nil]
            refine ⟨_, rfl, ?_⟩
            have s11 : Same H11 (upd H12 t0 (.tup [])) := fun c o e => by have e2 := s12 _ _ e; walk_at "hp"
            obtain ⟨H13, e13⟩ : ∃ H13, H13 = upd H12 t0 (.tup []) := ⟨_, rfl⟩
            rw [← e13] at s11 ⊢
            clear e13 ht0 hp1 hts s12
            have Lx13 := Lx.same s11
            have Ly13 := Ly.same s11
            by_cases eq : qs = []
            · rw [eq]
              refine iteT ?_
              have e2 : m2 = [] := by
                cases hm : m2 with
                | nil => rfl
                | cons z r =>
                  exfalso
                  have hz : z ∈ m2 := by rw [hm]; exact List.mem_cons_self
                  have h1 := get_of Ly.nd hz
                  have h2 := Ly.ps z hz
                  rw [g2] at h1
                  have h3 : (z.1, z.2) ∈ pos mI := (mem_pos ndI).mpr ⟨h1, h2⟩
                  have h4 := cn.1.mem_iff.mpr h3
                  rw [eq] at h4
                  cases h4
              subst e2
              walk_at "go"
              refine ⟨x, y, m1, 0, rfl, Lx13, Ly13, Or.inl rfl, fun u1 H14 hu1 hv1 s14 => ?_⟩
              walk_at "go"
              refine ⟨x, y, m1, 1, rfl, Lx13.same s14, Ly13.same s14, Or.inr rfl, fun u2 H15 hu2 hv2 s15 => ?_⟩
              walk_at "go"
              refine ⟨y, y, [], 1, rfl, (Ly13.same s14).same s15, (Ly13.same s14).same s15, Or.inr rfl, fun u3 H16 hu3 hv3 s16 => ?_⟩
              have hv1' := s16 _ _ (s15 _ _ hv1)
              have hv2' := s16 _ _ hv2
              walk_at "go"
              rename_i g hg v1 hw1 v2 hw2 v3 hw3 g2 hg2
              refine ⟨.ref g, .ref g2, rfl, sm_lst (xs := [V.ref u1, V.ref u2, V.ref u3]) (ys := [V.ref v1, V.ref v2, V.ref v3]) ?_ upd_same rfl (by simp) (at3 (sm_tup2 ?_ ?_) (sm_tup2 ?_ ?_) (sm_tup2 ?_ ?_)), fun H17 s17 => ?_⟩
              · walk_at "hp"
              · walk_at "hp"
              · walk_at "hp"
              · walk_at "hp"
              · walk_at "hp"
              · walk_at "hp"
              · walk_at "hp"
              walk_at "go"
              refine iteF ?_
              walk_at "go"
              have s1117 : Same H11 H17 := fun c o e => by
                have e16 := s16 _ _ (s15 _ _ (s14 _ _ (s11 _ _ e)))
                exact s17 _ _ (by walk_at "hp")
              exact ⟨_, _, _, _, _, _, _, _, _, _, _, _, _, _, rfl, hb11.same s1117, k3.trans (k311.trans (Kp.of s1117))⟩
            · have e0 : qs.isEmpty = false := by
                cases qs with
                | nil => exact absurd rfl eq
                | cons _ _ => rfl
              rw [e0]
              refine iteF ?_
              have ne2 : m2 ≠ [] := fun z => by
                cases hq : qs with
                | nil => exact eq hq
                | cons u r =>
                  have hu : u ∈ qs := by rw [hq]; exact List.mem_cons_self
                  have h3 := (mem_pos ndI (k := u.1) (n := u.2)).mp (cn.1.mem_iff.mp hu)
                  have h4 := g2 u.1
                  rw [z] at h4
                  have h5 : (0 : Int) = get mI u.1 := h4
                  omega
              obtain ⟨⟨d1, dx1, h1, h2⟩, nd1, mp1, ml1⟩ := id Lx13
              obtain ⟨⟨d2, dx2, h12, h22⟩, nd2, mp2, ml2⟩ := id Ly13
              have mb1 : ∀ p ∈ m1, p.2.natAbs < 2 ^ 300 := fun p hp => by
                have h3 := get_of nd1 hp
                rw [g1] at h3
                have h4 := bM p.1
                omega
              have mb2 : ∀ p ∈ m2, p.2.natAbs < 2 ^ 300 := fun p hp => by
                have h3 := get_of nd2 hp
                rw [g2] at h3
                have h4 := bI p.1
                omega
              walk_at "go"
              refine r_opS ?_
              walk_at "go"
              refine ⟨x, y, dx1, dx2, _, _, rfl, rfl, h1, h12, x, y, m1, m2, rfl, Lx13, Ly13, ne2, mb1, mb2, fun n H14 n0 nb le ex s14 => ?_⟩
              obtain ⟨kk, hkk, hlt⟩ := ex
              have kkp : 0 < get mI kk := by rw [← g2]; exact get_pos mp2 nd2 hkk
              have kkw : kk ∈ ws := kIw _ (by
                by_cases c : kk ∈ keys mI
                · exact c
                · rw [get_none c] at kkp; omega)
              rw [g1, g2] at hlt
              have lev : bv ≤ n := by
                have h3 := (leM kk kkw).1
                have h4 : get mI kk * bv < get mI kk * (n + 1) := by omega
                have h5 := Int.lt_of_mul_lt_mul_left h4 (Int.le_of_lt kkp)
                omega
              have s1114 : Same H11 H14 := fun c o e => s14 _ _ (s11 _ _ e)
              walk_at "go"
              refine r_isi (T := "int") true (.base (.int _)) (by decide +kernel) ?_
              walk_at "go"
              refine iteF ?_
              walk_at "go"
              refine r_isi (T := "int") false (.base (.int _)) (by decide +kernel) ?_
              walk_at "go"
              refine iteF ?_
              walk_at "go"
              refine ite_dF (by omega) ?_
              walk_at "go"
              rename_i dD hdD pt2 hpt2
              have hmM14 := s1114 _ _ hmM
              have hmI14 := s1114 _ _ hmI
              have hl14 := s1114 _ _ hl11
              have lkM : ∀ k ∈ ws, look mM k = some (get mM k) := fun k hk => by
                obtain ⟨z, hz, rfl⟩ := List.mem_map.mp (leM k hk).2
                have e1 : look mM z.1 = some z.2 := (look_mem ndM).mpr hz
                unfold get
                rw [e1]
                rfl
              refine for_it (walk_list (xs := ws.map V.str)) (fun j σ H' => ∃ (mD : AL) (x3 : Option V) (mo : Int), σ = [some (.ref a), x1, some (.ref dI), x3, some (.ref l), some (.int bd), some (.int bv), some (.ref dM), some (.ref x), some (.ref y), x10, some (.int n), x12, some (.ref dD), some (.int mo)] ∧ H' dD = some (.dK (enc mD)) ∧ (keys mD).Nodup ∧ (∀ k ∈ keys mD, k ∈ ws.take j) ∧ (∀ k ∈ ws.take j, look mD k = some (get mM k - get mI k * n)) ∧ 0 ≤ mo ∧ (∀ k ∈ ws.take j, get mM k - get mI k * n < get mI k → 0 < mo) ∧ mD.length ≤ j ∧ Same H14 H') ?_ ?_ ?_ ?_
              · refine ⟨[], _, _, rfl, ?_, List.nodup_nil, fun k h => by simp [keys] at h, fun k h => by simp at h, Int.le_refl _, fun k h => by simp at h, Nat.le_refl _, fun c o e => ?_⟩
                · have n1 : dD ≠ pt2 := fun z => by rw [z, upd_same] at hpt2; cases hpt2
                  exact upd_at upd_same n1
                · have n1 : c ≠ dD := ne_of_none e hdD
                  walk_at "hp"
              · rintro j σ H' _ ⟨_, _, _, _, _, _, _, _, _, _, _, s15⟩
                exact SqL.of (s15 _ _ hl14)
              · rintro j _ σ _ H15 hj ⟨mD, x3, mo, rfl, hmD, ndD, kD, lD, mo0, mo1, lenD, s15⟩ ⟨rfl, hx⟩
                obtain ⟨k, rfl, hk⟩ := map_some hx
                rw [lws] at hj
                have hmM15 := s15 _ _ hmM14
                have hmI15 := s15 _ _ hmI14
                have bk := bI k
                have kin : k ∈ ws := List.mem_of_getElem? hk
                have knew : k ∉ keys mD := fun z => by
                  have h3 := kD k z
                  obtain ⟨j', hj', e'⟩ := List.mem_iff_getElem.mp h3
                  rw [List.length_take] at hj'
                  rw [List.getElem_take] at e'
                  obtain ⟨hj2, e2⟩ := List.getElem?_eq_some_iff.mp hk
                  exact (List.pairwise_iff_getElem.mp nw) j' j (by omega) hj2 (by omega) (e'.trans e2.symm)
                walk_at "go"
                refine ⟨dM, .int (get mM k), rfl, DGet_enc (r := some (get mM k)) (Or.inl hmM15) (lkM k kin), ?_⟩
                walk_at "go"
                refine ⟨Or.inl ⟨enc mI, Or.inl hmI15⟩, ?_⟩
                walk_at "go"
                refine ⟨_, DGet_enc (r := look mI k) (Or.inl hmI15) rfl, ?_⟩
                rw [get_look]
                walk_at "go"
                refine ⟨dD, _, rfl, DPut_enc hmD (szl (by omega)), ?_⟩
                walk_at "go"
                have nID : dI ≠ dD := ne_of_none hmI14 hdD
                have hmI16 : upd H15 dD (.dK (enc (put mD k (get mM k - get mI k * n)))) dI = some (.dK (enc mI)) := upd_at hmI15 nID
                have lkD : look (put mD k (get mM k - get mI k * n)) k = some (get mM k - get mI k * n) := by rw [look_put, if_pos rfl]
                have kD' : ∀ k' ∈ keys (put mD k (get mM k - get mI k * n)), k' ∈ ws.take (j + 1) := fun k' h => by
                  rw [List.take_add_one, hk]
                  rw [keys_put, if_neg knew] at h
                  rcases List.mem_append.mp h with h | h
                  · exact List.mem_append_left _ (kD k' h)
                  · exact List.mem_append_right _ (by simpa using h)
                have lD' : ∀ k' ∈ ws.take (j + 1), look (put mD k (get mM k - get mI k * n)) k' = some (get mM k' - get mI k' * n) := fun k' h => by
                  rw [look_put]
                  by_cases c : k' = k
                  · rw [if_pos c, c]
                  · rw [if_neg c]
                    rw [List.take_add_one, hk] at h
                    rcases List.mem_append.mp h with h | h
                    · exact lD k' h
                    · exact absurd (by simpa using h) c
                have len' := put_len mD k (get mM k - get mI k * n)
                have s16 : Same H14 (upd H15 dD (.dK (enc (put mD k (get mM k - get mI k * n))))) := fun c o e => upd_at (s15 _ _ e) (ne_of_none e hdD)
                refine ⟨Or.inl ⟨enc mI, Or.inl hmI16⟩, ?_⟩
                walk_at "go"
                refine ⟨_, DGet_enc (r := look mI k) (Or.inl hmI16) rfl, ?_⟩
                rw [get_look]
                walk_at "go"
                refine ⟨dD, .int (get mM k - get mI k * n), rfl, DGet_enc (r := some (get mM k - get mI k * n)) (Or.inl upd_same) lkD, ?_⟩
                walk_at "go"
                refine ite_d (fun c => ?_) (fun c => ?_)
                · walk_at "go"
                  exact ⟨_, _, mo + 1, rfl, upd_same, put_nodup ndD, kD', lD', by omega, fun _ _ _ => by omega, by omega, s16⟩
                · walk_at "go"
                  refine ⟨_, _, mo, rfl, upd_same, put_nodup ndD, kD', lD', mo0, fun k' h hlt' => ?_, by omega, s16⟩
                  rw [List.take_add_one, hk] at h
                  rcases List.mem_append.mp h with h | h
                  · exact mo1 k' h hlt'
                  · have e : k' = k := by simpa using h
                    rw [e] at hlt'
                    exact absurd hlt' c
              · rintro σ H15 ⟨mD, x3, mo, rfl, hmD, ndD, kD, lD, mo0, mo1, lenD, s15⟩
                rw [lws] at lenD
                rw [ltk] at kD lD mo1
                have mop : 0 < mo := mo1 kk kkw (by
                  have e : get mI kk * (n + 1) = get mI kk * n + get mI kk := by rw [Int.mul_add, Int.mul_one]
                  omega)
                have due0 : ∀ k, 0 ≤ get mM k - get mI k * n := fun k => by
                  have := le k
                  rw [g1, g2] at this
                  omega
                have hl15 := s15 _ _ hl14
                walk_at "go"
                intro D' hD'
                have nDD : dD ≠ D' := ne_of_none hmD hD'
                refine lc_it (walk_list (xs := ws.map V.str)) (fun _ H' => H' D' = some (.lst []) ∧ Same H15 H') ?_ ?_ ?_ ?_
                · exact ⟨upd_same, fun c o e => upd_at e (ne_of_none e hD')⟩
                · rintro j H' _ ⟨_, s17⟩
                  exact SqL.of (s17 _ _ hl15)
                · rintro j _ _ H17 hj ⟨hD17, s17⟩ ⟨rfl, hx⟩
                  obtain ⟨k, rfl, hk⟩ := map_some hx
                  have hmD17 := s17 _ _ hmD
                  have d0k := due0 k
                  walk_at "go"
                  refine ⟨rfl, ?_⟩
                  walk_at "go"
                  refine ⟨dD, .int (get mM k - get mI k * n), rfl, DGet_enc (r := some (get mM k - get mI k * n)) (Or.inl hmD17) (lD k (List.mem_of_getElem? hk)), ?_⟩
                  walk_at "go"
                  refine ite_dF (by omega) ?_
                  exact ⟨hD17, s17⟩
                · rintro H17 ⟨hD17, s17⟩
                  walk_at "go"
                  rename_i Le hLe
                  refine ⟨.list [], .list [], .lst (xs := []) (SqL.of (by walk_at "hp")) .nil, .lst (xs := []) (SqL.of upd_same) .nil, by decide, by decide, ?_⟩
                  walk_at "go"
                  refine iteF ?_
                  walk_at "go"
                  refine ite_dF (fun z => by have := V.int.inj z; omega) ?_
                  walk_at "go"
                  have s18 : Same H14 (upd H17 Le (.lst [])) := fun c o e => by
                    have e17 := s17 _ _ (s15 _ _ e)
                    exact upd_at e17 (ne_of_none e17 hLe)
                  have hmD18 : (upd H17 Le (.lst [])) dD = some (.dK (enc mD)) := by
                    have e17 := s17 _ _ hmD
                    exact upd_at e17 (ne_of_none e17 hLe)
                  obtain ⟨H18, e18⟩ : ∃ H18, H18 = upd H17 Le (.lst []) := ⟨_, rfl⟩
                  rw [← e18] at s18 hmD18 ⊢
                  clear e18 hLe hD17 s17 hD' hmD mo1 hpt2
                  have Lx18 := (Lx13.same s14).same s18
                  have Ly18 := (Ly13.same s14).same s18
                  have h118 := s18 _ _ (s14 _ _ h1)
                  have h1218 := s18 _ _ (s14 _ _ h12)
                  have getD : ∀ k, get mD k = get mM k - get mI k * n := fun k => by
                    by_cases c : k ∈ ws
                    · unfold get
                      rw [lD k c]
                      rfl
                    · rw [get_none (fun z => c (kD k z)), get_none (m := mM) (fun z => c (kM k z)), get_none (m := mI) (fun z => c (kIw k z)), Int.zero_mul]
                      rfl
                  have uniq : ∀ n' : Int, (∀ k, get m2 k * n' ≤ get m1 k) → (∃ k ∈ keys m2, get m1 k < get m2 k * (n' + 1)) → n' = n := fun n' le' ex' => by
                    obtain ⟨k', hk', hlt'⟩ := ex'
                    have p1 := get_pos mp2 nd2 hk'
                    have h3 : get m2 k' * n < get m2 k' * (n' + 1) := Int.lt_of_le_of_lt (le k') hlt'
                    have h4 := Int.lt_of_mul_lt_mul_left h3 (Int.le_of_lt p1)
                    have h5 : get m2 kk * n' < get m2 kk * (n + 1) := Int.lt_of_le_of_lt (le' kk) (by rw [g1, g2]; exact hlt)
                    have h6 := Int.lt_of_mul_lt_mul_left h5 (Int.le_of_lt (get_pos mp2 nd2 hkk))
                    omega
                  refine r_meth0 ?_
                  refine r_opS ?_
                  walk_at "go"
                  refine ⟨x, y, dx1, dx2, _, _, rfl, rfl, h118, h1218, x, y, m1, m2, rfl, Lx18, Ly18, ne2, mb1, mb2, fun z n' m3 H19 hz Lz n0' le' ex' g3 s19 => ?_⟩
                  have en := uniq n' le' ex'
                  subst en
                  obtain ⟨⟨dz, dxz, hz1, hz2⟩, ndz, mpz, mlz⟩ := id Lz
                  refine ⟨z, dxz, _, rfl, hz1, look1, z, m3, rfl, Lz, fun p1 ts1 qs1 H20 hp1 hp11 hts1 cn1 s20 => ?_⟩
                  walk_at "go"
                  refine r_meth0 ?_
                  walk_at "go"
                  refine ⟨x, dx1, _, rfl, s20 _ _ (s19 _ _ h118), look1, x, m1, rfl, (Lx18.same s19).same s20, fun p2 ts2 qs2 H21 hp2 hp21 hts2 cn2 s21 => ?_⟩
                  walk_at "go"
                  refine r_meth0 ?_
                  walk_at "go"
                  refine ⟨y, dx2, _, rfl, s21 _ _ (s20 _ _ (s19 _ _ h1218)), look1, y, m2, rfl, ((Ly18.same s19).same s20).same s21, fun p3 ts3 qs3 H22 hp3 hp31 hts3 cn3 s22 => ?_⟩
                  walk_at "go"
                  rename_i g hg
                  have sg : Same H22 (upd H22 g (.lst [V.ref p1, V.ref p2, V.ref p3])) := fun c o e => upd_at e (ne_of_none e hg)
                  have hgv : (upd H22 g (.lst [V.ref p1, V.ref p2, V.ref p3])) g = some (.lst [V.ref p1, V.ref p2, V.ref p3]) := upd_same
                  obtain ⟨H23, e23⟩ : ∃ H23, H23 = upd H22 g (.lst [V.ref p1, V.ref p2, V.ref p3]) := ⟨_, rfl⟩
                  rw [← e23] at sg hgv ⊢
                  clear e23 hg
                  have s1823 : Same H18 H23 := fun c o e => sg _ _ (s22 _ _ (s21 _ _ (s20 _ _ (s19 _ _ e))))
                  have f1 := sg _ _ (s22 _ _ (s21 _ _ hp11))
                  have f2 := sg _ _ (s22 _ _ hp21)
                  have f3 := sg _ _ hp31
                  have t1 := Paired.mapP hts1 fun _ _ z => ((z.same s21).same s22).same sg
                  have t2 := Paired.mapP hts2 fun _ _ z => (z.same s22).same sg
                  have t3 := Paired.mapP hts3 fun _ _ z => z.same sg
                  clear hts1 hts2 hts3 hp11 hp21 hp31 s19 s20 s21 s22 sg
                  walk_at "go"
                  refine ⟨dD, mD, rfl, s1823 _ _ hmD18, ndD, by omega, fun p4 ts4 qs4 H24 hp4 hp41 hts4 cn4 s24 => ?_⟩
                  walk_at "go"
                  refine ⟨dM, mM, rfl, s24 _ _ (s1823 _ _ (s18 _ _ hmM14)), ndM, by omega, fun p5 ts5 qs5 H25 hp5 hp51 hts5 cn5 s25 => ?_⟩
                  walk_at "go"
                  refine ⟨dI, mI, rfl, s25 _ _ (s24 _ _ (s1823 _ _ (s18 _ _ hmI14))), ndI, by omega, fun p6 ts6 qs6 H26 hp6 hp61 hts6 cn6 s26 => ?_⟩
                  walk_at "go"
                  rename_i g' hg'
                  have q14 : qs1 = qs4 := cn_unique ndz ndD cn1 cn4 fun k _ => by rw [g3, g1, g2, getD]
                  have q25 : qs2 = qs5 := cn_unique nd1 ndM cn2 cn5 fun k _ => g1 k
                  have q36 : qs3 = qs6 := cn_unique nd2 ndI cn3 cn6 fun k _ => g2 k
                  have sF : Same H26 (upd H26 g' (.lst [V.ref p4, V.ref p5, V.ref p6])) := fun c o e => upd_at e (ne_of_none e hg')
                  have s2326 : Same H23 H26 := fun c o e => s26 _ _ (s25 _ _ (s24 _ _ e))
                  have l4 : qs4.length ≤ 1000 := by rw [cn4.1.length_eq]; exact Nat.le_trans (List.length_filter_le _ _) (by omega)
                  have l5 : qs5.length ≤ 1000 := by rw [cn5.1.length_eq]; exact Nat.le_trans (List.length_filter_le _ _) (by omega)
                  have l6 : qs6.length ≤ 1000 := by rw [cn6.1.length_eq]; exact Nat.le_trans (List.length_filter_le _ _) (by omega)
                  rw [q14] at t1
                  rw [q25] at t2
                  rw [q36] at t3
                  refine ⟨.ref g, .ref g', rfl, sm_lst (xs := [V.ref p1, V.ref p2, V.ref p3]) (ys := [V.ref p4, V.ref p5, V.ref p6]) (sF _ _ (s2326 _ _ hgv)) upd_same rfl (by simp) (at3 ?_ ?_ ?_), fun H27 s27 => ?_⟩
                  · exact sm_prs (sF _ _ (s2326 _ _ f1)) (sF _ _ (s26 _ _ (s25 _ _ hp41))) (Paired.mapP t1 fun _ _ z => (z.same s2326).same sF) (Paired.mapP hts4 fun _ _ z => ((z.same s25).same s26).same sF) l4
                  · exact sm_prs (sF _ _ (s2326 _ _ f2)) (sF _ _ (s26 _ _ hp51)) (Paired.mapP t2 fun _ _ z => (z.same s2326).same sF) (Paired.mapP hts5 fun _ _ z => (z.same s26).same sF) l5
                  · exact sm_prs (sF _ _ (s2326 _ _ f3)) (sF _ _ hp61) (Paired.mapP t3 fun _ _ z => (z.same s2326).same sF) (Paired.mapP hts6 fun _ _ z => z.same sF) l6
                  have s1827 : Same H18 H27 := fun c o e => s27 _ _ (sF _ _ (s2326 _ _ (s1823 _ _ e)))
                  clear t1 t2 t3 hts4 hts5 hts6 cn1 cn2 cn3 cn4 cn5 cn6 q14 q25 q36 f1 f2 f3 hp41 hp51 hp61 hgv sF s2326 s1823 s24 s25 s26 s27 hg'
                  walk_at "go"
                  refine iteF ?_
                  walk_at "go"
                  have h127 := s1827 _ _ h118
                  have h1227 := s1827 _ _ h1218
                  have Lx27 := Lx18.same s1827
                  have Ly27 := Ly18.same s1827
                  refine r_opS ?_
                  walk_at "go"
                  refine ⟨x, y, dx1, dx2, _, _, rfl, rfl, h127, h1227, x, y, m1, m2, rfl, Lx27, Ly27, ne2, mb1, mb2, fun z2 n2 m4 H28 hz28 Lz2 n20 le2 ex2 g4 s28 => ?_⟩
                  walk_at "go"
                  refine ⟨_, rfl, ?_⟩
                  refine r_mk ?_
                  walk_at "go"
                  have hl28 : H28 l = some (.lst (ws.map V.str)) := s28 _ _ (s1827 _ _ (s18 _ _ hl14))
                  obtain ⟨w9, hw9⟩ : ∃ w9, ws[0]? = some w9 := ⟨ws[0], List.getElem?_eq_getElem (by omega)⟩
                  refine r_ixL (SqL.of hl28) (atI_nat (j := 0) (show (ws.map V.str)[0]? = some (V.str w9) by rw [List.getElem?_map, hw9]; rfl)) ?_
                  walk_at "go"
                  rename_i u hu9 Lu hLu
                  refine init_end (xs := [V.ref u]) (ps := [(w9, 4)]) ?_ ?_ (by simp) (fun r hr9 => ?_) fun v m5 H30 hv Lv g5 s30 => ?_
                  · exact upd_same
                  · exact .cons ⟨u, rfl, by walk_at "hp"⟩ .nil
                  · rw [List.mem_singleton.mp hr9]
                    show (0 : Int) ≤ 4
                    decide
                  have s2830 : Same H28 H30 := fun c o e => s30 _ _ (by walk_at "hp")
                  clear s30 hu9 hLu hv
                  have l4 : m4.length ≤ ws.length := len_sub Lz2.nd fun k hk => by
                    have p1 := get_pos Lz2.ps Lz2.nd hk
                    rw [g4, g1] at p1
                    by_cases c : k ∈ keys mM
                    · exact kM k c
                    · exfalso
                      have p2 := le2 k
                      rw [g1] at p2
                      rw [get_none c] at p1 p2
                      have p3 : 0 ≤ get m2 k * n2 := Int.mul_nonneg (by rw [g2]; exact (bI k).1) n20
                      omega
                  have l5 : m5.length ≤ [w9].length := len_sub Lv.nd fun k hk => by
                    have p1 := get_pos Lv.ps Lv.nd hk
                    rw [g5, tot1] at p1
                    by_cases c : w9 = k
                    · rw [c]; exact List.mem_singleton.mpr rfl
                    · rw [if_neg c] at p1; omega
                  have l5' : m5.length ≤ 1 := l5
                  obtain ⟨⟨d4, dx4, hz41, hz42⟩, nd4, mp4, ml4⟩ := id Lz2
                  refine ⟨z2, dx4, _, rfl, s2830 _ _ hz41, z2, v, m4, m5, rfl, Lz2.same s2830, Lv, by omega, fun m6 H31 L31 g6 kp31 => ?_⟩
                  have s2731 : Same H27 H31 := fun c o e => kp31 _ _ (s2830 _ _ (s28 _ _ e)) (ne_of_none e hz28)
                  clear hz41 hz42 kp31 s2830 s28 L31 Lv Lz2 g6 g5 hl28
                  have Lx31 := Lx27.same s2731
                  have Ly31 := Ly27.same s2731
                  have h131 := s2731 _ _ h127
                  have h1231 := s2731 _ _ h1227
                  walk_at "go"
                  refine r_meth0 ?_
                  walk_at "go"
                  refine ⟨x, dx1, _, rfl, h131, look1, x, m1, rfl, Lx31, fun p2 ts2 qs2 H21 hp2 hp21 hts2 cn2 s21 => ?_⟩
                  walk_at "go"
                  refine r_meth0 ?_
                  walk_at "go"
                  refine ⟨y, dx2, _, rfl, s21 _ _ h1231, look1, y, m2, rfl, Ly31.same s21, fun p3 ts3 qs3 H22 hp3 hp31 hts3 cn3 s22 => ?_⟩
                  walk_at "go"
                  rename_i g9 hg9
                  have sg : Same H22 (upd H22 g9 (.lst [V.ref p2, V.ref p3])) := fun c o e => upd_at e (ne_of_none e hg9)
                  have hgv : (upd H22 g9 (.lst [V.ref p2, V.ref p3])) g9 = some (.lst [V.ref p2, V.ref p3]) := upd_same
                  obtain ⟨H23, e23⟩ : ∃ H23, H23 = upd H22 g9 (.lst [V.ref p2, V.ref p3]) := ⟨_, rfl⟩
                  rw [← e23] at sg hgv ⊢
                  clear e23 hg9
                  have s3123 : Same H31 H23 := fun c o e => sg _ _ (s22 _ _ (s21 _ _ e))
                  have f2 := sg _ _ (s22 _ _ hp21)
                  have f3 := sg _ _ hp31
                  have t2 := Paired.mapP hts2 fun _ _ z => (z.same s22).same sg
                  have t3 := Paired.mapP hts3 fun _ _ z => z.same sg
                  clear hts2 hts3 hp21 hp31 s21 s22 sg
                  have s1423 : Same H14 H23 := fun c o e => s3123 _ _ (s2731 _ _ (s1827 _ _ (s18 _ _ e)))
                  walk_at "go"
                  refine ⟨dM, mM, rfl, s1423 _ _ hmM14, ndM, by omega, fun p5 ts5 qs5 H25 hp5 hp51 hts5 cn5 s25 => ?_⟩
                  walk_at "go"
                  refine ⟨dI, mI, rfl, s25 _ _ (s1423 _ _ hmI14), ndI, by omega, fun p6 ts6 qs6 H26 hp6 hp61 hts6 cn6 s26 => ?_⟩
                  walk_at "go"
                  rename_i g' hg'
                  have q25 : qs2 = qs5 := cn_unique nd1 ndM cn2 cn5 fun k _ => g1 k
                  have q36 : qs3 = qs6 := cn_unique nd2 ndI cn3 cn6 fun k _ => g2 k
                  have sF : Same H26 (upd H26 g' (.lst [V.ref p5, V.ref p6])) := fun c o e => upd_at e (ne_of_none e hg')
                  have s2326 : Same H23 H26 := fun c o e => s26 _ _ (s25 _ _ e)
                  have l5 : qs5.length ≤ 1000 := by rw [cn5.1.length_eq]; exact Nat.le_trans (List.length_filter_le _ _) (by omega)
                  have l6 : qs6.length ≤ 1000 := by rw [cn6.1.length_eq]; exact Nat.le_trans (List.length_filter_le _ _) (by omega)
                  rw [q25] at t2
                  rw [q36] at t3
                  refine ⟨.ref g9, .ref g', rfl, sm_lst (xs := [V.ref p2, V.ref p3]) (ys := [V.ref p5, V.ref p6]) (sF _ _ (s2326 _ _ hgv)) upd_same rfl (by simp) (at2 ?_ ?_), fun H27' s27 => ?_⟩
                  · exact sm_prs (sF _ _ (s2326 _ _ f2)) (sF _ _ (s26 _ _ hp51)) (Paired.mapP t2 fun _ _ z => (z.same s2326).same sF) (Paired.mapP hts5 fun _ _ z => (z.same s26).same sF) l5
                  · exact sm_prs (sF _ _ (s2326 _ _ f3)) (sF _ _ hp61) (Paired.mapP t3 fun _ _ z => (z.same s2326).same sF) (Paired.mapP hts6 fun _ _ z => z.same sF) l6
                  have sEnd : Same H11 H27' := fun c o e => s27 _ _ (sF _ _ (s2326 _ _ (s1423 _ _ (s1114 _ _ e))))
                  walk_at "go"
                  refine iteF ?_
                  walk_at "go"
                  exact ⟨_, _, _, _, _, _, _, _, _, _, _, _, _, _, rfl, hb11.same sEnd, k3.trans (k311.trans (Kp.of sEnd))⟩
    · rintro σ H3 ⟨x1, x2, x3, x4, x5, x6, x7, x8, x9, x10, x11, x12, x13, x14, rfl, hb3, k3⟩
      walk_at "go"
      exact q H3 k3
end
end My

--T /opt/kit/linked/4bf7bf6c73b87d88f1ba1c555b42b7c50cec9cc5/law_k05_how_often_and_what_is_left/T.py
namespace My
open PySem L2
local macro_rules | `(tactic| walk_at "bx1") => `(tactic| first | with_reducible assumption | ((with_reducible refine' Bx.upd ?h1 ?h2); (case h1 => walk_at "bx1"); (case h2 => walk_at "ne")) | ((with_reducible refine' Bx.same ?h1 (by with_reducible assumption)); (case h1 => walk_at "bx1")))
local macro_rules | `(tactic| walk_at "bx") => `(tactic| (refine' Bx.mono ?h1 ?h2; (case h1 => walk_at "bx1"); (case h2 => omega)))
local macro_rules | `(tactic| walk_at "ne") => `(tactic| first | with_reducible assumption | exact Ne.symm (by with_reducible assumption) | ((with_reducible refine' ne_of_none ?h1 (by with_reducible assumption)); (case h1 => walk_at "hp")) | ((with_reducible refine' Ne.symm (ne_of_none ?h1 (by with_reducible assumption))); (case h1 => walk_at "hp")) | ((with_reducible refine' Bx.ne ?h1 (by with_reducible assumption)); (case h1 => walk_at "bx1")) | ((with_reducible refine' Ne.symm (Bx.ne ?h1 (by with_reducible assumption))); (case h1 => walk_at "bx1")))
local macro_rules | `(tactic| walk_at "hp") => `(tactic| first | with_reducible assumption | ((with_reducible refine' (upd_same.trans ?h1)); (case h1 => rfl)) | ((with_reducible refine' My.upd_at ?h1 ?h2); (case h1 => walk_at "hp"); (case h2 => walk_at "ne")) | ((with_reducible refine' My.Kp.at (by with_reducible assumption) ?h1 ?h2); (case h1 => walk_at "hp"); (case h2 => walk_at "ne")) | ((with_reducible refine' My.Same.at (by with_reducible assumption) ?h1); (case h1 => walk_at "hp")))
local macro_rules | `(tactic| walk_at "sq") => `(tactic| first | with_reducible assumption | exact SqL.of (by walk_at "hp") | exact SqT.of (by walk_at "hp") | ((with_reducible refine' My.SqT.upd ?h1 (by with_reducible assumption)); (case h1 => walk_at "sq")) | ((with_reducible refine' My.SqL.upd ?h1 (by with_reducible assumption)); (case h1 => walk_at "sq")) | ((with_reducible refine' Same.seq (by with_reducible assumption) ?h1); (case h1 => walk_at "sq")) | ((with_reducible refine' My.SqT.same ?h1 (by with_reducible assumption)); (case h1 => walk_at "sq")) | ((with_reducible refine' My.SqT.kp ?h1 (by with_reducible assumption) ?h2); (case h1 => walk_at "sq"); (case h2 => walk_at "bx1")) | ((with_reducible refine' My.SqL.kp ?h1 (by with_reducible assumption) ?h2); (case h1 => walk_at "sq"); (case h2 => walk_at "ne")))
local macro_rules | `(tactic| walk_at "sd") => `(tactic| first | assumption | omega | decide | (refine ⟨?_, ?_⟩ <;> (first | omega | decide)) | (refine Or.inl ⟨?_, ?_⟩ <;> (first | omega | decide)) | (refine Or.inr ⟨?_, ?_⟩ <;> (first | omega | decide)) | (refine ⟨?_, ?_, ?_⟩ <;> (first | omega | decide)))
local macro_rules | `(tactic| walk_at "ps") => `(tactic| first
  | with_reducible refine r_seq ?_ | with_reducible refine r_asg ?_ | with_reducible refine r_op ?_ | with_reducible refine r_cons ?_ | with_reducible refine r_nil ?_ | with_reducible refine r_c ?_
  | with_reducible refine' r_var rfl ?_ | with_reducible refine r_gname ?_ | with_reducible refine r_cb ?_ | with_reducible refine r_I0 ?_ | with_reducible refine r_ret ?_ | with_reducible refine r_ifS ?_ | with_reducible refine r_test ?_ | with_reducible refine r_B ?_
  | with_reducible refine r_next ?_ | with_reducible refine r_drop ?_ | with_reducible refine r_if ?_ | with_reducible refine r_un ?_ | with_reducible refine r_U ?_ | with_reducible refine r_gsub ?_ | with_reducible refine r_tup ?_ | with_reducible refine r_lst ?_ | with_reducible refine r_bm ?_
  | with_reducible refine r_cal ?_ | with_reducible refine r_not ?_ | with_reducible refine r_and ?_ | with_reducible refine r_or ?_ | with_reducible refine r_andV ?_ | with_reducible refine r_orV ?_ | with_reducible refine r_notV ?_
  | with_reducible refine r_abs ?_ | with_reducible refine r_intI ?_ | with_reducible refine r_intB ?_ | with_reducible refine r_m1 ?_ | with_reducible refine r_slice ?_ | with_reducible refine r_part ?_ | with_reducible refine r_nopart ?_
  | with_reducible refine r_gcons ?_ | with_reducible refine r_gnil ?_
  | with_reducible refine r_par ?_ | with_reducible refine r_par3 ?_ | with_reducible refine r_ex2 ?_ | with_reducible refine r_ex3 ?_
  | with_reducible refine r_isN ?_ | with_reducible refine r_notN ?_
  | with_reducible refine r_iZipA ?_
  | with_reducible refine r_dget ?_ | with_reducible refine r_dget2 ?_ | with_reducible refine r_iKeys ?_ | with_reducible refine r_dput ?_
  | with_reducible refine r_for ?_ | with_reducible refine r_lc ?_ | with_reducible refine r_iList ?_ | with_reducible refine r_iTup ?_ | with_reducible refine r_iRng1 ?_ | with_reducible refine r_iEnum ?_ | with_reducible refine r_orT ?_ | with_reducible refine r_yes ?_ | with_reducible refine r_ixSl ?_)
local macro_rules | `(tactic| walk_at "st") => `(tactic| first
  | walk_at "ps"
  | ((with_reducible refine' r_ixL ?h1 ?h2 ?_); (case h1 => walk_at "sq"); (case h2 => rfl))
  | ((with_reducible refine' r_setL ?h1 ?h2 ?_); (case h1 => walk_at "hp"); (case h2 => rfl))
  | ((with_reducible refine' r_I ?h1 ?_); (case h1 => walk_at "sd"))
  | ((with_reducible refine' r_eq ?h1 ?_); (case h1 => rfl)) | ((with_reducible refine' r_ne ?h1 ?_); (case h1 => rfl))
  | ((with_reducible refine' r_lenL ?h1 ?_); (case h1 => walk_at "sq")) | ((with_reducible refine' r_lenT ?h1 ?_); (case h1 => walk_at "sq")) | ((with_reducible refine' r_lenD ?h1 ?_); (case h1 => walk_at "hp"))
  | ((with_reducible refine' r_slL ?h1 ?_); (case h1 => walk_at "sq"); intro _ _)
  | ((with_reducible refine' r_append ?h1 ?h2 ?_); (case h1 => walk_at "hp"); (case h2 => exact szl (by first | omega | (simp; omega))))
  | ((with_reducible refine' r_gtup ?h1 ?h2 ?_); (case h1 => walk_at "sq"); (case h2 => rfl))
  | ((with_reducible refine' r_cat ?h1 ?h2 ?h3 ?_); (case h1 => walk_at "hp"); (case h2 => walk_at "hp"); (case h3 => exact sz (by first | omega | (simp; omega))); intro _ _)
  | ((with_reducible refine' r_wLst ?h1 ?_); (case h1 => walk_at "sq")) | ((with_reducible refine' r_wTup ?h1 ?_); (case h1 => walk_at "sq"))
  | ((with_reducible refine' r_wRng ?h1 ?_); (case h1 => walk_at "sd"))
  | ((with_reducible refine' r_truL ?h1 ?_); (case h1 => walk_at "sq"))
  | ((with_reducible refine' r_list (Or.inl ?h1) ?_); (case h1 => walk_at "sq"); intro _ _) | ((with_reducible refine' r_list (Or.inr ?h1) ?_); (case h1 => walk_at "sq"); intro _ _)
  | ((with_reducible refine' r_tupL ?h1 ?_); (case h1 => walk_at "sq"); intro _ _) | ((with_reducible refine' r_tupT ?h1 ?_); (case h1 => walk_at "sq"))
  | ((with_reducible refine' r_disp ?h1 ?_); (case h1 => exact Nat.le_of_ble_eq_true rfl); intro _ _)
  | ((with_reducible refine r_dnewK ?_); intro _ _)
  | ((with_reducible refine' r_tyL ?h1 ?_); (case h1 => walk_at "sq")) | with_reducible refine r_strV ?_
  | with_reducible refine r_exb ?_ | with_reducible refine r_exi ?_ | with_reducible refine r_exr ?_ | with_reducible refine r_exs ?_ | with_reducible refine r_exli ?_)
local macro_rules | `(tactic| walk_at "go") => `(tactic| repeat walk_at "st")
local macro_rules | `(tactic| walk_at "in") => `(tactic| dsimp only [noxK, cxK, L2.start, List.map_cons, List.map_nil, List.length_cons, List.length_nil, Nat.reduceAdd, Nat.reduceSub, List.replicate, List.cons_append, List.nil_append])

section
variable {P : Program} {w : World} {K : PySem.W.Frag} {mg : Str → Option Value} {base : Heap} {C CN : Addr}
abbrev sLaw : Stmt := top 29
theorem scLaw : FnScope ["_law_script", "_law_cells_here", "_law_k"] ["_law_script"] (defScope sLaw) := ⟨rfl, rfl, rfl, by decide +kernel, rfl, by decide +kernel, by decide +kernel⟩
def spLaw (K : PySem.W.Frag) : Sp := fun vs H Q _ => ∃ (a : Addr) (ns : List Int), vs = [.ref a] ∧ SqL K H a (ns.map V.int) ∧ ns.length ≤ 63 ∧ ∀ H', Q (.bl true) H'
theorem ok_law {f : Addr} {fd : FuncData} (F : Fun K "law" "law" sLaw f fd) (T : Txt K mg) (Cc : Cal P w K mg base CX0 1 "_law_cells" ["_law_script", "_law_most_so"] (spCells K)) (Cb : Cal P w K mg base CX0 1 "_law_box" ["_law_script", "_law_k"] (spBox K)) (Cr : Cal P w K mg base CX0 7 "_law_right" ["_law_box_here"] spRight) : FnOk P w K mg base CX0 8 f fd ["_law_script"] (spLaw K) := by
  refine F.ok scLaw (fun vs H Q E h => ?_) (fun cdv A outer s H vs Q E hr h => ?_)
  · obtain ⟨a, ns, rfl, _⟩ := h
    rfl
  · obtain ⟨a, ns, rfl, hx, hl, q⟩ := h
    refine ⟨_, (pss_cons (ps_set (i := 1) scLaw.nd rfl (Or.inr rfl) (pe_cal Cc (hr.mono (by decide)) pass0 (pa_cons (pv 0) (pa_cons pe_int pa_nil))))
  (pss_one (ps_ret (pe_callB (cr_all rfl) (by rfl) T.all (by decide +kernel) (pa_cons (pe_lc (own := [("_law_k", 2)]) (g := gName 2) (tt := tYes) rfl scLaw.nd (pi_range1 rfl T.range (pa_cons (pe_callB c_lenL (by rfl) T.len (by decide +kernel) (pa_cons (pv 1) pa_nil)) pa_nil)) (blkOk_by (N := ["_law_script", "_law_cells_here", "_law_k"]) (sc := defScope sLaw) (by decide +kernel)) (fun _ _ _ _ _ => (pg_name (i := 2) scLaw.nd rfl (Or.inl rfl))) (fun _ _ _ _ _ => pts_nil) (fun _ _ _ _ _ => (pe_cal Cr hr pass0 (pa_cons (pe_cal Cb (hr.mono (by decide)) pass0 (pa_cons (pv 1) (pa_cons (pv 2) pa_nil))) pa_nil)))) pa_nil))))), ?_⟩
    walk_at "in"
    walk_at "go"
    refine ⟨a, ns, rfl, hx, hl, fun p ms H1 hp m1 m3 hp1 s1 => ?_⟩
    walk_at "go"
    refine ⟨by rw [List.length_map]; omega, by rw [List.length_map]; omega, ?_⟩
    intro D hD
    have nDp : D ≠ p := fun z => by rw [z, hp1] at hD; cases hD
    have el : (((ms.map V.int).length : Nat) : Int).toNat = ms.length := by rw [List.length_map]; rfl
    rw [el]
    refine lc_it (walk_range (n := ms.length)) (fun i H' => H' D = some (.lst ((List.replicate i true).map V.bl)) ∧ Same H1 H') ?_ ?_ ?_ ?_
    · exact ⟨upd_same, fun c o e => upd_at e (ne_of_none e hD)⟩
    · intro _ _ _ _
      trivial
    · rintro i _ _ H2 hi ⟨hD2, s2⟩ ⟨rfl, rfl⟩
      walk_at "go"
      refine ⟨rfl, ?_⟩
      walk_at "go"
      refine iteT ?_
      walk_at "go"
      refine ⟨p, ms, i, ?_, SqL.of (s2 _ _ hp1), hi, by omega, fun b H3 hb hb3 s3 => ?_⟩
      · show [V.ref p, V.int (0 + (i : Int))] = _
        rw [Int.zero_add]
      walk_at "go"
      refine ⟨b, rfl, hb3.mono (by decide), fun H4 k4 => ?_⟩
      have keep : ∀ c o, H2 c = some o → H4 c = some o := fun c o e => k4 _ _ (s3 _ _ e) (ne_of_none e hb)
      refine ⟨_, keep _ _ hD2, szl (by rw [List.length_map, List.length_replicate]; omega), ?_, fun c o e => ?_⟩
      · rw [List.replicate_succ', List.map_append]
        exact upd_same
      · exact upd_at (keep _ _ (s2 _ _ e)) (ne_of_none e hD)
    · rintro H2 ⟨hD2, s2⟩
      walk_at "go"
      refine r_all (SqL.of hD2) ?_
      rw [List.all_replicate]
      have e : (if ms.length = 0 then true else id true) = true := by split <;> rfl
      first | rw [e] | skip
      exact q _
end
end My

namespace My
open PySem L2
/-- an error of the class cls, without a dict of its own -/
def ExT (cls : Value) (a : Addr) : HO := .ext fun h => ∃ oe vs, h.get? a = some oe ∧ Zc cls none oe ∧ oe.data = Data.fields vs
theorem extT_ok {P : Program} {w : World} {H : Hp} {h : Heap} {a : Addr} {cls : Value} {oe : Obj} {vs : Array Value} (h1 : h.get? a = some oe) (h2 : Zc cls none oe) (h3 : oe.data = Data.fields vs) : ObjOk P w H h a (ExT cls a) := by
  refine ⟨⟨oe, vs, h1, h2, h3⟩, ⟨oe, h1⟩, ?_⟩
  rintro g1 g2 ⟨o, v, e1, e2, e3⟩ k
  exact ⟨o, v, k o e1, e2, e3⟩
theorem track {X : Cx} {pins : List (Addr × Obj)} {σ : L2.St} {H : Hp} {s : Shared} {a : Addr} {oe : Obj} {cls : Value} {vs : Array Value} (I : Inv X ((a, oe) :: pins) σ H s) (h0 : X.s_0.heap.get? a = none) (hz : Zc cls none oe) (hd : oe.data = Data.fields vs) (hne : ∀ p ∈ X.pn ++ pins, p.1 ≠ a) : Inv X pins σ (upd H a (ExT cls a)) s := by
  have hp := I.pin (a, oe) (List.mem_append_right _ List.mem_cons_self)
  obtain ⟨ha, hn, hl, hf, hc⟩ := hp
  have hn : H a = none := hn
  have ha : s.heap.get? a = some oe := ha
  refine ⟨I.ok, I.os, I.bare, ?_, I.loc, I.cell, ?_, ?_, ?_, ?_, I.len⟩
  · obtain ⟨k1, k2, k3, k4, k5, k6, k7⟩ := I.base
    refine ⟨k1, k2, fun b o e n hb => ?_, k4, fun b xs e => ?_, fun b o u e => ?_, fun b ps e => ?_⟩
    · rw [upd_ne (fun z => by rw [z, h0] at e; cases e)]
      exact k3 b o e n hb
    · exact upd_at (k5 b xs e) (ne_of_none (k5 b xs e) hn)
    · exact upd_at (k6 b o u e) (ne_of_none (k6 b o u e) hn)
    · obtain ⟨m, e2⟩ := k7 b ps e
      exact ⟨m, upd_at e2 (ne_of_none e2 hn)⟩
  · rw [upd_ne (Ne.symm hl)]
    exact I.free
  · intro x c e
    obtain ⟨v, o, ho, hd2⟩ := I.cell x c e
    have : c ≠ a := fun z => by
      rw [z, ha] at ho
      cases ho
      exact hc v hd2
    rw [upd_ne this]
    exact I.freeC x c e
  · intro p hp
    obtain ⟨q1, q2, q3, q4, q5⟩ := I.pin p (by
      rcases List.mem_append.mp hp with z | z
      · exact List.mem_append_left _ z
      · exact List.mem_append_right _ (List.mem_cons_of_mem _ z))
    exact ⟨q1, by rw [upd_ne (hne p hp)]; exact q2, q3, q4, q5⟩
  · intro b u e
    by_cases hb : b = a
    · subst hb
      rw [upd_same] at e
      cases e
      exact extT_ok ha hz hd
    · rw [upd_ne hb] at e
      exact ObjOk.stay (I.hok b u e) (fun _ _ _ z => z) (fun c z => upd_at z (ne_of_none z hn)) fun c xs z => upd_at z (ne_of_none z hn)
end My

namespace My
open PySem L2
def rIsT (K : PySem.W.Frag) (D : Addr) : List V → Hp → VK → Prop := fun xs H Q => ∃ (a : Addr) (c : V) (cv : Value) (b : Bool), xs = [.ref a, c] ∧ H a = some (ExT (.ref D) a) ∧ (∀ u, RelV c u → u = cv) ∧ PySem.W.kitOne K (.ref D) cv = some b ∧ Q (.bl b) H
/-- isinstance of a tracked error -/
theorem call_isT {X : Cx} {D : Addr} (C : ExcC X.K D) : CallR X (.builtin "isinstance") (rIsT X.K D) := by
  intro pins s σ H xs us Q I r h
  obtain ⟨a, c, cv, b, rfl, ha, hcv, e, q⟩ := h
  match us, r with
  | [u, u2], .cons rx (.cons rt .nil) =>
    have e1 : u = .ref a := rx
    have e2 := hcv u2 rt
    subst e1 e2
    obtain ⟨oe, vs, h1, h2, h3⟩ := (I.hok a _ ha).1
    have J : PySem.W.InstAt s.heap a oe D none := ⟨h1, h2.1, by unfold PySem.W.notCls; rw [h3], by rw [show oe.dict = none from h2.2]; trivial⟩
    exact PySem.W.kia_one (PySem.W.handS_kitx_exc C.hg C.hk C.hs C.hd C.ha C.hn C.ht C.hm) I.kIn J e (fun z => nomatch z) fun tk => ⟨.bl b, H, I.kept fun _ _ z => z, rfl, q⟩
theorem unsuite2 {X : Cx} {pins : List (Addr × Obj)} {σ : L2.St} {H : Hp} {s : Shared} {a : Addr} {q : Addr × Obj} {pn' : List (Addr × Obj)} (I : Inv (X.suite a (q :: (X.pn ++ pins))) pn' σ H s) (ok : X.Ok) : Inv X (q :: pins) σ H s :=
  ⟨ok, I.os, I.bare, I.base, I.loc, I.cell, I.free, I.freeC, fun p hp => I.pin p (by
    rcases List.mem_append.mp hp with z | z
    · exact List.mem_append_left _ (List.mem_cons_of_mem _ (List.mem_append_left _ z))
    · rcases List.mem_cons.mp z with z | z
      · rw [z]
        exact List.mem_append_left _ List.mem_cons_self
      · exact List.mem_append_left _ (List.mem_cons_of_mem _ (List.mem_append_right _ z))), I.hok, I.len⟩
def wT (cls : Value) (i : Nat) (ts : Addr → TS) (D : Ends) : WX := fun cls' d σ H => cls' = cls ∧ d = none ∧ ∀ a, H a = none → ts a { nx := fun σ' H' => H' a = none → D.nx (σ'.set i none) (upd H' a (ExT cls a)), rt := D.rt, bk := fun σ' H' => D.bk (σ'.set i none) H', ct := fun σ' H' => D.ct (σ'.set i none) H' } (σ.set i (some (.ref a))) H
/-- try: .. except x as n: ..; the error is tracked behind the suite -/
theorem ps_try_asT {X : Cx} {x n : Str} {c cls : Value} {i : Nat} {body suite : List Stmt} {b₀ : Stmt} {np pos pos' : Pos} {tb : WX → TS} {ts : Addr → TS} (hs : X.stack = X.env :: X.outer) (hf : X.env.frame = some X.env.locals) (hN : X.N.Nodup) (hi : X.N[i]? = some n) (hln : X.env.kindOf n = some NameKind.local) (hg : Gl X x) (hdb : (x == ("__debug__" : Str)) = false) (hmg : X.mg x = some c) (hex : X.ex = []) (hm : PySem.W.exmOne X.K cls c = some true)
    (hb : ∀ (W : WX) (pn : List (Addr × Obj)) (xe : Value → Shared → Prop), Takes (X.tr pn xe) W → PassesOwn (model X.prog X.w) X.A X.env xe → PSs (X.tr pn xe) body (tb W))
    (hsu : ∀ (a : Addr) (oe : Obj) (pn : List (Addr × Obj)), Zc cls none oe → (∃ vs, oe.data = Data.fields vs) → PSs (X.suite a ((a, oe) :: pn)) (b₀ :: suite) (ts a)) :
    PS X (.Try body [.ExceptHandler (some (.Name x np)) (some n) (b₀ :: suite) pos'] [] [] pos) (fun D σ H => tb (wT cls i ts D) D σ H) := by
  refine ⟨fun pins s σ H D I h => ?_⟩
  have ok := I.ok
  have hfr : X.A.frames = some (X.env :: X.outer) := by rw [ok.frames, hs]
  refine wpAny_Try_except (wpAny_mono ((hb (wT cls i ts D) (X.pn ++ pins) _ ?_ PassesOwn.looking).run [] s σ H D (Inv.toTry I _) h) ?_ fun e s1 he => he)
  · rintro u s' ⟨a, B, sI, pins', σ', H', cls', d, rfl, J', nb, up, sky, na, os, ag, rfl, rfl, hy⟩
    have J := Inv.ofTry J' ok
    have sky' : Sky B (X.env :: X.outer) a (Zc cls' none) X.env.locals s'.heap := by rw [← hs]; exact sky
    refine Sky.land Zc.steady hfr hf sky' fun h3 fl3 up3 => ?_
    have J3 := Inv.landed (s' := { s' with heap := h3 }) J nb fl3.1 (up.trans up3) os ag
    obtain ⟨oe3, vs3, he3, hz3, hd3⟩ := HandSPX.FlyingZ.there fl3
    have nfr : a ∉ List.filterMap (fun x => x.frame) (X.env :: X.outer) := fun hm' => by
      obtain ⟨_, o', e', hnf⟩ := Heap.FunFrames.mem fl3.2.2.1 hm'
      rw [he3] at e'
      cases e'
      exact hnf vs3 hd3
    have nL : a ≠ X.env.locals := fun z => nfr (List.mem_filterMap.mpr ⟨X.env, List.mem_cons_self, by rw [hf, z]⟩)
    have nF : a ∉ X.fs := fun hm' => by
      obtain ⟨e, he, q⟩ := List.mem_filterMap.mp hm'
      exact nfr (List.mem_filterMap.mpr ⟨e, List.mem_cons_of_mem _ he, q⟩)
    have S3 := Inv.suite J3 he3 hd3 na nL nF
    have aB : B.get? a = none := fl3.2.1
    have fra : a ∉ frs X.stack := by rw [hs]; exact nfr
    have aI : sI.heap.get? a = none := by
      cases e : sI.heap.get? a with
      | none => rfl
      | some o => rw [nb a o e fra] at aB; cases aB
    have h0 : X.s_0.heap.get? a = none := by
      cases e : X.s_0.heap.get? a with
      | none => rfl
      | some o =>
        by_cases hx : a ∈ X.ex
        · rw [hex] at hx; cases hx
        · obtain ⟨o', e'⟩ := J.base.there a o e hx
          rw [aI] at e'
          cases e'
    have hne : ∀ p ∈ X.pn ++ pins, p.1 ≠ a := fun p hp z => by
      have := (J.pin p hp).1
      rw [z, aI] at this
      cases this
    refine wpAny_handleBy_cons (codeAny_handlers_test ?_) (by intro z; cases z)
    refine ld_glob (X := X.suite a ((a, oe3) :: (X.pn ++ pins))) S3 hg hmg ?_ hdb
    have LT : PySem.W.Looks (model X.prog X.w) h3 (typeOf (.ref a)) cls' := fun A Q E s hk hq => by
      refine wpAny_typeOf_ref (hk a oe3 he3) ?_
      rw [hz3.1]
      exact hq
    refine PySem.W.Looks.here (PySem.W.exm_one S3.kIn LT hm) ?_
    refine codeAny_handlers_suite_as (HandSPX.lands_againZ fl3 fun h4 fl4 up4 => ?_)
    have J4 := Inv.landed (s' := { s' with heap := h4 }) J nb fl4.1 ((up.trans up3).trans up4) os ag
    obtain ⟨oe4, vs4, he4, hz4, hd4⟩ := HandSPX.FlyingZ.there fl4
    have S4 := Inv.suite J4 he4 hd4 na nL nF
    refine store_ok (X := X.suite a ((a, oe4) :: (X.pn ++ pins))) (v := .ref a) S4 hN hi (Or.inl hln) rfl (fun s5 S5 => ?_) (Or.inr hln)
    refine wpAny_mono ((hsu a oe4 (X.pn ++ pins) hz4 ⟨vs4, hd4⟩).run [] s5 _ H' _ S5 (hy a na)) ?_ fun e s he => he.elim
    intro f s6 hsp
    cases f with
    | next =>
      obtain ⟨σ6, H6, S6, hq⟩ := hsp
      have S6' := unsuite2 S6 ok
      refine gone_ok S6' hN hi hln fun s7 S7 => ⟨_, _, track S7 h0 hz4 hd4 hne, hq ?_⟩
      exact (S7.pin (a, oe4) (List.mem_append_right _ List.mem_cons_self)).2.1
    | brk =>
      obtain ⟨σ6, H6, S6, hq⟩ := hsp
      exact gone_ok (Inv.unsuite S6 ok) hN hi hln fun s7 S7 => ⟨_, _, S7, hq⟩
    | cont =>
      obtain ⟨σ6, H6, S6, hq⟩ := hsp
      exact gone_ok (Inv.unsuite S6 ok) hN hi hln fun s7 S7 => ⟨_, _, S7, hq⟩
    | ret v =>
      obtain ⟨v', σ6, H6, S6, r, hq⟩ := hsp
      exact gone_ok (Inv.unsuite S6 ok) hN hi hln fun s7 S7 => ⟨v', _, _, S7, r, hq⟩
  · intro f s1 hsp
    cases f with
    | next =>
      obtain ⟨σ', H', J', q⟩ := hsp
      exact wpAny_execs_nil ⟨σ', H', Inv.ofTry J' ok, q⟩
    | brk =>
      obtain ⟨σ', H', J', q⟩ := hsp
      exact ⟨σ', H', Inv.ofTry J' ok, q⟩
    | cont =>
      obtain ⟨σ', H', J', q⟩ := hsp
      exact ⟨σ', H', Inv.ofTry J' ok, q⟩
    | ret v =>
      obtain ⟨v', σ', H', J', r, q⟩ := hsp
      exact ⟨v', σ', H', Inv.ofTry J' ok, r, q⟩
end My

--T /opt/kit/linked/4bf7bf6c73b87d88f1ba1c555b42b7c50cec9cc5/law_k05_how_often_and_what_is_left/T.py
namespace My
open PySem L2
local macro_rules | `(tactic| walk_at "bx1") => `(tactic| first | with_reducible assumption | ((with_reducible refine' Bx.upd ?h1 ?h2); (case h1 => walk_at "bx1"); (case h2 => walk_at "ne")) | ((with_reducible refine' Bx.same ?h1 (by with_reducible assumption)); (case h1 => walk_at "bx1")))
local macro_rules | `(tactic| walk_at "bx") => `(tactic| (refine' Bx.mono ?h1 ?h2; (case h1 => walk_at "bx1"); (case h2 => omega)))
local macro_rules | `(tactic| walk_at "ne") => `(tactic| first | with_reducible assumption | exact Ne.symm (by with_reducible assumption) | ((with_reducible refine' ne_of_none ?h1 (by with_reducible assumption)); (case h1 => walk_at "hp")) | ((with_reducible refine' Ne.symm (ne_of_none ?h1 (by with_reducible assumption))); (case h1 => walk_at "hp")) | ((with_reducible refine' Bx.ne ?h1 (by with_reducible assumption)); (case h1 => walk_at "bx1")) | ((with_reducible refine' Ne.symm (Bx.ne ?h1 (by with_reducible assumption))); (case h1 => walk_at "bx1")))
local macro_rules | `(tactic| walk_at "hp") => `(tactic| first | with_reducible assumption | ((with_reducible refine' (upd_same.trans ?h1)); (case h1 => rfl)) | ((with_reducible refine' My.upd_at ?h1 ?h2); (case h1 => walk_at "hp"); (case h2 => walk_at "ne")) | ((with_reducible refine' My.Kp.at (by with_reducible assumption) ?h1 ?h2); (case h1 => walk_at "hp"); (case h2 => walk_at "ne")) | ((with_reducible refine' My.Same.at (by with_reducible assumption) ?h1); (case h1 => walk_at "hp")))
local macro_rules | `(tactic| walk_at "sq") => `(tactic| first | with_reducible assumption | exact SqL.of (by walk_at "hp") | exact SqT.of (by walk_at "hp") | ((with_reducible refine' My.SqT.upd ?h1 (by with_reducible assumption)); (case h1 => walk_at "sq")) | ((with_reducible refine' My.SqL.upd ?h1 (by with_reducible assumption)); (case h1 => walk_at "sq")) | ((with_reducible refine' Same.seq (by with_reducible assumption) ?h1); (case h1 => walk_at "sq")) | ((with_reducible refine' My.SqT.same ?h1 (by with_reducible assumption)); (case h1 => walk_at "sq")) | ((with_reducible refine' My.SqT.kp ?h1 (by with_reducible assumption) ?h2); (case h1 => walk_at "sq"); (case h2 => walk_at "bx1")) | ((with_reducible refine' My.SqL.kp ?h1 (by with_reducible assumption) ?h2); (case h1 => walk_at "sq"); (case h2 => walk_at "ne")))
local macro_rules | `(tactic| walk_at "sd") => `(tactic| first | assumption | omega | decide | (refine ⟨?_, ?_⟩ <;> (first | omega | decide)) | (refine Or.inl ⟨?_, ?_⟩ <;> (first | omega | decide)) | (refine Or.inr ⟨?_, ?_⟩ <;> (first | omega | decide)) | (refine ⟨?_, ?_, ?_⟩ <;> (first | omega | decide)))
local macro_rules | `(tactic| walk_at "ps") => `(tactic| first
  | with_reducible refine r_seq ?_ | with_reducible refine r_asg ?_ | with_reducible refine r_op ?_ | with_reducible refine r_cons ?_ | with_reducible refine r_nil ?_ | with_reducible refine r_c ?_
  | with_reducible refine' r_var rfl ?_ | with_reducible refine r_gname ?_ | with_reducible refine r_cb ?_ | with_reducible refine r_I0 ?_ | with_reducible refine r_ret ?_ | with_reducible refine r_ifS ?_ | with_reducible refine r_test ?_ | with_reducible refine r_B ?_
  | with_reducible refine r_next ?_ | with_reducible refine r_drop ?_ | with_reducible refine r_if ?_ | with_reducible refine r_un ?_ | with_reducible refine r_U ?_ | with_reducible refine r_gsub ?_ | with_reducible refine r_tup ?_ | with_reducible refine r_lst ?_ | with_reducible refine r_bm ?_
  | with_reducible refine r_cal ?_ | with_reducible refine r_not ?_ | with_reducible refine r_and ?_ | with_reducible refine r_or ?_ | with_reducible refine r_andV ?_ | with_reducible refine r_orV ?_ | with_reducible refine r_notV ?_
  | with_reducible refine r_abs ?_ | with_reducible refine r_intI ?_ | with_reducible refine r_intB ?_ | with_reducible refine r_m1 ?_ | with_reducible refine r_slice ?_ | with_reducible refine r_part ?_ | with_reducible refine r_nopart ?_
  | with_reducible refine r_gcons ?_ | with_reducible refine r_gnil ?_
  | with_reducible refine r_par ?_ | with_reducible refine r_par3 ?_ | with_reducible refine r_ex2 ?_ | with_reducible refine r_ex3 ?_
  | with_reducible refine r_isN ?_ | with_reducible refine r_notN ?_
  | with_reducible refine r_iZipA ?_
  | with_reducible refine r_dget ?_ | with_reducible refine r_dget2 ?_ | with_reducible refine r_iKeys ?_ | with_reducible refine r_dput ?_
  | with_reducible refine r_for ?_ | with_reducible refine r_lc ?_ | with_reducible refine r_iList ?_ | with_reducible refine r_iTup ?_ | with_reducible refine r_iRng1 ?_ | with_reducible refine r_iEnum ?_ | with_reducible refine r_orT ?_ | with_reducible refine r_yes ?_ | with_reducible refine r_ixSl ?_)
local macro_rules | `(tactic| walk_at "st") => `(tactic| first
  | walk_at "ps"
  | ((with_reducible refine' r_ixL ?h1 ?h2 ?_); (case h1 => walk_at "sq"); (case h2 => rfl))
  | ((with_reducible refine' r_setL ?h1 ?h2 ?_); (case h1 => walk_at "hp"); (case h2 => rfl))
  | ((with_reducible refine' r_I ?h1 ?_); (case h1 => walk_at "sd"))
  | ((with_reducible refine' r_eq ?h1 ?_); (case h1 => rfl)) | ((with_reducible refine' r_ne ?h1 ?_); (case h1 => rfl))
  | ((with_reducible refine' r_lenL ?h1 ?_); (case h1 => walk_at "sq")) | ((with_reducible refine' r_lenT ?h1 ?_); (case h1 => walk_at "sq")) | ((with_reducible refine' r_lenD ?h1 ?_); (case h1 => walk_at "hp"))
  | ((with_reducible refine' r_slL ?h1 ?_); (case h1 => walk_at "sq"); intro _ _)
  | ((with_reducible refine' r_append ?h1 ?h2 ?_); (case h1 => walk_at "hp"); (case h2 => exact szl (by first | omega | (simp; omega))))
  | ((with_reducible refine' r_gtup ?h1 ?h2 ?_); (case h1 => walk_at "sq"); (case h2 => rfl))
  | ((with_reducible refine' r_cat ?h1 ?h2 ?h3 ?_); (case h1 => walk_at "hp"); (case h2 => walk_at "hp"); (case h3 => exact sz (by first | omega | (simp; omega))); intro _ _)
  | ((with_reducible refine' r_wLst ?h1 ?_); (case h1 => walk_at "sq")) | ((with_reducible refine' r_wTup ?h1 ?_); (case h1 => walk_at "sq"))
  | ((with_reducible refine' r_wRng ?h1 ?_); (case h1 => walk_at "sd"))
  | ((with_reducible refine' r_truL ?h1 ?_); (case h1 => walk_at "sq"))
  | ((with_reducible refine' r_list (Or.inl ?h1) ?_); (case h1 => walk_at "sq"); intro _ _) | ((with_reducible refine' r_list (Or.inr ?h1) ?_); (case h1 => walk_at "sq"); intro _ _)
  | ((with_reducible refine' r_tupL ?h1 ?_); (case h1 => walk_at "sq"); intro _ _) | ((with_reducible refine' r_tupT ?h1 ?_); (case h1 => walk_at "sq"))
  | ((with_reducible refine' r_disp ?h1 ?_); (case h1 => exact Nat.le_of_ble_eq_true rfl); intro _ _)
  | ((with_reducible refine r_dnewK ?_); intro _ _)
  | ((with_reducible refine' r_tyL ?h1 ?_); (case h1 => walk_at "sq")) | with_reducible refine r_strV ?_
  | with_reducible refine r_exb ?_ | with_reducible refine r_exi ?_ | with_reducible refine r_exr ?_ | with_reducible refine r_exs ?_ | with_reducible refine r_exli ?_)
local macro_rules | `(tactic| walk_at "go") => `(tactic| repeat walk_at "st")
local macro_rules | `(tactic| walk_at "in") => `(tactic| dsimp only [noxK, cxK, L2.start, List.map_cons, List.map_nil, List.length_cons, List.length_nil, Nat.reduceAdd, Nat.reduceSub, List.replicate, List.cons_append, List.nil_append])

section
variable {P : Program} {w : World} {K : PySem.W.Frag} {mg : Str → Option Value} {base : Heap} {C CN : Addr}
/-- more facts of the error Nothing -/
structure TxE (K : PySem.W.Frag) (mg : Str → Option Value) (CN : Addr) : Prop where
  m : PySem.W.exmOne K (.ref CN) (.ref CN) = some true
  c : ExcC K CN
  z : PySem.W.kitOne K (.ref CN) (.type "ZeroDivisionError") = some true
  v : PySem.W.kitOne K (.ref CN) (.type "ValueError") = some false
  gz : mg "ZeroDivisionError" = none
  gv : mg "ValueError" = none
abbrev sRefused : Stmt := top 26
theorem scRefused : FnScope ["_law_one_so", "_law_two_so", "_law_sort", "error_so", "_law_caught", "_law_told"] ["_law_one_so", "_law_two_so", "_law_sort"] (defScope sRefused) := ⟨rfl, rfl, rfl, by decide +kernel, rfl, by decide +kernel, by decide +kernel⟩
theorem ok_refused {f : Addr} {fd : FuncData} (F : Fun K "_law_refused" "_law_refused" sRefused f fd) (T : Txt K mg) (L : TxL K C) (TN : TxN K mg CN) (TE : TxE K mg CN)
    (Of : OCal P w K mg base (CX P w) 3 C (PySem.dunder Operator.FloorDiv.info.2) ["self", "other"] (spLotFdivX C CN)) (Orm : OCal P w K mg base (CX P w) 5 C (PySem.dunder Operator.Mod.info.2) ["self", "other"] (spLotModX C CN)) : FnOk P w K mg base CX0 6 f fd ["_law_one_so", "_law_two_so", "_law_sort"] (spRefused C) := by
  refine F.ok scRefused (fun vs H Q E h => ?_) (fun cdv A outer s H vs Q E hr h => ?_)
  · obtain ⟨a, b, m, i, rfl, _⟩ := h
    rfl
  · obtain ⟨a, b, m, i, rfl, La, Lb, hi, q⟩ := h
    refine ⟨_, pss_cons (ps_asg (pe_tup (pa_cons pe_non (pa_cons pe_non pa_nil))) (pg_tup rfl (pgs_cons (pg_name (i := 4) scRefused.nd rfl (Or.inl rfl)) (pgs_cons (pg_name (i := 5) scRefused.nd rfl (Or.inl rfl)) pgs_nil))))
      (pss_cons (ps_try_asT (i := 3) (cls := .ref CN) rfl rfl scRefused.nd rfl rfl (by rfl) (by decide) TN.g rfl TE.m
        (fun W pn xe tk _ => pss_one (ps_set (i := 5) scRefused.nd rfl (Or.inl rfl) (pe_ifExp (pt_cmpR op_eq (pv 2) pe_int (nomark _)) (pe_bin Of L.oc (hr.mono (by decide)) (passTk tk) (pv 0) (pv 1)) (pe_bin Orm L.oc hr (passTk tk) (pv 0) (pv 1)))))
        (fun a oe pn hz hf => pss_one (ps_set (i := 4) scRefused.nd rfl (Or.inl rfl) (pv 3))))
      (pss_cons (ps_if (pt_cmpR o_isN (pv 4) pe_non (nomark _)) pss_never pss_nil)
      (pss_one (ps_ret (pe_tup (pa_cons (pe_callB (call_isT TE.c) (by rfl) T.isinstance (by decide +kernel) (pa_cons (pv 4) (pa_cons (pe_bltn (v := .ty "ZeroDivisionError") (by rfl) TE.gz (by decide +kernel) rfl) pa_nil))) (pa_cons (pe_callB (call_isT TE.c) (by rfl) T.isinstance (by decide +kernel) (pa_cons (pv 4) (pa_cons (pe_bltn (v := .ty "ValueError") (by rfl) TE.gv (by decide +kernel) rfl) pa_nil))) pa_nil))))))), ?_⟩
    walk_at "in"
    walk_at "go"
    rename_i pt hpt
    obtain ⟨⟨da, dxa, h1, h1'⟩, nda, mpa, mla⟩ := id La
    obtain ⟨⟨db, dxb, h2, h2'⟩, ndb, mpb, mlb⟩ := id Lb
    have s1 : Same H (upd H pt (.tup [V.non, V.non])) := fun c o e => upd_at e (ne_of_none e hpt)
    obtain ⟨H1, e1⟩ : ∃ H1, H1 = upd H pt (.tup [V.non, V.non]) := ⟨_, rfl⟩
    rw [← e1] at s1 ⊢
    clear e1 hpt
    refine ite_d (fun c => ?_) (fun c => ?_)
    all_goals
      refine r_opS ?_
      walk_at "go"
      refine ⟨a, b, dxa, dxb, _, _, rfl, rfl, s1 _ _ h1, s1 _ _ h2, a, b, m, rfl, La.same s1, Lb.same s1, rfl, rfl, fun e he => ?_⟩
      walk_at "go"
      intro _
      walk_at "go"
      refine ite_dF (by intro z; cases z) ?_
      walk_at "go"
      refine ⟨e, .ty "ZeroDivisionError", .type "ZeroDivisionError", true, rfl, upd_same, fun u hu => hu, TE.z, ?_⟩
      walk_at "go"
      refine ⟨e, .ty "ValueError", .type "ValueError", false, rfl, upd_same, fun u hu => hu, TE.v, ?_⟩
      walk_at "go"
      rename_i t ht
      have nte : t ≠ e := fun z => by rw [z, upd_same] at ht; cases ht
      have ht1 : H1 t = none := by rw [upd_ne nte] at ht; exact ht
      refine q t _ (s1.free ht1) upd_same fun c' o e' => ?_
      have e2 := s1 _ _ e'
      exact upd_at (upd_at e2 (ne_of_none e2 he)) (ne_of_none (upd_at e2 (ne_of_none e2 he)) ht)
end
end My

namespace My
open PySem L2

theorem kit_sub {K : PySem.W.Frag} {CN : Addr} {T : String} {b : Bool} (hm : PySem.W.kitMeta T = true) (h : PySem.W.subIn K (.ref CN) (.type T) = some b) : PySem.W.kitOne K (.ref CN) (.type T) = some b := by
  have e : ((Value.ref CN) == (Value.type T)) = false := by
    cases q : ((Value.ref CN) == (Value.type T)) with
    | false => rfl
    | true => exact absurd (eq_of_beq q) (by intro z; cases z)
  unfold PySem.W.kitOne
  rw [e]
  show (if PySem.W.kitMeta T = true then PySem.W.subIn K (.ref CN) (.type T) else none) = _
  rw [if_pos hm]
  exact h

theorem same0 {P : Program} {w : World} {K : PySem.W.Frag} {mg : Str → Option Value} {base : Heap} {f : Addr} {fd : FuncData} : FnOk P w K mg base CX0 0 f fd ["_law_got", "_law_due"] (spSame K 0) :=
  ⟨fun vs H Q E h => by obtain ⟨x, y, rfl, _⟩ := h; rfl, fun A outer s H args us vs Q E hr e b r h => by obtain ⟨x, y, _, hs, _⟩ := h; exact hs.elim⟩
theorem all_mk {l : PySem.W.OpenLaw} {w : World} {K : PySem.W.Frag} {h : Heap} {mg : Str → Option Value} {fa C CN tD t0 gM : Addr} (X : K.In h) (G : h.Ns mainGlobals mg) (hfa : mg "law" = some (.ref fa))
    {fm0 fm1 fm2 fm3 fm4 fm5 fm6 fm7 fm8 fm9 fm10 fm11 fm12 fm13 fm14 fc0 fc1 fc2 fc3 fc4 fc5 fc6 fc7 fc8 fin : Addr} {odm0 anm0 odm1 anm1 odm2 anm2 odm3 anm3 odm4 anm4 odm5 anm5 odm6 anm6 odm7 anm7 odm8 anm8 odm9 anm9 odm10 anm10 odm11 anm11 odm12 anm12 odm13 anm13 odm14 anm14 odc0 anc0 odc1 anc1 odc2 anc2 odc3 anc3 odc4 anc4 odc5 anc5 odc6 anc6 odc7 anc7 odc8 anc8 odin anin odT : Option Addr} {slm0 slm1 slm2 slm3 slm4 slm5 slm6 slm7 slm8 slm9 slm10 slm11 slm12 slm13 slm14 slc0 slc1 slc2 slc3 slc4 slc5 slc6 slc7 slc8 slin slT : Array (Option Value)} {ocm0 kVm0 dcm0 pmm0 cdm0 ctm0 ocm1 kVm1 dcm1 pmm1 cdm1 ctm1 ocm2 kVm2 dcm2 pmm2 cdm2 ctm2 ocm3 kVm3 dcm3 pmm3 cdm3 ctm3 ocm4 kVm4 dcm4 pmm4 cdm4 ctm4 ocm5 kVm5 dcm5 pmm5 cdm5 ctm5 ocm6 kVm6 dcm6 pmm6 cdm6 ctm6 ocm7 kVm7 dcm7 pmm7 cdm7 ctm7 ocm8 kVm8 dcm8 pmm8 cdm8 ctm8 ocm9 kVm9 dcm9 pmm9 cdm9 ctm9 ocm10 kVm10 dcm10 pmm10 cdm10 ctm10 ocm11 kVm11 dcm11 pmm11 cdm11 ctm11 ocm12 kVm12 dcm12 pmm12 cdm12 ctm12 ocm13 kVm13 dcm13 pmm13 cdm13 ctm13 ocm14 kVm14 dcm14 pmm14 cdm14 ctm14 occ0 kVc0 dcc0 pmc0 cdc0 ctc0 occ1 kVc1 dcc1 pmc1 cdc1 ctc1 occ2 kVc2 dcc2 pmc2 cdc2 ctc2 occ3 kVc3 dcc3 pmc3 cdc3 ctc3 occ4 kVc4 dcc4 pmc4 cdc4 ctc4 occ5 kVc5 dcc5 pmc5 cdc5 ctc5 occ6 kVc6 dcc6 pmc6 cdc6 ctc6 occ7 kVc7 dcc7 pmc7 cdc7 ctc7 occ8 kVc8 dcc8 pmc8 cdc8 ctc8 ocin kVin dcin pmin cdin ctin ocT : Value} {nT : Nat} {fo ro : Option Value}
    (am0 : PySem.W.nsIn K mainGlobals "_counted" = some (some (.ref fm0))) (lm0 : K.lookup fm0 = some ⟨ocm0, odm0, .func (PySem.W.fnOf "_counted" "_counted" (defArgs sOwnCounted) (defBody sOwnCounted) (defScope sOwnCounted) .none kVm0 dcm0 pmm0 anm0 cdm0 ctm0), slm0⟩) (cm0 : PySem.W.codeIn K cdm0 "_counted" = true) (km0 : PySem.W.keepIn K (.ref fm0) = true)
    (am1 : PySem.W.nsIn K mainGlobals "_law_take" = some (some (.ref fm1))) (lm1 : K.lookup fm1 = some ⟨ocm1, odm1, .func (PySem.W.fnOf "_law_take" "_law_take" (defArgs sTake) (defBody sTake) (defScope sTake) .none kVm1 dcm1 pmm1 anm1 cdm1 ctm1), slm1⟩) (cm1 : PySem.W.codeIn K cdm1 "_law_take" = true) (km1 : PySem.W.keepIn K (.ref fm1) = true)
    (am2 : PySem.W.nsIn K mainGlobals "_law_box" = some (some (.ref fm2))) (lm2 : K.lookup fm2 = some ⟨ocm2, odm2, .func (PySem.W.fnOf "_law_box" "_law_box" (defArgs sBox) (defBody sBox) (defScope sBox) .none kVm2 dcm2 pmm2 anm2 cdm2 ctm2), slm2⟩) (cm2 : PySem.W.codeIn K cdm2 "_law_box" = true) (km2 : PySem.W.keepIn K (.ref fm2) = true)
    (am3 : PySem.W.nsIn K mainGlobals "_law_cells" = some (some (.ref fm3))) (lm3 : K.lookup fm3 = some ⟨ocm3, odm3, .func (PySem.W.fnOf "_law_cells" "_law_cells" (defArgs sCells) (defBody sCells) (defScope sCells) .none kVm3 dcm3 pmm3 anm3 cdm3 ctm3), slm3⟩) (cm3 : PySem.W.codeIn K cdm3 "_law_cells" = true) (km3 : PySem.W.keepIn K (.ref fm3) = true)
    (am4 : PySem.W.nsIn K mainGlobals "_law_of" = some (some (.ref fm4))) (lm4 : K.lookup fm4 = some ⟨ocm4, odm4, .func (PySem.W.fnOf "_law_of" "_law_of" (defArgs sOf) (defBody sOf) (defScope sOf) .none kVm4 dcm4 pmm4 anm4 cdm4 ctm4), slm4⟩) (cm4 : PySem.W.codeIn K cdm4 "_law_of" = true) (km4 : PySem.W.keepIn K (.ref fm4) = true)
    (am5 : PySem.W.nsIn K mainGlobals "_law_mixed" = some (some (.ref fm5))) (lm5 : K.lookup fm5 = some ⟨ocm5, odm5, .func (PySem.W.fnOf "_law_mixed" "_law_mixed" (defArgs sMixed) (defBody sMixed) (defScope sMixed) .none kVm5 dcm5 pmm5 anm5 cdm5 ctm5), slm5⟩) (cm5 : PySem.W.codeIn K cdm5 "_law_mixed" = true) (km5 : PySem.W.keepIn K (.ref fm5) = true)
    (am6 : PySem.W.nsIn K mainGlobals "_law_names" = some (some (.ref fm6))) (lm6 : K.lookup fm6 = some ⟨ocm6, odm6, .func (PySem.W.fnOf "_law_names" "_law_names" (defArgs sNames) (defBody sNames) (defScope sNames) .none kVm6 dcm6 pmm6 anm6 cdm6 ctm6), slm6⟩) (cm6 : PySem.W.codeIn K cdm6 "_law_names" = true) (km6 : PySem.W.keepIn K (.ref fm6) = true)
    (am7 : PySem.W.nsIn K mainGlobals "_law_same" = some (some (.ref fm7))) (lm7 : K.lookup fm7 = some ⟨ocm7, odm7, .func (PySem.W.fnOf "_law_same" "_law_same" (defArgs sSame) (defBody sSame) (defScope sSame) .none kVm7 dcm7 pmm7 anm7 cdm7 ctm7), slm7⟩) (cm7 : PySem.W.codeIn K cdm7 "_law_same" = true) (km7 : PySem.W.keepIn K (.ref fm7) = true)
    (am8 : PySem.W.nsIn K mainGlobals "_law_rising" = some (some (.ref fm8))) (lm8 : K.lookup fm8 = some ⟨ocm8, odm8, .func (PySem.W.fnOf "_law_rising" "_law_rising" (defArgs sRising) (defBody sRising) (defScope sRising) .none kVm8 dcm8 pmm8 anm8 cdm8 ctm8), slm8⟩) (cm8 : PySem.W.codeIn K cdm8 "_law_rising" = true) (km8 : PySem.W.keepIn K (.ref fm8) = true)
    (am9 : PySem.W.nsIn K mainGlobals "_law_pairs" = some (some (.ref fm9))) (lm9 : K.lookup fm9 = some ⟨ocm9, odm9, .func (PySem.W.fnOf "_law_pairs" "_law_pairs" (defArgs sPairs) (defBody sPairs) (defScope sPairs) .none kVm9 dcm9 pmm9 anm9 cdm9 ctm9), slm9⟩) (cm9 : PySem.W.codeIn K cdm9 "_law_pairs" = true) (km9 : PySem.W.keepIn K (.ref fm9) = true)
    (am10 : PySem.W.nsIn K mainGlobals "_law_counted" = some (some (.ref fm10))) (lm10 : K.lookup fm10 = some ⟨ocm10, odm10, .func (PySem.W.fnOf "_law_counted" "_law_counted" (defArgs sCounted) (defBody sCounted) (defScope sCounted) .none kVm10 dcm10 pmm10 anm10 cdm10 ctm10), slm10⟩) (cm10 : PySem.W.codeIn K cdm10 "_law_counted" = true) (km10 : PySem.W.keepIn K (.ref fm10) = true)
    (am11 : PySem.W.nsIn K mainGlobals "_law_by_hand_right" = some (some (.ref fm11))) (lm11 : K.lookup fm11 = some ⟨ocm11, odm11, .func (PySem.W.fnOf "_law_by_hand_right" "_law_by_hand_right" (defArgs sByHandRight) (defBody sByHandRight) (defScope sByHandRight) .none kVm11 dcm11 pmm11 anm11 cdm11 ctm11), slm11⟩) (cm11 : PySem.W.codeIn K cdm11 "_law_by_hand_right" = true) (km11 : PySem.W.keepIn K (.ref fm11) = true)
    (am12 : PySem.W.nsIn K mainGlobals "_law_refused" = some (some (.ref fm12))) (lm12 : K.lookup fm12 = some ⟨ocm12, odm12, .func (PySem.W.fnOf "_law_refused" "_law_refused" (defArgs sRefused) (defBody sRefused) (defScope sRefused) .none kVm12 dcm12 pmm12 anm12 cdm12 ctm12), slm12⟩) (cm12 : PySem.W.codeIn K cdm12 "_law_refused" = true) (km12 : PySem.W.keepIn K (.ref fm12) = true)
    (am13 : PySem.W.nsIn K mainGlobals "_law_right" = some (some (.ref fm13))) (lm13 : K.lookup fm13 = some ⟨ocm13, odm13, .func (PySem.W.fnOf "_law_right" "_law_right" (defArgs sRight) (defBody sRight) (defScope sRight) .none kVm13 dcm13 pmm13 anm13 cdm13 ctm13), slm13⟩) (cm13 : PySem.W.codeIn K cdm13 "_law_right" = true) (km13 : PySem.W.keepIn K (.ref fm13) = true)
    (am14 : PySem.W.nsIn K mainGlobals "law" = some (some (.ref fm14))) (lm14 : K.lookup fm14 = some ⟨ocm14, odm14, .func (PySem.W.fnOf "law" "law" (defArgs sLaw) (defBody sLaw) (defScope sLaw) .none kVm14 dcm14 pmm14 anm14 cdm14 ctm14), slm14⟩) (cm14 : PySem.W.codeIn K cdm14 "law" = true) (km14 : PySem.W.keepIn K (.ref fm14) = true)
    (ac0 : PySem.W.findIn K (.ref C) "__getitem__" = some (some (.ref fc0))) (ic0 : PySem.W.isFn K (.ref fc0) = true) (nc0 : PySem.W.fnIn K fc0 = true) (lc0 : K.lookup fc0 = some ⟨occ0, odc0, .func (PySem.W.fnOf "__getitem__" "Lot.__getitem__" (defArgs sLotGetitem) (defBody sLotGetitem) (defScope sLotGetitem) .none kVc0 dcc0 pmc0 anc0 cdc0 ctc0), slc0⟩) (cc0 : PySem.W.codeIn K cdc0 "Lot.__getitem__" = true) (kc0 : PySem.W.keepIn K (.ref fc0) = true)
    (ac1 : PySem.W.findIn K (.ref C) "__len__" = some (some (.ref fc1))) (ic1 : PySem.W.isFn K (.ref fc1) = true) (nc1 : PySem.W.fnIn K fc1 = true) (lc1 : K.lookup fc1 = some ⟨occ1, odc1, .func (PySem.W.fnOf "__len__" "Lot.__len__" (defArgs sLotLen) (defBody sLotLen) (defScope sLotLen) .none kVc1 dcc1 pmc1 anc1 cdc1 ctc1), slc1⟩) (cc1 : PySem.W.codeIn K cdc1 "Lot.__len__" = true) (kc1 : PySem.W.keepIn K (.ref fc1) = true)
    (ac2 : PySem.W.findIn K (.ref C) "kinds" = some (some (.ref fc2))) (ic2 : PySem.W.isFn K (.ref fc2) = true) (nc2 : PySem.W.fnIn K fc2 = true) (lc2 : K.lookup fc2 = some ⟨occ2, odc2, .func (PySem.W.fnOf "kinds" "Lot.kinds" (defArgs sLotKinds) (defBody sLotKinds) (defScope sLotKinds) .none kVc2 dcc2 pmc2 anc2 cdc2 ctc2), slc2⟩) (cc2 : PySem.W.codeIn K cdc2 "Lot.kinds" = true) (kc2 : PySem.W.keepIn K (.ref fc2) = true)
    (ac3 : PySem.W.findIn K (.ref C) "pairs" = some (some (.ref fc3))) (ic3 : PySem.W.isFn K (.ref fc3) = true) (nc3 : PySem.W.fnIn K fc3 = true) (lc3 : K.lookup fc3 = some ⟨occ3, odc3, .func (PySem.W.fnOf "pairs" "Lot.pairs" (defArgs sLotPairs) (defBody sLotPairs) (defScope sLotPairs) .none kVc3 dcc3 pmc3 anc3 cdc3 ctc3), slc3⟩) (cc3 : PySem.W.codeIn K cdc3 "Lot.pairs" = true) (kc3 : PySem.W.keepIn K (.ref fc3) = true)
    (ac4 : PySem.W.findIn K (.ref C) "__sub__" = some (some (.ref fc4))) (ic4 : PySem.W.isFn K (.ref fc4) = true) (nc4 : PySem.W.fnIn K fc4 = true) (lc4 : K.lookup fc4 = some ⟨occ4, odc4, .func (PySem.W.fnOf "__sub__" "Lot.__sub__" (defArgs sLotSub) (defBody sLotSub) (defScope sLotSub) .none kVc4 dcc4 pmc4 anc4 cdc4 ctc4), slc4⟩) (cc4 : PySem.W.codeIn K cdc4 "Lot.__sub__" = true) (kc4 : PySem.W.keepIn K (.ref fc4) = true)
    (ac5 : PySem.W.findIn K (.ref C) "__mul__" = some (some (.ref fc5))) (ic5 : PySem.W.isFn K (.ref fc5) = true) (nc5 : PySem.W.fnIn K fc5 = true) (lc5 : K.lookup fc5 = some ⟨occ5, odc5, .func (PySem.W.fnOf "__mul__" "Lot.__mul__" (defArgs sLotMul) (defBody sLotMul) (defScope sLotMul) .none kVc5 dcc5 pmc5 anc5 cdc5 ctc5), slc5⟩) (cc5 : PySem.W.codeIn K cdc5 "Lot.__mul__" = true) (kc5 : PySem.W.keepIn K (.ref fc5) = true)
    (ac6 : PySem.W.findIn K (.ref C) "__floordiv__" = some (some (.ref fc6))) (ic6 : PySem.W.isFn K (.ref fc6) = true) (nc6 : PySem.W.fnIn K fc6 = true) (lc6 : K.lookup fc6 = some ⟨occ6, odc6, .func (PySem.W.fnOf "__floordiv__" "Lot.__floordiv__" (defArgs sLotFloordiv) (defBody sLotFloordiv) (defScope sLotFloordiv) .none kVc6 dcc6 pmc6 anc6 cdc6 ctc6), slc6⟩) (cc6 : PySem.W.codeIn K cdc6 "Lot.__floordiv__" = true) (kc6 : PySem.W.keepIn K (.ref fc6) = true)
    (ac7 : PySem.W.findIn K (.ref C) "__mod__" = some (some (.ref fc7))) (ic7 : PySem.W.isFn K (.ref fc7) = true) (nc7 : PySem.W.fnIn K fc7 = true) (lc7 : K.lookup fc7 = some ⟨occ7, odc7, .func (PySem.W.fnOf "__mod__" "Lot.__mod__" (defArgs sLotMod) (defBody sLotMod) (defScope sLotMod) .none kVc7 dcc7 pmc7 anc7 cdc7 ctc7), slc7⟩) (cc7 : PySem.W.codeIn K cdc7 "Lot.__mod__" = true) (kc7 : PySem.W.keepIn K (.ref fc7) = true)
    (ac8 : PySem.W.findIn K (.ref C) "__iadd__" = some (some (.ref fc8))) (ic8 : PySem.W.isFn K (.ref fc8) = true) (nc8 : PySem.W.fnIn K fc8 = true) (lc8 : K.lookup fc8 = some ⟨occ8, odc8, .func (PySem.W.fnOf "__iadd__" "Lot.__iadd__" (defArgs sLotIadd) (defBody sLotIadd) (defScope sLotIadd) .none kVc8 dcc8 pmc8 anc8 cdc8 ctc8), slc8⟩) (cc8 : PySem.W.codeIn K cdc8 "Lot.__iadd__" = true) (kc8 : PySem.W.keepIn K (.ref fc8) = true)
    (ain : PySem.W.findIn K (.ref C) "__init__" = some (some (.ref fin))) (iin : PySem.W.isFn K (.ref fin) = true) (lin : K.lookup fin = some ⟨ocin, odin, .func (PySem.W.fnOf "__init__" "Lot.__init__" (defArgs sLotInit) (defBody sLotInit) (defScope sLotInit) (.ref tD) kVin dcin pmin anin cdin ctin), slin⟩) (cin : PySem.W.codeIn K cdin "Lot.__init__" = true) (kin : PySem.W.keepIn K (.ref fin) = true)
    (lT : K.lookup tD = some ⟨ocT, odT, .seq #[.ref t0] nT, slT⟩)
    (aC : PySem.W.nsIn K mainGlobals "Lot" = some (some (.ref C)))
    (pg : PySem.W.plainGet K C Str.empty = true)
    (hd : PySem.W.hasDictIn K C = true)
    (po : PySem.W.plainOver K C = true)
    (sa : PySem.W.findIn K (.ref C) "__setattr__" = some (some (.builtin "object.__setattr__")))
    (mk : PySem.W.makesIn K C = true)
    (kc : PySem.W.keepIn K (.ref C) = true)
    (nM : PySem.W.findIn K (.ref C) "_many" = some none)
    (sf : PySem.W.selfFirst K C = true)
    (ns : PySem.W.noSeq K C = true)
    (si : PySem.W.subIn K (.type "int") (.ref C) = some false)
    (q1 : PySem.W.findIn K (.ref C) (dunderR Operator.Mult.info.2) = some (some (.ref gM)))
    (q3 : PySem.W.findIn K (.type "int") (PySem.dunder Operator.Mult.info.2) = some fo)
    (q4 : PySem.W.findIn K (.type "int") (dunderR Operator.Mult.info.2) = some ro)
    (aN : PySem.W.nsIn K mainGlobals "Nothing" = some (some (.ref CN)))
    (xN : PySem.W.excIn K CN [.type "ZeroDivisionError", .type "ArithmeticError", .type "Exception", .type "BaseException", .type "object"] "ZeroDivisionError.__new__" = true)
    (kN : PySem.W.keepIn K (.ref CN) = true)
    (bN : PySem.W.subIn K (.ref CN) (.type "BaseException") = some true)
    (tN : PySem.W.typeIn K (.ref CN) = some (.type "type"))
    (sN : PySem.W.subIn K (.ref CN) (.ref CN) = some true)
    (hg : PySem.W.findIn K (.ref CN) "__getattribute__" = some (some (.builtin "BaseException.__getattribute__")))
    (hk : PySem.W.findIn K (.ref CN) "__getattr__" = some none)
    (hD : PySem.W.hasDictIn K CN = true)
    (ha : PySem.W.findIn K (.ref CN) "__class__" = some (some (.builtin "object.__class__")))
    (hn : PySem.W.specialIn K (.builtin "object.__class__") "__get__" = some (some (.builtin "getset_descriptor.__get__")))
    (ht : PySem.W.takesIn K (.builtin "object.__class__") = some true)
    (hm : PySem.W.mroIn K CN (.type "object") = some true)
    (kz : PySem.W.subIn K (.ref CN) (.type "ZeroDivisionError") = some true)
    (kv : PySem.W.subIn K (.ref CN) (.type "ValueError") = some false)
    (z_int : PySem.W.nsIn K mainGlobals "int" = some none)
    (z_len : PySem.W.nsIn K mainGlobals "len" = some none)
    (z_abs : PySem.W.nsIn K mainGlobals "abs" = some none)
    (z_list : PySem.W.nsIn K mainGlobals "list" = some none)
    (z_tuple : PySem.W.nsIn K mainGlobals "tuple" = some none)
    (z_range : PySem.W.nsIn K mainGlobals "range" = some none)
    (z_enumerate : PySem.W.nsIn K mainGlobals "enumerate" = some none)
    (z_isinstance : PySem.W.nsIn K mainGlobals "isinstance" = some none)
    (z_all : PySem.W.nsIn K mainGlobals "all" = some none)
    (z_zip : PySem.W.nsIn K mainGlobals "zip" = some none)
    (z_dict : PySem.W.nsIn K mainGlobals "dict" = some none)
    (z_bool : PySem.W.nsIn K mainGlobals "bool" = some none)
    (z_str : PySem.W.nsIn K mainGlobals "str" = some none)
    (z_set : PySem.W.nsIn K mainGlobals "set" = some none)
    (z_sorted : PySem.W.nsIn K mainGlobals "sorted" = some none)
    (z_min : PySem.W.nsIn K mainGlobals "min" = some none)
    (z_ZeroDivisionError : PySem.W.nsIn K mainGlobals "ZeroDivisionError" = some none)
    (z_ValueError : PySem.W.nsIn K mainGlobals "ValueError" = some none) :
    ∃ fd : FuncData, (∀ (s : Shared) (v : Value), BindsTo s fd ⟨[v], []⟩ [("_law_script", v)]) ∧ ∀ base : Heap, K.In base → base.Ns mainGlobals mg → FnOk l.prog w K mg base CX0 8 fa fd ["_law_script"] (spLaw K) := by
  have e := hfa.symm.trans (PySem.W.mg_of X G am14)
  cases e
  have T : Txt K mg := ⟨PySem.W.mg_none_of X G z_int, PySem.W.mg_none_of X G z_len, PySem.W.mg_none_of X G z_abs, PySem.W.mg_none_of X G z_list, PySem.W.mg_none_of X G z_tuple, PySem.W.mg_none_of X G z_range, PySem.W.mg_none_of X G z_enumerate, PySem.W.mg_none_of X G z_isinstance, PySem.W.mg_none_of X G z_all, PySem.W.mg_none_of X G z_zip, PySem.W.mg_none_of X G z_dict, PySem.W.mg_none_of X G z_bool, PySem.W.mg_none_of X G z_str, PySem.W.mg_none_of X G z_set, PySem.W.mg_none_of X G z_sorted, PySem.W.mg_none_of X G z_min⟩
  have Lo : TxL K C := ⟨⟨⟨pg, hd, po, sa⟩, sf, ns, si⟩, nM⟩
  have TI : TxI K C := ⟨fo, ro, _, q1, Or.inr ⟨gM, rfl⟩, q3, q4⟩
  have TN : TxN K mg CN := ⟨PySem.W.mg_of X G aN, xN, kN, bN, tN⟩
  have TE : TxE K mg CN := ⟨PySem.W.exm_ref bN hD tN sN, ⟨hg, hk, bN, hD, ha, hn, ht, hm⟩, kit_sub (by decide +kernel) kz, kit_sub (by decide +kernel) kv, PySem.W.mg_none_of X G z_ZeroDivisionError, PySem.W.mg_none_of X G z_ValueError⟩
  have Fm0 := fun_mk (st := sOwnCounted) lm0 cm0 km0
  have bm0 := Fm0.binds (ps := ["pairs"]) fun _ _ _ _ _ _ us hl => match us, hl with | [_], _ => rfl
  have Fm1 := fun_mk (st := sTake) lm1 cm1 km1
  have bm1 := Fm1.binds (ps := ["_law_box_here", "_law_below"]) fun _ _ _ _ _ _ us hl => match us, hl with | [_, _], _ => rfl
  have Fm2 := fun_mk (st := sBox) lm2 cm2 km2
  have bm2 := Fm2.binds (ps := ["_law_script", "_law_k"]) fun _ _ _ _ _ _ us hl => match us, hl with | [_, _], _ => rfl
  have Fm3 := fun_mk (st := sCells) lm3 cm3 km3
  have bm3 := Fm3.binds (ps := ["_law_script", "_law_most_so"]) fun _ _ _ _ _ _ us hl => match us, hl with | [_, _], _ => rfl
  have Fm4 := fun_mk (st := sOf) lm4 cm4 km4
  have bm4 := Fm4.binds (ps := ["_law_box_here", "_law_some"]) fun _ _ _ _ _ _ us hl => match us, hl with | [_, _], _ => rfl
  have Fm5 := fun_mk (st := sMixed) lm5 cm5 km5
  have bm5 := Fm5.binds (ps := ["_law_box_here", "_law_rows_so"]) fun _ _ _ _ _ _ us hl => match us, hl with | [_, _], _ => rfl
  have Fm6 := fun_mk (st := sNames) lm6 cm6 km6
  have bm6 := Fm6.binds (ps := ["_law_box_here", "_law_some"]) fun _ _ _ _ _ _ us hl => match us, hl with | [_, _], _ => rfl
  have Fm7 := fun_mk (st := sSame) lm7 cm7 km7
  have bm7 := Fm7.binds (ps := ["_law_got", "_law_due"]) fun _ _ _ _ _ _ us hl => match us, hl with | [_, _], _ => rfl
  have Fm8 := fun_mk (st := sRising) lm8 cm8 km8
  have bm8 := Fm8.binds (ps := ["_law_rows_so"]) fun _ _ _ _ _ _ us hl => match us, hl with | [_], _ => rfl
  have Fm9 := fun_mk (st := sPairs) lm9 cm9 km9
  have bm9 := Fm9.binds (ps := ["_law_numbers_so"]) fun _ _ _ _ _ _ us hl => match us, hl with | [_], _ => rfl
  have Fm10 := fun_mk (st := sCounted) lm10 cm10 km10
  have bm10 := Fm10.binds (ps := ["_law_pairs_so"]) fun _ _ _ _ _ _ us hl => match us, hl with | [_], _ => rfl
  have Fm11 := fun_mk (st := sByHandRight) lm11 cm11 km11
  have bm11 := Fm11.binds (ps := ["_law_names_here"]) fun _ _ _ _ _ _ us hl => match us, hl with | [_], _ => rfl
  have Fm12 := fun_mk (st := sRefused) lm12 cm12 km12
  have bm12 := Fm12.binds (ps := ["_law_one_so", "_law_two_so", "_law_sort"]) fun _ _ _ _ _ _ us hl => match us, hl with | [_, _, _], _ => rfl
  have Fm13 := fun_mk (st := sRight) lm13 cm13 km13
  have bm13 := Fm13.binds (ps := ["_law_box_here"]) fun _ _ _ _ _ _ us hl => match us, hl with | [_], _ => rfl
  have Fm14 := fun_mk (st := sLaw) lm14 cm14 km14
  have bm14 := Fm14.binds (ps := ["_law_script"]) fun _ _ _ _ _ _ us hl => match us, hl with | [_], _ => rfl
  have Fc0 := fun_mk (st := sLotGetitem) lc0 cc0 kc0
  have bc0 := Fc0.binds (ps := ["self", "at"]) fun _ _ _ _ _ _ us hl => match us, hl with | [_, _], _ => rfl
  have Fc1 := fun_mk (st := sLotLen) lc1 cc1 kc1
  have bc1 := Fc1.binds (ps := ["self"]) fun _ _ _ _ _ _ us hl => match us, hl with | [_], _ => rfl
  have Fc2 := fun_mk (st := sLotKinds) lc2 cc2 kc2
  have bc2 := Fc2.binds (ps := ["self"]) fun _ _ _ _ _ _ us hl => match us, hl with | [_], _ => rfl
  have Fc3 := fun_mk (st := sLotPairs) lc3 cc3 kc3
  have bc3 := Fc3.binds (ps := ["self"]) fun _ _ _ _ _ _ us hl => match us, hl with | [_], _ => rfl
  have Fc4 := fun_mk (st := sLotSub) lc4 cc4 kc4
  have bc4 := Fc4.binds (ps := ["self", "other"]) fun _ _ _ _ _ _ us hl => match us, hl with | [_, _], _ => rfl
  have Fc5 := fun_mk (st := sLotMul) lc5 cc5 kc5
  have bc5 := Fc5.binds (ps := ["self", "other"]) fun _ _ _ _ _ _ us hl => match us, hl with | [_, _], _ => rfl
  have Fc6 := fun_mk (st := sLotFloordiv) lc6 cc6 kc6
  have bc6 := Fc6.binds (ps := ["self", "other"]) fun _ _ _ _ _ _ us hl => match us, hl with | [_, _], _ => rfl
  have Fc7 := fun_mk (st := sLotMod) lc7 cc7 kc7
  have bc7 := Fc7.binds (ps := ["self", "other"]) fun _ _ _ _ _ _ us hl => match us, hl with | [_, _], _ => rfl
  have Fc8 := fun_mk (st := sLotIadd) lc8 cc8 kc8
  have bc8 := Fc8.binds (ps := ["self", "other"]) fun _ _ _ _ _ _ us hl => match us, hl with | [_, _], _ => rfl
  have Fin_ : FunD K "__init__" "Lot.__init__" (defArgs sLotInit) (defBody sLotInit) (defScope sLotInit) [.ref t0] [] fin _ := ⟨⟨_, _, _, _, _, _, _, _, _, _, rfl, lin, cin, Or.inr ⟨by simp, tD, _, [.ref t0], nT, rfl, lT, rfl, .cons rfl .nil⟩, Or.inl rfl⟩, kin⟩
  have bin : Binds K _ ["self", "pairs"] [] := binds_full Fin_ (by simp) (fun T kV doc pm an cdv ct us hl => match us, hl with | [_, _], _ => ⟨_, rfl, fun its hi => match its, hi with | [_], _ => rfl⟩)
  refine ⟨PySem.W.fnOf "law" "law" (defArgs sLaw) (defBody sLaw) (defScope sLaw) .none kVm14 dcm14 pmm14 anm14 cdm14 ctm14, fun s v => .of_eq rfl, fun base _ _ => ?_⟩
  have Ct : Cal l.prog w K mg base CX0 1 "_law_take" ["_law_box_here", "_law_below"] spTake := ⟨_, _, ok_take Fm1 T, PySem.W.mg_of X G am1, km1, bm1⟩
  have Cb : Cal l.prog w K mg base CX0 1 "_law_box" ["_law_script", "_law_k"] (spBox K) := ⟨_, _, ok_box Fm2 T, PySem.W.mg_of X G am2, km2, bm2⟩
  have Ce : Cal l.prog w K mg base CX0 1 "_law_cells" ["_law_script", "_law_most_so"] (spCells K) := ⟨_, _, ok_cells Fm3 T, PySem.W.mg_of X G am3, km3, bm3⟩
  have Co : Cal l.prog w K mg base CX0 2 "_law_of" ["_law_box_here", "_law_some"] spOf := ⟨_, _, ok_of Fm4 T Ct, PySem.W.mg_of X G am4, km4, bm4⟩
  have Cm : Cal l.prog w K mg base CX0 2 "_law_mixed" ["_law_box_here", "_law_rows_so"] (spMixed K) := ⟨_, _, ok_mixed Fm5 T Ct, PySem.W.mg_of X G am5, km5, bm5⟩
  have Cn : Cal l.prog w K mg base CX0 3 "_law_names" ["_law_box_here", "_law_some"] spNames := ⟨_, _, ok_names Fm6 T Ct Co, PySem.W.mg_of X G am6, km6, bm6⟩
  have Cs0 : Cal l.prog w K mg base CX0 0 "_law_same" ["_law_got", "_law_due"] (spSame K 0) := ⟨_, _, same0, PySem.W.mg_of X G am7, km7, bm7⟩
  have Cs1 : Cal l.prog w K mg base CX0 1 "_law_same" ["_law_got", "_law_due"] (spSame K 1) := ⟨_, _, ok_same Fm7 T 0 Cs0, PySem.W.mg_of X G am7, km7, bm7⟩
  have Cs2 : Cal l.prog w K mg base CX0 2 "_law_same" ["_law_got", "_law_due"] (spSame K 2) := ⟨_, _, ok_same Fm7 T 1 Cs1, PySem.W.mg_of X G am7, km7, bm7⟩
  have Cs3 : Cal l.prog w K mg base CX0 3 "_law_same" ["_law_got", "_law_due"] (spSame K 3) := ⟨_, _, ok_same Fm7 T 2 Cs2, PySem.W.mg_of X G am7, km7, bm7⟩
  have Cs4 : Cal l.prog w K mg base CX0 4 "_law_same" ["_law_got", "_law_due"] (spSame K 4) := ⟨_, _, ok_same Fm7 T 3 Cs3, PySem.W.mg_of X G am7, km7, bm7⟩
  have Cri : Cal l.prog w K mg base CX0 1 "_law_rising" ["_law_rows_so"] (spRising K) := ⟨_, _, ok_rising Fm8 T, PySem.W.mg_of X G am8, km8, bm8⟩
  have Cp : Cal l.prog w K mg base CX0 2 "_law_pairs" ["_law_numbers_so"] spPairs := ⟨_, _, ok_pairs Fm9 T Cri, PySem.W.mg_of X G am9, km9, bm9⟩
  have Cc : Cal l.prog w K mg base CX0 1 "_law_counted" ["_law_pairs_so"] (spCounted K) := ⟨_, _, ok_counted Fm10 T, PySem.W.mg_of X G am10, km10, bm10⟩
  have Cw : Cal l.prog w K mg base CX0 1 "_counted" ["pairs"] (spOwnCounted K) := ⟨_, _, ok_ownCounted Fm0 T, PySem.W.mg_of X G am0, km0, bm0⟩
  have CwT : Cal l.prog w K mg base CX0 1 "_counted" ["pairs"] (spOwnCountedT K) := ⟨_, _, ok_ownCountedT Fm0 T, PySem.W.mg_of X G am0, km0, bm0⟩
  have Og : OCal l.prog w K mg base CX0 1 C "__getitem__" ["self", "at"] (spLotGetitem C) := ⟨_, _, ok_lotGetitem Fc0 Lo, ac0, ic0, kc0, nc0, bc0⟩
  have Ol : OCal l.prog w K mg base CX0 1 C "__len__" ["self"] (spLotLen C) := ⟨_, _, ok_lotLen Fc1 T Lo, ac1, ic1, kc1, nc1, bc1⟩
  have Ok : OCal l.prog w K mg base CX0 1 C "kinds" ["self"] (spLotKinds C) := ⟨_, _, ok_lotKinds Fc2 T Lo, ac2, ic2, kc2, nc2, bc2⟩
  have Op : OCal l.prog w K mg base CX0 2 C "pairs" ["self"] (spLotPairs C) := ⟨_, _, ok_lotPairs Fc3 T Lo Ok, ac3, ic3, kc3, nc3, bc3⟩
  have Om : OMk l.prog w K mg base CX0 2 C "Lot" ["self", "pairs"] (spLotInit K C) := ⟨_, _, ⟨mk, ain, iin, kc⟩, ok_lotInit Fin_ Lo Cw, PySem.W.mg_of X G aC, bin⟩
  have Ou : OCal l.prog w K mg base CX0 4 C (PySem.dunder Operator.Mult.info.2) ["self", "other"] (spLotMul C) := ⟨_, _, ok_lotMul Fc5 Lo Op Om, ac5, ic5, kc5, nc5, bc5⟩
  have Os : OCal l.prog w K mg base CX0 4 C (PySem.dunder Operator.Sub.info.2) ["self", "other"] (spLotSub C) := ⟨_, _, ok_lotSub Fc4 Lo Op Og Om, ac4, ic4, kc4, nc4, bc4⟩
  have Of : OCal l.prog w K mg base CX0 3 C (PySem.dunder Operator.FloorDiv.info.2) ["self", "other"] (spLotFdiv C) := ⟨_, _, ok_lotFdiv Fc6 T Lo Op Og Ol, ac6, ic6, kc6, nc6, bc6⟩
  have Orm : OCal l.prog w K mg base CX0 5 C (PySem.dunder Operator.Mod.info.2) ["self", "other"] (spLotMod C) := ⟨_, _, ok_lotMod Fc7 Lo TI Of Ou Os, ac7, ic7, kc7, nc7, bc7⟩
  have Oi : OCal l.prog w K mg base CX0 3 C (dunderI Operator.Add.info.2) ["self", "other"] (spLotIadd C) := ⟨_, _, ok_lotIadd Fc8 Lo Op CwT, ac8, ic8, kc8, nc8, bc8⟩
  have OfX : OCal l.prog w K mg base (CX l.prog w) 3 C (PySem.dunder Operator.FloorDiv.info.2) ["self", "other"] (spLotFdivX C CN) := ⟨_, _, ok_lotFdivX Fc6 T Lo TN Ol, ac6, ic6, kc6, nc6, bc6⟩
  have OmX : OCal l.prog w K mg base (CX l.prog w) 5 C (PySem.dunder Operator.Mod.info.2) ["self", "other"] (spLotModX C CN) := ⟨_, _, ok_lotModX Fc7 Lo TI OfX Ou Os, ac7, ic7, kc7, nc7, bc7⟩
  have Ch : Cal l.prog w K mg base CX0 6 "_law_by_hand_right" ["_law_names_here"] (spByHand K) := ⟨_, _, ok_byHand Fm11 T Lo TI Om Og Of Orm Ou Cs2, PySem.W.mg_of X G am11, km11, bm11⟩
  have Cre : Cal l.prog w K mg base CX0 6 "_law_refused" ["_law_one_so", "_law_two_so", "_law_sort"] (spRefused C) := ⟨_, _, ok_refused Fm12 T Lo TN TE OfX OmX, PySem.W.mg_of X G am12, km12, bm12⟩
  have Cr : Cal l.prog w K mg base CX0 7 "_law_right" ["_law_box_here"] spRight := ⟨_, _, ok_right Fm13 T Lo Om Op Of Orm Oi Cs4 Cn Co Ct Cc Cm Cp Ch Cre, PySem.W.mg_of X G am13, km13, bm13⟩
  exact ok_law Fm14 T Ce Cb Cr
theorem walk {l : PySem.W.OpenLaw} {q : Program} {loose : List Str} {XP : (Str → Option Value) → Heap → Prop} {YP : World → Heap → Prop} {d : DefRec} {K : Params → PySem.W.Frag} (hn : l.most = some 63) (hdf : d.params.defaults = [])
    (hY : ∀ (w : World) (h : Heap), YP w h → (K w.params).In h)
    (F : ∀ (w : World) (mg : Str → Option Value) (fa : Addr) (h : Heap), (K w.params).In h → h.Ns mainGlobals mg → mg d.name = some (.ref fa) →
      ∃ fd : FuncData, (∀ (s : Shared) (u : Value), BindsTo s fd ⟨[u], []⟩ [("_law_script", u)]) ∧ ∀ base : Heap, (K w.params).In base → base.Ns mainGlobals mg → FnOk l.prog w (K w.params) mg base CX0 8 fa fd ["_law_script"] (spLaw (K w.params))) :
    PySem.W.WalkO q loose XP YP l.row.toRowW d [] (fun f vs => PySem.call f vs) :=
  L2.walk_of (n := 63) (k := 8) (x := "_law_script") (CX := fun _ => CX0) (sp := fun w => spLaw (K w.params)) hn (by decide) hdf ⟨rfl, by decide, by decide⟩ hY F (fun _ _ a ns hl _ hS => ⟨a, ns, rfl, hS, hl, fun _ => rfl⟩) fun _ _ _ _ _ z => z
end My
open PySem PySem.W PyProof.Rows
set_option maxHeartbeats 0 in
theorem PySem.Challenge.cw_onceopened_k05_how_often_and_what_is_lef_holds : PySem.Challenge.rw_onceopened_k05_how_often_and_what_is_lef.Holds := by
  w_on; o_law; k_head; (case hw => w_witness2)
  k_fill
  refine My.walk (l := PySem.Challenge.rw_onceopened_k05_how_often_and_what_is_lef) rfl rfl (fun w h Y => PySem.W.kIn_of Y) ?F
  case F =>
    intro w mg fa h KX G hmg
    refine' My.all_mk KX G hmg ?am0 ?lm0 ?cm0 ?km0 ?am1 ?lm1 ?cm1 ?km1 ?am2 ?lm2 ?cm2 ?km2 ?am3 ?lm3 ?cm3 ?km3 ?am4 ?lm4 ?cm4 ?km4 ?am5 ?lm5 ?cm5 ?km5 ?am6 ?lm6 ?cm6 ?km6 ?am7 ?lm7 ?cm7 ?km7 ?am8 ?lm8 ?cm8 ?km8 ?am9 ?lm9 ?cm9 ?km9 ?am10 ?lm10 ?cm10 ?km10 ?am11 ?lm11 ?cm11 ?km11 ?am12 ?lm12 ?cm12 ?km12 ?am13 ?lm13 ?cm13 ?km13 ?am14 ?lm14 ?cm14 ?km14 ?ac0 ?ic0 ?nc0 ?lc0 ?cc0 ?kc0 ?ac1 ?ic1 ?nc1 ?lc1 ?cc1 ?kc1 ?ac2 ?ic2 ?nc2 ?lc2 ?cc2 ?kc2 ?ac3 ?ic3 ?nc3 ?lc3 ?cc3 ?kc3 ?ac4 ?ic4 ?nc4 ?lc4 ?cc4 ?kc4 ?ac5 ?ic5 ?nc5 ?lc5 ?cc5 ?kc5 ?ac6 ?ic6 ?nc6 ?lc6 ?cc6 ?kc6 ?ac7 ?ic7 ?nc7 ?lc7 ?cc7 ?kc7 ?ac8 ?ic8 ?nc8 ?lc8 ?cc8 ?kc8 ?ain ?iin ?lin ?cin ?kin ?lT ?aC ?pg ?hd ?po ?sa ?mk ?kc ?nM ?sf ?ns ?si ?q1 ?q3 ?q4 ?aN ?xN ?kN ?bN ?tN ?sN ?hg ?hk ?hD ?ha ?hn ?ht ?hm ?kz ?kv ?z_int ?z_len ?z_abs ?z_list ?z_tuple ?z_range ?z_enumerate ?z_isinstance ?z_all ?z_zip ?z_dict ?z_bool ?z_str ?z_set ?z_sorted ?z_min ?z_ZeroDivisionError ?z_ValueError
    (case aC => k_is)
    (case aN => k_is)
    (case am0 => k_is)
    (case lm0 => k_is)
    (case cm0 => k_is)
    (case km0 => k_is)
    (case am1 => k_is)
    (case lm1 => k_is)
    (case cm1 => k_is)
    (case km1 => k_is)
    (case am2 => k_is)
    (case lm2 => k_is)
    (case cm2 => k_is)
    (case km2 => k_is)
    (case am3 => k_is)
    (case lm3 => k_is)
    (case cm3 => k_is)
    (case km3 => k_is)
    (case am4 => k_is)
    (case lm4 => k_is)
    (case cm4 => k_is)
    (case km4 => k_is)
    (case am5 => k_is)
    (case lm5 => k_is)
    (case cm5 => k_is)
    (case km5 => k_is)
    (case am6 => k_is)
    (case lm6 => k_is)
    (case cm6 => k_is)
    (case km6 => k_is)
    (case am7 => k_is)
    (case lm7 => k_is)
    (case cm7 => k_is)
    (case km7 => k_is)
    (case am8 => k_is)
    (case lm8 => k_is)
    (case cm8 => k_is)
    (case km8 => k_is)
    (case am9 => k_is)
    (case lm9 => k_is)
    (case cm9 => k_is)
    (case km9 => k_is)
    (case am10 => k_is)
    (case lm10 => k_is)
    (case cm10 => k_is)
    (case km10 => k_is)
    (case am11 => k_is)
    (case lm11 => k_is)
    (case cm11 => k_is)
    (case km11 => k_is)
    (case am12 => k_is)
    (case lm12 => k_is)
    (case cm12 => k_is)
    (case km12 => k_is)
    (case am13 => k_is)
    (case lm13 => k_is)
    (case cm13 => k_is)
    (case km13 => k_is)
    (case am14 => k_is)
    (case lm14 => k_is)
    (case cm14 => k_is)
    (case km14 => k_is)
    (case ac0 => k_is)
    (case ic0 => k_is)
    (case nc0 => k_is)
    (case lc0 => k_is)
    (case cc0 => k_is)
    (case kc0 => k_is)
    (case ac1 => k_is)
    (case ic1 => k_is)
    (case nc1 => k_is)
    (case lc1 => k_is)
    (case cc1 => k_is)
    (case kc1 => k_is)
    (case ac2 => k_is)
    (case ic2 => k_is)
    (case nc2 => k_is)
    (case lc2 => k_is)
    (case cc2 => k_is)
    (case kc2 => k_is)
    (case ac3 => k_is)
    (case ic3 => k_is)
    (case nc3 => k_is)
    (case lc3 => k_is)
    (case cc3 => k_is)
    (case kc3 => k_is)
    (case ac4 => k_is)
    (case ic4 => k_is)
    (case nc4 => k_is)
    (case lc4 => k_is)
    (case cc4 => k_is)
    (case kc4 => k_is)
    (case ac5 => k_is)
    (case ic5 => k_is)
    (case nc5 => k_is)
    (case lc5 => k_is)
    (case cc5 => k_is)
    (case kc5 => k_is)
    (case ac6 => k_is)
    (case ic6 => k_is)
    (case nc6 => k_is)
    (case lc6 => k_is)
    (case cc6 => k_is)
    (case kc6 => k_is)
    (case ac7 => k_is)
    (case ic7 => k_is)
    (case nc7 => k_is)
    (case lc7 => k_is)
    (case cc7 => k_is)
    (case kc7 => k_is)
    (case ac8 => k_is)
    (case ic8 => k_is)
    (case nc8 => k_is)
    (case lc8 => k_is)
    (case cc8 => k_is)
    (case kc8 => k_is)
    (case ain => k_is)
    (case iin => k_is)
    (case lin => k_is)
    (case cin => k_is)
    (case kin => k_is)
    (case lT => k_is)
    (case pg => k_is)
    (case hd => k_is)
    (case po => k_is)
    (case sa => k_is)
    (case mk => k_is)
    (case kc => k_is)
    (case nM => k_is)
    (case sf => k_is)
    (case ns => k_is)
    (case si => k_is)
    (case q1 => k_is)
    (case q3 => k_is)
    (case q4 => k_is)
    (case xN => k_exc)
    (case kN => k_is)
    (case bN => k_is)
    (case tN => k_is)
    (case sN => k_is)
    (case hg => k_is)
    (case hk => k_is)
    (case hD => k_is)
    (case ha => k_is)
    (case hn => k_is)
    (case ht => k_is)
    (case hm => k_is)
    (case kz => k_is)
    (case kv => k_is)
    (case z_int => k_is)
    (case z_len => k_is)
    (case z_abs => k_is)
    (case z_list => k_is)
    (case z_tuple => k_is)
    (case z_range => k_is)
    (case z_enumerate => k_is)
    (case z_isinstance => k_is)
    (case z_all => k_is)
    (case z_zip => k_is)
    (case z_dict => k_is)
    (case z_bool => k_is)
    (case z_str => k_is)
    (case z_set => k_is)
    (case z_sorted => k_is)
    (case z_min => k_is)
    (case z_ZeroDivisionError => k_is)
    (case z_ValueError => k_is)

