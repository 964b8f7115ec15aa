import PyProof.Rows.All
import Wide.All
import OpenK.AllK
import Wide.FinOn
import HandS.ForMost
import HandS.Wide
import HandS.Flow
import HandS.Style
import HandS.Walk
import HandS.Zip
import HandS.IsInst
import HandS.Codes
import HandS.TupLe
import KE.KOpsOwn
import HandS.ForExc
import HandS.OwnEq
import HandS.TupSets
import HandS.SetKeys
import HandS.Strs
import HandS.TupAny
import HandS.Defaults
import HandS.Exc
import HandS.ExcOwn
import HandS.ExcBuiltin
import HandS.RaiseMore
import HandS.Small
import HandS.List
import HandS.ExcIs
import HandS.ExcValue
import HandS.ExcInit
import HandS.ExcField
import HandS.MakeKw
import HandS.MakeKwOnly
import PyProof.Rows.RuleN_abs
import PyProof.AutoIntG2
import PyProof.TwoTypes
import HandS.DictComp
import KE.KTryMore
import HandS.Property
import HandS.Text
import HandS.ClsMeth
import HandS.Evl
import PySem.Challenge.RW_onceopened_k02_lots_as_texts
import PyProof.FitsInt
import HandS.FStr
import HandS.TryMany
set_option Elab.async false
set_option maxRecDepth 100000
set_option maxHeartbeats 4000000
/-! the readings, one step each -/
namespace My
open PySem L2
section
variable {σ : L2.St} {H H' H'' : Hp} {D : Ends} {ta tb te : TE} {tr : TA} {ts tu : TS} {tt tt2 : TT} {i j : Nat} {a b p : Addr} {x y v : V} {Q : VK} {K : PySem.W.Frag}
theorem r_seq (h : ts { D with nx := tu D } σ H) : tSeq ts tu D σ H := h
theorem r_next (h : D.nx σ H) : tNext D σ H := h
theorem r_asg {g : TG} (h : te σ H fun x H1 => g x σ H1 D.nx) : tAsg te g D σ H := h
theorem r_gname {q : L2.St → Hp → Prop} (h : q (σ.set i (some x)) H) : gName i x σ H q := h
theorem r_drop (h : te σ H fun _ H1 => D.nx σ H1) : tDrop te D σ H := h
theorem r_ret (h : te σ H D.rt) : tRet te D σ H := h
theorem r_retN (h : D.rt .non H) : tRetN D σ H := h
theorem r_ifS (h : tt σ H fun b H1 => if b = true then ts D σ H1 else tu D σ H1) : tIfS tt ts tu D σ H := h
theorem r_if (h : tt σ H fun b H1 => if b = true then ta σ H1 Q else tb σ H1 Q) : tIf tt ta tb σ H Q := h
theorem r_op {r : R2} (h : ta σ H fun x H1 => tb σ H1 fun y H2 => r x y H2 Q) : tOp r ta tb σ H Q := h
theorem r_un {r : V → Hp → VK → Prop} (h : ta σ H fun x H1 => r x H1 Q) : tUn r ta σ H Q := h
theorem r_cb {r : List V → Hp → VK → Prop} (h : tr σ H fun vs H1 => r vs H1 Q) : tCB r tr σ H Q := h
theorem r_cons {q : List V → Hp → Prop} (h : ta σ H fun x H1 => tr σ H1 fun xs H2 => q (x :: xs) H2) : tCons ta tr σ H q := h
theorem r_nil {q : List V → Hp → Prop} (h : q [] H) : tNil σ H q := h
theorem r_var (e : σ[i]? = some (some v)) (h : Q v H) : tVar i σ H Q := ⟨v, e, h⟩
theorem r_c (h : Q v H) : tC v σ H Q := h
theorem r_test {q : Bool → Hp → Prop} (h : te σ H fun x H' => ∃ k, x = .bl k ∧ q k H') : tTest te σ H q := h
theorem r_B {q : Bool → Hp → Prop} (h : te σ H fun x H' => ∃ k, x = .bl k ∧ q k H') : tB te σ H q := h
theorem r_not {q : Bool → Hp → Prop} (h : tt σ H fun c H' => q (!c) H') : tNot tt σ H q := h
theorem r_and {q : Bool → Hp → Prop} (h : tt σ H fun c H1 => if c = true then tt2 σ H1 q else q false H1) : tAnd tt tt2 σ H q := h
theorem r_or {q : Bool → Hp → Prop} (h : tt σ H fun c H1 => if c = true then q true H1 else tt2 σ H1 q) : tOr tt tt2 σ H q := h
theorem r_andV (h : ta σ H fun x H1 => ∃ c, x = .bl c ∧ if c = true then tb σ H1 Q else Q (.bl false) H1) : tAndV ta tb σ H Q := h
theorem r_orV (h : ta σ H fun x H1 => ∃ c, x = .bl c ∧ if c = true then Q (.bl true) H1 else tb σ H1 Q) : tOrV ta tb σ H Q := h
theorem r_notV (h : ta σ H fun x H1 => ∃ c, x = .bl c ∧ Q (.bl (!c)) H1) : tNotV ta σ H Q := h
theorem r_I0 {g : Int → Int → V} {i j : Int} (h : Q (g i j) H) : rI0 g (.int i) (.int j) H Q := ⟨i, j, rfl, rfl, h⟩
theorem r_I {C : Int → Int → Prop} {g : Int → Int → V} {i j : Int} (c : C i j) (h : Q (g i j) H) : rI C g (.int i) (.int j) H Q := ⟨i, j, rfl, rfl, c, h⟩
theorem r_U {g : Int → V} {i : Int} (h : Q (g i) H) : rU g (.int i) H Q := ⟨i, rfl, h⟩
theorem r_ixL {xs : List V} {i : Int} (hp : SqL K H p xs) (hi : atI xs i = some v) (h : Q v H) : rIxL K (.ref p) (.int i) H Q := ⟨p, xs, i, v, rfl, rfl, hp, hi, h⟩
theorem r_ixT {xs : List V} {i : Int} (hp : SqT K H p xs) (hi : atI xs i = some v) (h : Q v H) : rIxT K (.ref p) (.int i) H Q := ⟨p, xs, i, v, rfl, rfl, hp, hi, h⟩
theorem r_ixS {z : Str} {i : Int} {c : Nat} (hz : z.length ≤ sizeLine) (hi : atI z.cps.toList i = some c) (h : Q (.str ⟨#[c]⟩) H) : rIxS (.str z) (.int i) H Q := ⟨z, i, c, rfl, rfl, hz, hi, h⟩
theorem r_gsub {to ti : TE} {t : TSet} {q : L2.St → Hp → Prop} (h : to σ H fun o H1 => ti σ H1 fun i H2 => t o i v H2 fun H3 => q σ H3) : gSub to ti t v σ H q := h
theorem r_setL {xs : List V} {k : Int} {q : Hp → Prop} (hp : H p = some (.lst xs)) (hj : ixN xs.length k = some j) (h : q (upd H p (.lst (xs.set j v)))) : rSetL (.ref p) (.int k) v H q := ⟨p, xs, k, j, rfl, rfl, hp, hj, h⟩
theorem r_eq (hs : scal x y = true) (h : Q (.bl (decide (x = y))) H) : rEq x y H Q := ⟨hs, h⟩
theorem r_ne (hs : scal x y = true) (h : Q (.bl (!decide (x = y))) H) : rNe x y H Q := ⟨hs, h⟩
theorem r_tup (h : tr σ H fun xs H1 => xs.length ≤ sizeLine ∧ ∀ p, H1 p = none → Q (.ref p) (upd H1 p (.tup xs))) : tTup tr σ H Q := h
theorem r_lst (h : tr σ H fun xs H1 => xs.length ≤ sizeLine ∧ ∀ p, H1 p = none → Q (.ref p) (upd H1 p (.lst xs))) : tLst tr σ H Q := h
theorem r_bm {T : String} {r : V → List V → Hp → VK → Prop} (h : ta σ H fun x H1 => tyV K T x H1 ∧ tr σ H1 fun xs H2 => r x xs H2 Q) : tBM K T r ta tr σ H Q := h
/-! tests whose outcome is open -/
theorem ite_d {c A B : Prop} [Decidable c] (h1 : c → A) (h2 : ¬ c → B) : if decide c = true then A else B := ite2 (fun h => h1 (of_decide_eq_true h)) (fun h => h2 (fun z => h (decide_eq_true z)))
theorem ite_nd {c A B : Prop} [Decidable c] (h1 : ¬ c → A) (h2 : c → B) : if (!decide c) = true then A else B := ite2 (fun h => h1 (fun z => by rw [decide_eq_true z] at h; exact Bool.noConfusion h)) (fun h => h2 (by
  by_cases z : c
  · exact z
  · rw [decide_eq_false z] at h; exact absurd rfl h))
theorem ite_dT {c A B : Prop} [Decidable c] (hc : c) (h : A) : if decide c = true then A else B := by rw [decide_eq_true hc]; exact iteT h
theorem ite_dF {c A B : Prop} [Decidable c] (hc : ¬ c) (h : B) : if decide c = true then A else B := by rw [decide_eq_false hc]; exact iteF h
theorem ite_ndT {c A B : Prop} [Decidable c] (hc : ¬ c) (h : A) : if (!decide c) = true then A else B := by rw [decide_eq_false hc]; exact iteT h
theorem ite_ndF {c A B : Prop} [Decidable c] (hc : c) (h : B) : if (!decide c) = true then A else B := by rw [decide_eq_true hc]; exact iteF h
end
/-! frames -/
/-- all that was tracked but what stands at a is as it was -/
def Kp (a : Addr) (H H' : Hp) : Prop := ∀ c o, H c = some o → c ≠ a → H' c = some o
theorem Kp.refl (a : Addr) (H : Hp) : Kp a H H := fun _ _ h _ => h
theorem Kp.trans {a : Addr} {H H1 H2 : Hp} (h : Kp a H H1) (h' : Kp a H1 H2) : Kp a H H2 := fun c o e n => h' c o (h c o e n) n
theorem Kp.at {a c : Addr} {H H' : Hp} {o : HO} (h : Kp a H H') (e : H c = some o) (n : c ≠ a) : H' c = some o := h c o e n
theorem Kp.of {a : Addr} {H H' : Hp} (h : Same H H') : Kp a H H' := fun c o e _ => h c o e
theorem Same.at {c : Addr} {H H' : Hp} {o : HO} (h : Same H H') (e : H c = some o) : H' c = some o := h c o e
theorem upd_at {H : Hp} {a b : Addr} {o u : HO} (e : H b = some u) (n : b ≠ a) : upd H a o b = some u := (upd_ne n).trans e
theorem Kp.free {a p : Addr} {H H' : Hp} (h : Kp a H H') (e : H' p = none) (n : p ≠ a) : H p = none := by
  cases q : H p with
  | none => rfl
  | some o => rw [h p o q n] at e; cases e
end My
namespace My
open PySem L2
theorem sz {n : Nat} (h : n ≤ 100000) : n ≤ sizeLine := Nat.le_trans h (by decide)
theorem szl {n : Nat} (h : n < 100000) : n < sizeLine := Nat.lt_of_lt_of_le h (by decide)
/-! calls -/
structure Cal (P : Program) (w : World) (K : PySem.W.Frag) (mg : Str → Option Value) (base : Heap) (CX : CXT) (k : Nat) (x : Str) (ps : List Str) (sp : Sp) : Prop where
  ex : ∃ (f : Addr) (fd : FuncData), FnOk P w K mg base CX k f fd ps sp ∧ mg x = some (.ref f) ∧ PySem.W.keepIn K (.ref f) = true ∧ Binds K fd ps []
def tCal (sp : Sp) (E : XK) (t : TA) : TE := fun σ H Q => t σ H fun vs H1 => sp vs H1 Q E
section
variable {X : Cx} {CX : CXT} {k : Nat} {ps : List Str} {sp : Sp} {E : XK} {x : Str} {p pos : Pos} {e : Expr} {es : List Expr} {t : TA}
theorem pe_cal (C : Cal X.prog X.w X.K X.mg X.base CX k x ps sp) (hr : Room k X.A) (hx : Passes CX X E) (ha : PA X (e :: es) t) (hg : Gl X x := by rfl)
    (hdb : (x == ("__debug__" : Str)) = false := by decide) (he : starEach (e :: es) X.env = (false, eval e X.env) :: starEach es X.env := by rfl) (hpl : (backTo pos (starEach es X.env)).any (·.1) = false := by rfl) :
    PE X (.Call (.Name x p) (e :: es) [] pos) (tCal sp E t) := by
  obtain ⟨f, fd, F, hm, hk, hb⟩ := C.ex
  have h := pe_call (p := p) (pos := pos) F hr hg hm hk hb (dvs := []) .nil hx ha hdb he hpl
  refine ⟨fun pins s σ H Q I q => h.run pins s σ H Q I ?_⟩
  have e : (fun vs H1 => sp (vs ++ []) H1 Q E) = fun vs H1 => sp vs H1 Q E := by
    funext vs H1
    rw [List.append_nil]
  show t σ H (fun vs H1 => sp (vs ++ []) H1 Q E)
  rw [e]
  exact q
theorem r_cal {σ : L2.St} {H : Hp} {Q : VK} (h : t σ H fun vs H1 => sp vs H1 Q E) : tCal sp E t σ H Q := h
end
end My
namespace My
open PySem L2
/-! built-ins with a name of their own -/
def rLenL (K : PySem.W.Frag) : List V → Hp → VK → Prop := fun vs H Q => ∃ a xs, vs = [V.ref a] ∧ SqL K H a xs ∧ Q (.int xs.length) H
def rLenT (K : PySem.W.Frag) : List V → Hp → VK → Prop := fun vs H Q => ∃ a xs, vs = [V.ref a] ∧ SqT K H a xs ∧ Q (.int xs.length) H
def rLenS : List V → Hp → VK → Prop := fun vs H Q => ∃ z : Str, vs = [V.str z] ∧ z.length ≤ sizeLine ∧ Q (.int z.length) H
def rLenD : List V → Hp → VK → Prop := fun vs H Q => ∃ a kvs, vs = [V.ref a] ∧ H a = some (.dK kvs) ∧ Q (.int kvs.length) H
def rAbs : List V → Hp → VK → Prop := fun vs H Q => ∃ i, vs = [V.int i] ∧ Q (.int (if i < 0 then -i else i)) H
def rInt : List V → Hp → VK → Prop := fun xs H Q => (∃ i, xs = [V.int i] ∧ Q (.int i) H) ∨ ∃ k, xs = [V.bl k] ∧ Q (.int (if k then 1 else 0)) H
def rList (K : PySem.W.Frag) : List V → Hp → VK → Prop := fun xs H Q => ∃ p ys, xs = [.ref p] ∧ (SqL K H p ys ∨ SqT K H p ys) ∧ ∀ l, H l = none → Q (.ref l) (upd H l (.lst ys))
def rTupL (K : PySem.W.Frag) : List V → Hp → VK → Prop := fun xs H Q => ∃ p ys, xs = [.ref p] ∧ SqL K H p ys ∧ ∀ l, H l = none → Q (.ref l) (upd H l (.tup ys))
def rTupT (K : PySem.W.Frag) : List V → Hp → VK → Prop := fun xs H Q => ∃ p ys, xs = [.ref p] ∧ SqT K H p ys ∧ Q (.ref p) H
def rJoin (K : PySem.W.Frag) : V → List V → Hp → VK → Prop := fun x xs H Q => ∃ a p, ∃ ys : List Str, x = .str a ∧ xs = [.ref p] ∧ (SqL K H p (ys.map V.str) ∨ SqT K H p (ys.map V.str)) ∧ (ys.map (·.length)).sum + ys.length * a.length ≤ 16777216 ∧ Q (.str (Txt.join a ys)) H
def rCatS : R2 := fun x y H Q => ∃ i j, x = .str i ∧ y = .str j ∧ i.length + j.length ≤ sizeLine ∧ Q (.str (i ++ j)) H
section
variable {X : Cx}
theorem c_lenL : CallR X (.builtin "len") (rLenL X.K) := fun pins s σ H xs us Q I r ⟨a, ys, e, h, q⟩ => call_len pins s σ H xs us Q I r ⟨.ref a, ys.length, e, Or.inl ⟨ys, h, rfl⟩, q⟩
theorem c_lenT : CallR X (.builtin "len") (rLenT X.K) := fun pins s σ H xs us Q I r ⟨a, ys, e, h, q⟩ => call_len pins s σ H xs us Q I r ⟨.ref a, ys.length, e, Or.inr ⟨ys, h, rfl⟩, q⟩
theorem c_lenS : CallR X (.builtin "len") rLenS := fun pins s σ H xs us Q I r ⟨z, e, h, q⟩ => call_len pins s σ H xs us Q I r ⟨.str z, z.length, e, ⟨h, rfl⟩, q⟩
theorem c_lenD : CallR X (.builtin "len") rLenD := call_lenD
theorem c_abs : CallR X (.builtin "abs") rAbs := call_abs
theorem c_int : CallR X (.type "int") rInt := call_int1
theorem c_list : CallR X (.type "list") (rList X.K) := call_list_of
theorem c_tupL : CallR X (.type "tuple") (rTupL X.K) := fun pins s σ H xs us Q I r ⟨a, ys, e, h, q⟩ => call_tuple_of pins s σ H xs us Q I r ⟨a, ys, e, Or.inl ⟨h, q⟩⟩
theorem c_tupT : CallR X (.type "tuple") (rTupT X.K) := call_tupleT
theorem m_join : MtR X "str.join" (rJoin X.K) := mt_join
theorem o_catS : OpR X (binaryOp .Add) rCatS := op_add_str
theorem pe_joinR {o e : Expr} {to te : TE} {apos pos : Pos} (ho : PE X o to) (he : PE X e te) (hs : starEach [e] X.env = [(false, eval e X.env)] := by rfl) (hbase : attributeBase o "join" X.env (eval o X.env) = eval o X.env := by rfl) (hline : (apos.endLine == pos.line) = true := by rfl) :
    PE X (.Call (.Attribute o "join" apos) [e] [] pos) (tM1 (rJoin X.K) to te) := pe_m1 PySem.F.slot_str_join PySem.F.type_str_join m_join ho he hs hbase hline
end
section
variable {σ : L2.St} {H : Hp} {Q : VK} {K : PySem.W.Frag} {a p : Addr} {xs : List V} {x y v : V} {D : Ends}
theorem r_lenL (h : SqL K H a xs) (q : Q (.int xs.length) H) : rLenL K [.ref a] H Q := ⟨a, xs, rfl, h, q⟩
theorem r_lenT (h : SqT K H a xs) (q : Q (.int xs.length) H) : rLenT K [.ref a] H Q := ⟨a, xs, rfl, h, q⟩
theorem r_lenS {z : Str} (h : z.length ≤ sizeLine) (q : Q (.int z.length) H) : rLenS [.str z] H Q := ⟨z, rfl, h, q⟩
theorem r_lenD {kvs : List (Key × V)} (h : H a = some (.dK kvs)) (q : Q (.int kvs.length) H) : rLenD [.ref a] H Q := ⟨a, kvs, rfl, h, q⟩
theorem r_abs {i : Int} (q : Q (.int (if i < 0 then -i else i)) H) : rAbs [.int i] H Q := ⟨i, rfl, q⟩
theorem r_intI {i : Int} (q : Q (.int i) H) : rInt [.int i] H Q := .inl ⟨i, rfl, q⟩
theorem r_intB {k : Bool} (q : Q (.int (if k then 1 else 0)) H) : rInt [.bl k] H Q := .inr ⟨k, rfl, q⟩
theorem r_list (h : SqL K H p xs ∨ SqT K H p xs) (q : ∀ l, H l = none → Q (.ref l) (upd H l (.lst xs))) : rList K [.ref p] H Q := ⟨p, xs, rfl, h, q⟩
theorem r_tupL (h : SqL K H p xs) (q : ∀ l, H l = none → Q (.ref l) (upd H l (.tup xs))) : rTupL K [.ref p] H Q := ⟨p, xs, rfl, h, q⟩
theorem r_tupT (h : SqT K H p xs) (q : Q (.ref p) H) : rTupT K [.ref p] H Q := ⟨p, xs, rfl, h, q⟩
theorem r_join {b : Str} {ys : List Str} (h : SqL K H p (ys.map V.str)) (l : (ys.map (·.length)).sum + ys.length * b.length ≤ 16777216) (q : Q (.str (Txt.join b ys)) H) : rJoin K (.str b) [.ref p] H Q := ⟨b, p, ys, rfl, rfl, .inl h, l, q⟩
theorem r_m1 {r : V → List V → Hp → VK → Prop} {to te : TE} (h : to σ H fun x H1 => (∃ a, x = .str a) ∧ te σ H1 fun y H2 => r x [y] H2 Q) : tM1 r to te σ H Q := h
theorem r_catS {i j : Str} (l : i.length + j.length ≤ sizeLine) (q : Q (.str (i ++ j)) H) : rCatS (.str i) (.str j) H Q := ⟨i, j, rfl, rfl, l, q⟩
theorem r_cat {l b : Addr} {xs zs : List V} (h1 : H l = some (.lst xs)) (h2 : H b = some (.lst zs)) (h3 : xs.length + zs.length ≤ sizeLine) (q : ∀ p, H p = none → Q (.ref p) (upd H p (.lst (xs ++ zs)))) : rCat (.ref l) (.ref b) H Q := ⟨l, b, xs, zs, rfl, rfl, h1, h2, h3, q⟩
theorem r_slL {lo hi : Option Int} (h : SqL K H a xs) (q : ∀ p, H p = none → Q (.ref p) (upd H p (.lst (cutV xs lo hi)))) : rSlL K (.ref a) lo hi H Q := ⟨a, xs, rfl, h, q⟩
theorem r_slS {z : Str} {lo hi : Option Int} (h : z.length ≤ sizeLine) (q : Q (.str (cutS z lo hi)) H) : rSlS (.str z) lo hi H Q := ⟨z, rfl, h, q⟩
theorem r_append {l : Addr} (h : H l = some (.lst xs)) (hl : xs.length < sizeLine) (q : Q .non (upd H l (.lst (xs ++ [y])))) : rAppend (.ref l) [y] H Q := ⟨l, xs, y, rfl, rfl, h, hl, q⟩
theorem r_all {bs : List Bool} (h : SqL K H a (bs.map V.bl)) (q : Q (.bl (bs.all id)) H) : rAll K [.ref a] H Q := ⟨a, bs, rfl, h, q⟩
theorem r_sum {ns : List Int} (h : SqL K H a (ns.map V.int)) (q : Q (.int ns.sum) H) : rSum K [.ref a] H Q := ⟨a, ns, rfl, h, q⟩
theorem r_dnewK (q : ∀ p, H p = none → Q (.ref p) (upd H p (.dK []))) : tDNewK σ H Q := q
theorem r_bmL {r : V → List V → Hp → VK → Prop} {ta : TE} {tr : TA} (h : ta σ H fun x H1 => (∃ a xs, x = .ref a ∧ H1 a = some (.lst xs)) ∧ tr σ H1 fun xs H2 => r x xs H2 Q) (mono : ∀ f g : VK, (∀ x H, f x H → g x H) → ta σ H f → ta σ H g) : tBM K "list" r ta tr σ H Q :=
  mono _ _ (fun x H1 ⟨⟨a, ys, e, ha⟩, z⟩ => ⟨by subst e; exact .inl ⟨rfl, _, SqL.of ha⟩, z⟩) h
end
/-! the box -/
/-- the box: three ints, its draws' count with the room b below a line -/
def Bx (H : Hp) (a : Addr) (b : Nat) : Prop := ∃ x y z : Int, H a = some (.lst [.int x, .int y, .int z]) ∧ 0 ≤ x ∧ 0 ≤ y ∧ y < 3000000000000000000 ∧ 0 ≤ z ∧ z + b ≤ 1000000000
theorem Bx.mono {H : Hp} {a : Addr} {b c : Nat} (h : Bx H a b) (l : c ≤ b) : Bx H a c := by
  obtain ⟨x, y, z, h1, h2, h3, h4, h5, h6⟩ := h
  exact ⟨x, y, z, h1, h2, h3, h4, h5, by omega⟩
theorem Bx.hp {H : Hp} {a : Addr} {b : Nat} (h : Bx H a b) : ∃ o, H a = some o := let ⟨_, _, _, h1, _⟩ := h; ⟨_, h1⟩
theorem Bx.ne {H : Hp} {a p : Addr} {b : Nat} (h : Bx H a b) (hp : H p = none) : a ≠ p := let ⟨_, e⟩ := h.hp; ne_of_none e hp
theorem Bx.upd {H : Hp} {a p : Addr} {b : Nat} {o : HO} (h : Bx H a b) (hp : a ≠ p) : Bx (L2.upd H p o) a b := by
  obtain ⟨x, y, z, h1, h2⟩ := h
  exact ⟨x, y, z, upd_at h1 hp, h2⟩
theorem Bx.same {H H' : Hp} {a : Addr} {b : Nat} (h : Bx H a b) (e : Same H H') : Bx H' a b := by
  obtain ⟨x, y, z, h1, h2⟩ := h
  exact ⟨x, y, z, e _ _ h1, h2⟩
end My
namespace My
open PySem L2
section
variable {σ : L2.St} {H : Hp} {Q : VK} {q : Option Int → Hp → Prop} {te : TE} {tl th : TO}
theorem r_slice {r : V → Option Int → Option Int → Hp → VK → Prop} (h : te σ H fun x H1 => tl σ H1 fun l H2 => th σ H2 fun u H3 => r x l u H3 Q) : tSl r te tl th σ H Q := h
theorem r_part (h : te σ H fun x H1 => ∃ i, x = .int i ∧ q (some i) H1) : tPart te σ H q := h
theorem r_nopart (h : q none H) : tNoPart σ H q := h
end
end My
namespace My
open PySem L2
theorem r_mulL {H : Hp} {Q : VK} {i j : Int} {g : Int → Int → V} (h : -(2 ^ 64) < i ∧ i < 2 ^ 64) (q : Q (g i j) H) : rI CMul g (.int i) (.int j) H Q := r_I (C := CMul) (Or.inl h) q
theorem r_mulR {H : Hp} {Q : VK} {i j : Int} {g : Int → Int → V} (h : -(2 ^ 64) < j ∧ j < 2 ^ 64) (q : Q (g i j) H) : rI CMul g (.int i) (.int j) H Q := r_I (C := CMul) (Or.inr h) q
end My
namespace My
open PySem L2
theorem noxK {CX : CXT} {P : Program} {w : World} {K : PySem.W.Frag} {mg : Str → Option Value} {base : Heap} {N : List Str} {qual : Str} {scope : Scope} {f : Addr} {cd : Value} {A : Around} {outer : List Env} {s : Shared} {H : Hp} {E : XK} : (cxOf CX P w K mg base N qual scope f cd A outer s H E).nox.K = K := rfl
theorem cxK {CX : CXT} {P : Program} {w : World} {K : PySem.W.Frag} {mg : Str → Option Value} {base : Heap} {N : List Str} {qual : Str} {scope : Scope} {f : Addr} {cd : Value} {A : Around} {outer : List Env} {s : Shared} {H : Hp} {E : XK} : (cxOf CX P w K mg base N qual scope f cd A outer s H E).K = K := rfl
end My
namespace My
open PySem L2
section
variable {σ : L2.St} {H : Hp} {Q : VK} {K : PySem.W.Frag} {R : It → Hp → Prop} {tl : TE} {ta : TA} {D : Ends} {wi : TI} {g : TG} {tb : TS} {a : Addr} {xs : List V} {j : Int}
theorem r_for (h : wi σ H fun J H1 => ∃ W : Nat → Nat → L2.St → Hp → Prop, (∃ m, W 0 m σ H1) ∧ ∀ i m σ H, W i m σ H →
  (J.stop i H ∧ D.nx σ H) ∨ (J.go i H ∧ ∃ N : L2.St → Hp → Prop, (∀ σ' H', N σ' H' → ∃ m', m' < m ∧ W (i + 1) m' σ' H') ∧ ∀ x H', J.yld i H x H' → g x σ H' fun σ2 H2 => tb { D with nx := N, ct := N, bk := D.nx } σ2 H2)) : tFor wi g tb D σ H := h
theorem r_lc {tt : TT} {te : TE} {vs : List Nat} (h : wi σ H fun J H1 => ∀ D, H1 D = none → ∃ W : Nat → Nat → Hp → Prop, (∃ m, W 0 m (upd H1 D (.lst []))) ∧ ∀ i m H, W i m H →
  (J.stop i H ∧ Q (.ref D) H) ∨ (J.go i H ∧ ∃ Nx : Hp → Prop, (∀ H', Nx H' → ∃ m', m' < m ∧ W (i + 1) m' H') ∧ ∀ x H', J.yld i H x H' → g x (wipe σ vs) H' fun σ2 H2 => wipe σ2 vs = wipe σ vs ∧ tt σ2 H2 fun b H3 =>
    if b = true then te σ2 H3 fun y H4 => ∃ acc, H4 D = some (.lst acc) ∧ acc.length < sizeLine ∧ Nx (upd H4 D (.lst (acc ++ [y]))) else Nx H3)) : tLc wi g tt te vs σ H Q := h
theorem r_iList (h : tl σ H fun x H1 => ∃ a, x = .ref a ∧ (∃ xs, SqL K H1 a xs) ∧ R (Itl K a) H1) : iList K tl σ H R := h
theorem r_iTup (h : tl σ H fun x H1 => ∃ a, x = .ref a ∧ (∃ xs, SqT K H1 a xs) ∧ R (Itt K a) H1) : iTup K tl σ H R := h
theorem r_wLst {B : Prop} (h : SqL K H a xs) (q : B) : (∃ xs, SqL K H a xs) ∧ B := ⟨⟨xs, h⟩, q⟩
theorem r_wTup {B : Prop} (h : SqT K H a xs) (q : B) : (∃ xs, SqT K H a xs) ∧ B := ⟨⟨xs, h⟩, q⟩
theorem r_iRng1 (h : ta σ H fun vs H1 => ∃ j : Int, vs = [.int j] ∧ -(2 ^ 62) ≤ j ∧ j < 2 ^ 62 ∧ R (Itr 0 j.toNat) H1) : iRng1 ta σ H R := h
theorem r_wRng {B : Prop} (h1 : -(2 ^ 62) ≤ j ∧ j < 2 ^ 62) (q : B) : -(2 ^ 62) ≤ j ∧ j < 2 ^ 62 ∧ B := ⟨h1.1, h1.2, q⟩
theorem r_iEnum (h : ta σ H fun vs H1 => ∃ a xs, vs = [.ref a] ∧ SqL K H1 a xs ∧ R (Ite K a) H1) : iEnum K ta σ H R := h
theorem r_orT {ta tb : TE} (h : ta σ H fun x H1 => ∃ k, TruV K x H1 k ∧ if k = true then Q x H1 else tb σ H1 Q) : tOrT K ta tb σ H Q := h
theorem r_truL {P : Bool → Prop} (h : SqL K H a xs) (q : P (!xs.isEmpty)) : ∃ k, TruV K (.ref a) H k ∧ P k := ⟨_, Or.inl ⟨xs, h, rfl⟩, q⟩
/-! slices -/
theorem cutV_to (xs : List V) (k : Nat) : cutV xs none (some (k : Int)) = xs.take k := by
  unfold cutV
  rw [HT.sIx_none, HT.sIx_nat, List.drop_zero, Nat.sub_zero]
  by_cases h : k ≤ xs.length
  · rw [Nat.min_eq_left h]
  · rw [Nat.min_eq_right (by omega), List.take_length, List.take_of_length_le (by omega)]
theorem cutV_from (xs : List V) (k : Nat) : cutV xs (some (k : Int)) none = xs.drop k := by
  unfold cutV
  rw [HT.sIx_none, HT.sIx_nat]
  by_cases h : k ≤ xs.length
  · rw [Nat.min_eq_left h, List.take_of_length_le (by rw [List.length_drop]; omega)]
  · rw [Nat.min_eq_right (by omega), List.drop_length, List.drop_of_length_le (by omega), List.take_nil]
theorem cutV_mid (xs : List V) (i j : Nat) : cutV xs (some (i : Int)) (some (j : Int)) = (xs.drop i).take (j - i) := by
  unfold cutV
  rw [HT.sIx_nat, HT.sIx_nat]
  by_cases h : i ≤ xs.length
  · rw [Nat.min_eq_left h]
    by_cases h2 : j ≤ xs.length
    · rw [Nat.min_eq_left h2]
    · rw [Nat.min_eq_right (by omega), List.take_of_length_le (i := j - i) (by rw [List.length_drop]; omega), List.take_of_length_le (by rw [List.length_drop]; omega)]
  · rw [Nat.min_eq_right (a := i) (by omega), List.drop_length, List.drop_of_length_le (by omega), List.take_nil, List.take_nil]
theorem cutS_to (z : Str) (k : Nat) : (cutS z none (some (k : Int))).cps.toList = z.cps.toList.take k := by
  have hz : z.length = z.cps.toList.length := by rw [Array.length_toList]; rfl
  show ((z.cps.toList.drop (HT.sIx z.length 0 none)).take (HT.sIx z.length z.length (some (k : Int)) - HT.sIx z.length 0 none)).toArray.toList = _
  rw [List.toList_toArray, HT.sIx_none, HT.sIx_nat, List.drop_zero, Nat.sub_zero, hz]
  by_cases h : k ≤ z.cps.toList.length
  · rw [Nat.min_eq_left h]
  · rw [Nat.min_eq_right (by omega), List.take_length, List.take_of_length_le (by omega)]
theorem cutS_from (z : Str) (k : Nat) : (cutS z (some (k : Int)) none).cps.toList = z.cps.toList.drop k := by
  have hz : z.length = z.cps.toList.length := by rw [Array.length_toList]; rfl
  show ((z.cps.toList.drop (HT.sIx z.length 0 (some (k : Int)))).take (HT.sIx z.length z.length none - HT.sIx z.length 0 (some (k : Int)))).toArray.toList = _
  rw [List.toList_toArray, HT.sIx_none, HT.sIx_nat, hz]
  by_cases h : k ≤ z.cps.toList.length
  · rw [Nat.min_eq_left h, List.take_of_length_le (by rw [List.length_drop]; omega)]
  · rw [Nat.min_eq_right (by omega), List.drop_length, List.drop_of_length_le (by omega), List.take_nil]
end
end My
namespace My
open PySem L2
section
variable {σ : L2.St} {H : Hp} {K : PySem.W.Frag} {a p : Addr} {xs : List V} {R : Prop} {S : Addr → Prop}
theorem r_exb {b : Bool} {q : Bool → Prop} (h : q b) : ∃ k, V.bl b = V.bl k ∧ q k := ⟨b, rfl, h⟩
theorem r_exi {i : Int} {q : Int → Prop} (h : q i) : ∃ k, V.int i = V.int k ∧ q k := ⟨i, rfl, h⟩
theorem r_exr {q : Addr → Prop} (h : q a) : ∃ k, V.ref a = V.ref k ∧ q k := ⟨a, rfl, h⟩
theorem r_exs {z : Str} {q : Str → Prop} (h : q z) : ∃ k, V.str z = V.str k ∧ q k := ⟨z, rfl, h⟩
theorem r_exli {i : Int} {q : Int → Prop} (h : q i) : ∃ k, [V.int i] = [V.int k] ∧ q k := ⟨i, rfl, h⟩
theorem r_strV {z : Str} (h : R) : (∃ a, V.str z = .str a) ∧ R := ⟨⟨z, rfl⟩, h⟩
theorem r_tyL (h : SqL K H p xs) (q : R) : tyV K "list" (.ref p) H ∧ R := ⟨.inl ⟨rfl, xs, h⟩, q⟩
theorem r_disp {n : Nat} (h : n ≤ 100000) (q : ∀ p, S p) : n ≤ sizeLine ∧ ∀ p, S p := ⟨sz h, q⟩
end
end My
namespace My
open PySem L2
section
variable {σ : L2.St} {H : Hp} {K : PySem.W.Frag} {a : Addr} {x : V} {xs : List V} {g : TG} {gs : TGs} {n : Nat} {Q : L2.St → Hp → Prop}
theorem r_gtup (h : SqT K H a xs) (hl : xs.length = n) (q : gs xs σ H Q) : gTup K n gs (.ref a) σ H Q := ⟨a, xs, rfl, h, hl, q⟩
theorem r_gcons (q : g x σ H fun σ' H' => gs xs σ' H' Q) : gCons g gs (x :: xs) σ H Q := ⟨x, xs, rfl, q⟩
theorem r_gnil (q : Q σ H) : gNil [] σ H Q := ⟨rfl, q⟩
theorem ite01 (k : Bool) : (0 : Int) ≤ (if k = true then 1 else 0) := by cases k <;> decide
end
end My
namespace My
open PySem L2
theorem ixN_lt {n j : Nat} (h : j < n) : ixN n (j : Int) = some j := by
  unfold ixN
  rw [if_pos (by omega), if_pos (by omega), Int.toNat_natCast]
theorem map_get {xs : List Int} {j : Nat} (h : j < xs.length) : (xs.map V.int)[j]? = some (V.int xs[j]) := by rw [List.getElem?_map, List.getElem?_eq_getElem h]; rfl
theorem map_some {α : Type} {f : α → V} {xs : List α} {i : Nat} {v : V} (h : (xs.map f)[i]? = some v) : ∃ c, v = f c ∧ xs[i]? = some c := by
  rw [List.getElem?_map] at h
  cases e : xs[i]? with
  | none => rw [e] at h; cases h
  | some c => rw [e] at h; exact ⟨c, (Option.some.inj h).symm, rfl⟩
end My
namespace My
open PySem L2
section
variable {σ : L2.St} {H : Hp} {D : Ends} {ta : TA} {i j l : Nat}
theorem r_par (h : ta σ H fun vs H1 => ∃ v w, vs = [v, w] ∧ D.nx ((σ.set i (some v)).set j (some w)) H1) : tPar i j ta D σ H := h
theorem r_par3 (h : ta σ H fun vs H1 => ∃ u v w, vs = [u, v, w] ∧ D.nx (((σ.set i (some u)).set j (some v)).set l (some w)) H1) : tPar3 i j l ta D σ H := h
theorem r_ex2 {v w : V} {q : V → V → Prop} (h : q v w) : ∃ a b, [v, w] = [a, b] ∧ q a b := ⟨v, w, rfl, h⟩
theorem r_ex3 {u v w : V} {q : V → V → V → Prop} (h : q u v w) : ∃ a b c, [u, v, w] = [a, b, c] ∧ q a b c := ⟨u, v, w, rfl, h⟩
end
end My
namespace My
open PySem L2
section
variable {K : PySem.W.Frag} {H H' : Hp} {a b p : Addr} {xs : List V} {o : HO} {n : Nat}
theorem Rd_upd {u : HO} (h : Rd H a u) (hp : H p = none) : Rd (upd H p o) a u := by
  rcases h with h | ⟨w, h⟩
  · exact .inl (upd_at h (ne_of_none h hp))
  · exact .inr ⟨w, upd_at h (ne_of_none h hp)⟩
theorem SqT.upd (h : SqT K H a xs) (hp : H p = none) : SqT K (L2.upd H p o) a xs := h.elim (fun h => .inl (Rd_upd h hp)) .inr
theorem SqL.upd (h : SqL K H a xs) (hp : H p = none) : SqL K (L2.upd H p o) a xs := h.elim (fun h => .inl (Rd_upd h hp)) .inr
theorem SqT.same (h : SqT K H a xs) (e : Same H H') : SqT K H' a xs := by
  rcases h with (h | ⟨o, h⟩) | h
  · exact .inl (.inl (e _ _ h))
  · exact .inl (.inr ⟨o, e _ _ h⟩)
  · exact .inr h
theorem SqT.kp (h : SqT K H a xs) (k : Kp b H H') (x : Bx H b n) : SqT K H' a xs := by
  obtain ⟨_, _, _, hb, _⟩ := x
  rcases h with (h | ⟨o, h⟩) | h
  · exact .inl (.inl (k _ _ h (ne_of h hb (by intro z; cases z))))
  · exact .inl (.inr ⟨o, k _ _ h (ne_of h hb (by intro z; cases z))⟩)
  · exact .inr h
theorem SqL.kp (h : SqL K H a xs) (k : Kp b H H') (ne : a ≠ b) : SqL K H' a xs := by
  rcases h with (h | ⟨o, h⟩) | h
  · exact .inl (.inl (k _ _ h ne))
  · exact .inl (.inr ⟨o, k _ _ h ne⟩)
  · exact .inr h
end
theorem perm_out {α : Type} (ys rs : List α) {j : Nat} (h : j < rs.length) : ((ys ++ [rs[j]]) ++ (rs.take j ++ rs.drop (j + 1))).Perm (ys ++ rs) := by
  rw [List.append_assoc]
  refine List.Perm.append_left ys ?_
  have e : rs = rs.take j ++ rs[j] :: rs.drop (j + 1) := by rw [List.getElem_cons_drop, List.take_append_drop]
  have e2 : ([rs[j]] ++ (rs.take j ++ rs.drop (j + 1))).Perm (rs.take j ++ rs[j] :: rs.drop (j + 1)) := by
    show (rs[j] :: (rs.take j ++ rs.drop (j + 1))).Perm _
    exact List.perm_middle.symm
  exact e2.trans (List.Perm.of_eq e.symm)
end My
namespace My
open PySem L2
section
variable {H : Hp} {Q : VK} {K : PySem.W.Frag} {x : V} {p : Addr} {T c c1 c2 : String} {b b1 b2 : Bool}
theorem r_isi (b : Bool) (ty : TyX K H x (.type T)) (e : kitB T c = some b) (q : Q (.bl b) H) : rIsi K [x, .ty c] H Q := ⟨x, .ty c, .type T, .type c, b, rfl, .ty c, ty, kit_ty e, q⟩
theorem r_isiT (b1 b2 : Bool) (ty : TyX K H x (.type T)) (hp : H p = some (.tup [.ty c1, .ty c2])) (e1 : kitB T c1 = some b1) (e2 : kitB T c2 = some b2) (q : Q (.bl (b1 || b2)) H) : rIsiT K [x, .ref p] H Q :=
  ⟨x, p, [.ty c1, .ty c2], .type T, [.type c1, .type c2], b1 || b2, rfl, hp, .cons (.ty c1) (.cons (.ty c2) .nil), ty, by
    refine kitAny_cons (kit_ty e1) (fun z => ?_) (fun z => by rw [z]; rfl)
    rw [z]
    exact kitAny_cons (kit_ty e2) (fun z => by rw [z]; exact kitAny_nil) (fun z => by rw [z]; rfl), q⟩
def rIsN : R2 := fun x y H Q => y = .non ∧ Q (.bl (decide (x = .non))) H
def rNotN : R2 := fun x y H Q => y = .non ∧ Q (.bl (!decide (x = .non))) H
theorem o_isN {X : Cx} : OpR X (compareOp .Is) rIsN := op_isN
theorem o_notN {X : Cx} : OpR X (compareOp .IsNot) rNotN := op_notN
theorem r_isN (q : Q (.bl (decide (x = .non))) H) : rIsN x .non H Q := ⟨rfl, q⟩
theorem r_notN (q : Q (.bl (!decide (x = .non))) H) : rNotN x .non H Q := ⟨rfl, q⟩
theorem tyL {K : PySem.W.Frag} {a : Addr} {xs : List V} (h : H a = some (.lst xs)) : TyX K H (.ref a) (.type "list") := .base (.lst h)
theorem tyT {K : PySem.W.Frag} {a : Addr} {xs : List V} (h : H a = some (.tup xs)) : TyX K H (.ref a) (.type "tuple") := .base (.tup h)
end
end My
namespace My
open PySem L2
theorem r_iZipA {σ : L2.St} {H : Hp} {K : PySem.W.Frag} {ta : TA} {R : It → Hp → Prop} (h : ta σ H fun vs H1 => ∃ a b xs ys, vs = [.ref a, .ref b] ∧ ((SqL K H1 a xs ∧ SqL K H1 b ys ∧ R (Itz K a b) H1) ∨ (SqT K H1 a xs ∧ SqT K H1 b ys ∧ R (RZ.ItzT K a b) H1))) : RZ.iZipA K ta σ H R := h
end My
namespace My
open PySem L2
section
variable {X : Cx}
theorem opK {f : Value → Value → Sem Value} {r : PySem.W.Frag → R2} (K : PySem.W.Frag) (h : OpR X f (r X.K)) (e : X.K = K := by rfl) : OpR X f (r K) := by subst e; exact h
theorem ixK {r : PySem.W.Frag → R2} (K : PySem.W.Frag) (h : IxR X (r X.K)) (e : X.K = K := by rfl) : IxR X (r K) := by subst e; exact h
theorem caK {f : Value} {r : PySem.W.Frag → List V → Hp → VK → Prop} (K : PySem.W.Frag) (h : CallR X f (r X.K)) (e : X.K = K := by rfl) : CallR X f (r K) := by subst e; exact h
theorem slK {r : PySem.W.Frag → V → Option Int → Option Int → Hp → VK → Prop} (K : PySem.W.Frag) (h : SlR X (r X.K)) (e : X.K = K := by rfl) : SlR X (r K) := by subst e; exact h
end
end My

namespace My
open PySem L2
abbrev cds (z : Str) : List Nat := z.cps.toList
def AllL (l : List Nat) : Prop := ∀ c ∈ l, 97 ≤ c ∧ c ≤ 122
/-- one small letter -/
def Lt1 (s : Str) : Prop := ∃ c, s = ⟨#[c]⟩ ∧ 97 ≤ c ∧ c ≤ 122
def KindS (s : Str) : Prop := 1 ≤ (cds s).length ∧ (cds s).length ≤ 8 ∧ AllL (cds s)
theorem len_cds (z : Str) : z.length = (cds z).length := by
  rw [Array.length_toList]
  rfl
theorem joinL_nil : ∀ ps : List (List Nat), TL.joinL [] ps = ps.flatten
  | [] => rfl
  | [p] => by rw [List.flatten_cons, List.flatten_nil, List.append_nil]; rfl
  | p :: q :: r => by
    rw [List.flatten_cons, ← joinL_nil (q :: r)]
    rfl
theorem cds_join (ys : List Str) : cds (Txt.join (Str.ofString "") ys) = (ys.map cds).flatten := by
  rw [TL.join_eq]
  have e := TL.tl_join (Str.ofString "") ys
  have e0 : TL.tl (Str.ofString "") = [] := by decide +kernel
  rw [e0, joinL_nil] at e
  exact e
theorem flat_len : ∀ (ys : List Str), (∀ s ∈ ys, Lt1 s) → ((ys.map cds).flatten.length = ys.length ∧ AllL (ys.map cds).flatten)
  | [], _ => ⟨rfl, fun c h => by simp at h⟩
  | y :: r, h => by
    obtain ⟨h1, h2⟩ := flat_len r fun s hs => h s (List.mem_cons_of_mem _ hs)
    obtain ⟨c, rfl, c1, c2⟩ := h y List.mem_cons_self
    rw [List.map_cons, List.flatten_cons, List.length_append, h1, List.length_cons]
    refine ⟨Nat.add_comm _ _, fun d hd => ?_⟩
    rcases List.mem_append.mp hd with hd | hd
    · have : d = c := by simpa using hd
      subst this
      exact ⟨c1, c2⟩
    · exact h2 d hd
theorem sum_len : ∀ (ys : List Str), (∀ s ∈ ys, Lt1 s) → (ys.map (·.length)).sum = ys.length
  | [], _ => rfl
  | y :: r, h => by
    obtain ⟨c, rfl, _⟩ := h y List.mem_cons_self
    rw [List.map_cons, List.sum_cons, sum_len r fun s hs => h s (List.mem_cons_of_mem _ hs), List.length_cons]
    exact Nat.add_comm 1 _
theorem letters_at : ∀ j : Nat, j < 26 → (cds (Str.ofString "abcdefghijklmnopqrstuvwxyz"))[j]? = some (97 + j) := by decide +kernel
theorem empty_len : (Str.ofString "").length = 0 := by decide +kernel
theorem letters_len : (Str.ofString "abcdefghijklmnopqrstuvwxyz").length = 26 := by decide +kernel
/-- a name as the law draws it: a letter of its own at a place that hangs on its size -/
def NameAt (w : Str) (p c : Nat) : Prop := 1 ≤ (cds w).length ∧ (cds w).length ≤ 8 ∧ (cds w)[p % (cds w).length]? = some c ∧ AllL (cds w)
theorem NameAt.kind {w : Str} {p c : Nat} (h : NameAt w p c) : KindS w := ⟨h.1, h.2.1, h.2.2.2⟩
def steps : List Nat := [1, 3, 5, 7, 9, 11, 15, 17, 19, 21, 23, 25]
theorem names_nodup {p f s : Nat} (hs : s ∈ steps) {ws : List Str} (hl : ws.length ≤ 13) (h : ∀ (k : Nat) (w : Str), ws[k]? = some w → NameAt w p (97 + (f + s * k) % 26)) : ws.Nodup := by
  refine List.pairwise_iff_getElem.mpr fun i j hi hj hij e => ?_
  have h1 := h i ws[i] (List.getElem?_eq_getElem hi)
  have h2 := h j ws[j] (List.getElem?_eq_getElem hj)
  rw [e] at h1
  have e2 := h1.2.2.1.symm.trans h2.2.2.1
  have e3 := Option.some.inj e2
  unfold steps at hs
  simp only [List.mem_cons, List.not_mem_nil, or_false] at hs
  rcases hs with rfl | rfl | rfl | rfl | rfl | rfl | rfl | rfl | rfl | rfl | rfl | rfl <;> omega
/-- a word with one letter put in -/
theorem put_letter {w w' : Str} {c p n : Nat} (hw : (cds w).length = n) (ha : AllL (cds w)) (hn : 1 ≤ n ∧ n ≤ 8) (hc : 97 ≤ c ∧ c ≤ 122) (e : cds w' = (cds w).take (p % n) ++ [c] ++ (cds w).drop (p % n + 1)) : NameAt w' p c := by
  have hp : p % n < n := Nat.mod_lt _ (by omega)
  have hl : (cds w').length = n := by
    rw [e, List.length_append, List.length_append, List.length_take, List.length_drop, hw]
    show min (p % n) n + 1 + (n - (p % n + 1)) = n
    omega
  refine ⟨by omega, by omega, ?_, fun d hd => ?_⟩
  · rw [hl, e, List.append_assoc, List.getElem?_append_right (by rw [List.length_take, hw]; omega), List.length_take, hw, Nat.min_eq_left (by omega), Nat.sub_self]
    rfl
  · rw [e] at hd
    rcases List.mem_append.mp hd with hd | hd
    · rcases List.mem_append.mp hd with hd | hd
      · exact ha d (List.mem_of_mem_take hd)
      · have : d = c := by simpa using hd
        subst this
        exact hc
    · exact ha d (List.mem_of_mem_drop hd)
theorem cds_app (a b : Str) : cds (a ++ b) = cds a ++ cds b := by
  show (a.cps ++ b.cps).toList = _
  rw [Array.toList_append]
section
variable {σ : L2.St} {H : Hp} {Q : VK}
theorem r_yes {q : Bool → Hp → Prop} (h : q true H) : tYes σ H q := h
/-- one of the letters -/
theorem r_ixSl {d : Nat} (h : d < 26 ∧ Q (.str ⟨#[97 + d]⟩) H) : rIxS (.str (Str.ofString "abcdefghijklmnopqrstuvwxyz")) (.int (d : Int)) H Q :=
  r_ixS (sz (by rw [letters_len]; decide)) (atI_nat (letters_at d h.1)) h.2
end
theorem cds_to (z : Str) (k : Nat) : cds (cutS z none (some (k : Int))) = (cds z).take k := cutS_to z k
theorem cds_from (z : Str) (k : Nat) : cds (cutS z (some (k : Int)) none) = (cds z).drop k := cutS_from z k
end My

namespace My
open PySem L2
/-! the order of texts, of pairs (text, number) -/
def sle (s t : Str) : Bool := !decide (cds t < cds s)
theorem sle_iff {s t : Str} : sle s t = true ↔ cds s ≤ cds t := by
  unfold sle
  rw [Bool.not_eq_true', decide_eq_false_iff_not, List.not_lt]
theorem sle_total (s t : Str) : sle s t = true ∨ sle t s = true := by
  rw [sle_iff, sle_iff]
  exact List.le_total _ _
theorem sle_trans {s t u : Str} (h : sle s t = true) (h' : sle t u = true) : sle s u = true := by
  rw [sle_iff] at *
  exact List.le_trans h h'
theorem str_ext {s t : Str} (h : cds s = cds t) : s = t := by
  obtain ⟨a⟩ := s
  obtain ⟨b⟩ := t
  have e : a = b := Array.toList_inj.mp h
  rw [e]
theorem sle_anti {s t : Str} (h : sle s t = true) (h' : sle t s = true) : s = t := by
  rw [sle_iff] at *
  exact str_ext (List.le_antisymm h h')
theorem sle_refl (s : Str) : sle s s = true := (sle_total s s).elim id id
def ple (p q : Str × Int) : Bool := if p.1 = q.1 then decide (p.2 ≤ q.2) else sle p.1 q.1
theorem ple_total (p q : Str × Int) : ple p q = true ∨ ple q p = true := by
  unfold ple
  by_cases e : p.1 = q.1
  · rw [if_pos e, if_pos e.symm, decide_eq_true_iff, decide_eq_true_iff]
    omega
  · rw [if_neg e, if_neg (Ne.symm e)]
    exact sle_total _ _
theorem ple_trans {p q r : Str × Int} (h : ple p q = true) (h' : ple q r = true) : ple p r = true := by
  unfold ple at *
  by_cases e : p.1 = q.1
  · rw [if_pos e, decide_eq_true_iff] at h
    by_cases e2 : q.1 = r.1
    · rw [if_pos e2, decide_eq_true_iff] at h'
      rw [if_pos (e.trans e2), decide_eq_true_iff]
      omega
    · rw [if_neg e2] at h'
      rw [if_neg (fun z => e2 (e.symm.trans z)), e]
      exact h'
  · rw [if_neg e] at h
    by_cases e2 : q.1 = r.1
    · rw [if_neg (fun z => e (z.trans e2.symm)), ← e2]
      exact h
    · rw [if_neg e2] at h'
      by_cases e3 : p.1 = r.1
      · exact absurd (sle_anti h (by rw [e3]; exact h')) e
      · rw [if_neg e3]
        exact sle_trans h h'
theorem ple_anti {p q : Str × Int} (h : ple p q = true) (h' : ple q p = true) : p = q := by
  unfold ple at *
  by_cases e : p.1 = q.1
  · rw [if_pos e, decide_eq_true_iff] at h
    rw [if_pos e.symm, decide_eq_true_iff] at h'
    exact Prod.ext e (by omega)
  · rw [if_neg e] at h
    rw [if_neg (Ne.symm e)] at h'
    exact absurd (sle_anti h h') e
/-! putting one more into a rising list -/
section
variable {α : Type} {le : α → α → Bool}
def cnt (le : α → α → Bool) (qs : List α) (p : α) : Nat := (qs.filter fun q => le q p).length
theorem put_rising (tot : ∀ p q, le p q = true ∨ le q p = true) (tr : ∀ {p q r}, le p q = true → le q r = true → le p r = true) : ∀ {qs : List α} (p : α), qs.Pairwise (fun a b => le a b = true) →
    (qs.take (cnt le qs p) ++ [p] ++ qs.drop (cnt le qs p)).Pairwise (fun a b => le a b = true) ∧ (∀ q ∈ qs.take (cnt le qs p), le q p = true) ∧ ∀ q ∈ qs.drop (cnt le qs p), le p q = true
  | [], p, _ => ⟨by simp [cnt], by simp, by simp⟩
  | q :: r, p, h => by
    obtain ⟨h1, h2⟩ := List.pairwise_cons.mp h
    by_cases c : le q p = true
    · obtain ⟨i1, i2, i3⟩ := put_rising tot tr p h2
      have e : cnt le (q :: r) p = cnt le r p + 1 := by
        unfold cnt
        rw [List.filter_cons, if_pos c, List.length_cons]
      rw [e, List.take_succ_cons, List.drop_succ_cons]
      refine ⟨?_, ?_, i3⟩
      · show (q :: (r.take (cnt le r p) ++ [p] ++ r.drop (cnt le r p))).Pairwise _
        refine List.pairwise_cons.mpr ⟨fun x hx => ?_, i1⟩
        rcases List.mem_append.mp hx with hx | hx
        · rcases List.mem_append.mp hx with hx | hx
          · exact h1 x (List.mem_of_mem_take hx)
          · have : x = p := by simpa using hx
            rw [this]
            exact c
        · exact h1 x (List.mem_of_mem_drop hx)
      · intro x hx
        rcases List.mem_cons.mp hx with rfl | hx
        · exact c
        · exact i2 x hx
    · have c' : le p q = true := (tot p q).resolve_right c
      have no : ∀ x ∈ r, ¬ le x p = true := fun x hx z => c (tr (h1 x hx) z)
      have e : cnt le (q :: r) p = 0 := by
        unfold cnt
        rw [List.filter_cons, if_neg c, List.filter_eq_nil_iff.mpr (fun x hx => no x hx)]
        rfl
      rw [e]
      refine ⟨?_, by simp, fun x hx => ?_⟩
      · show (p :: q :: r).Pairwise _
        exact List.pairwise_cons.mpr ⟨fun x hx => by
          rcases List.mem_cons.mp hx with rfl | hx
          · exact c'
          · exact tr c' (h1 x hx), h⟩
      · rcases List.mem_cons.mp hx with rfl | hx
        · exact c'
        · exact tr c' (h1 x hx)
theorem cnt_le (le : α → α → Bool) (qs : List α) (p : α) : cnt le qs p ≤ qs.length := List.length_filter_le _ _
theorem perm_in (qs : List α) (p : α) (c : Nat) : (qs.take c ++ [p] ++ qs.drop c).Perm (qs ++ [p]) := by
  have h : (qs.take c ++ [p] ++ qs.drop c).Perm ([p] ++ (qs.take c ++ qs.drop c)) := by
    rw [← List.append_assoc]
    exact List.Perm.append_right _ List.perm_append_comm
  rw [List.take_append_drop] at h
  exact h.trans List.perm_append_comm
end
/-! <= of such pairs -/
def rLeP (K : PySem.W.Frag) : R2 := fun x y H Q => ∃ (a b : Addr) (p q : Str × Int), x = .ref a ∧ y = .ref b ∧ SqT K H a [.str p.1, .int p.2] ∧ SqT K H b [.str q.1, .int q.2] ∧ Q (.bl (ple p q)) H
theorem RcOp.le_str {A : Around} {s : Shared} (a b : Str) (t u : Tok) : Ob.RcOp .LtE A s (.str a t) (.str b u) (sle a b) := fun _ _ _ _ h => PySem.P.le_str h
theorem pair_shape {p : Str × Int} {its : List Value} (r : Vals [.str p.1, .int p.2] its) : ∃ t u, its = [.str p.1 t, .int p.2 u] := by
  cases r with
  | cons r1 r =>
    cases r with
    | cons r2 r =>
      cases r
      obtain ⟨t, rfl⟩ := (show ∃ t, _ = Value.str p.1 t from r1)
      obtain ⟨u, rfl⟩ := (show ∃ t, _ = Value.int p.2 t from r2)
      exact ⟨t, u, rfl⟩
theorem o_leP {X : Cx} (hu : X.A.units < cLine) : OpR X (compareOp .LtE) (rLeP X.K) := by
  intro pins s σ H x y v u Q I rx ry h
  obtain ⟨a, b, p, q, rfl, rfl, ha, hb, q0⟩ := h
  cases rx
  cases ry
  obtain ⟨its, r1, p1, _⟩ := I.tuple ha
  obtain ⟨its2, r2, p2, _⟩ := I.tuple hb
  obtain ⟨t1, u1, rfl⟩ := pair_shape r1
  obtain ⟨t2, u2, rfl⟩ := pair_shape r2
  have R := Ob.RcOp.tuples_le (A := X.A) (s := s) (e := fun j => if j = 0 then (p.1 == q.1) else (p.2 == q.2)) (r := fun j => if j = 0 then sle p.1 q.1 else decide (p.2 ≤ q.2)) p1 p2 hu (fun j h1 h2 => by
    match j, h1, h2 with
    | 0, _, _ => exact SeqAt.EqAt.str_str _ _ _ _
    | 1, _, _ => exact SeqAt.EqAt.int_int _ _ _ _) (fun j h1 h2 _ => by
    match j, h1, h2 with
    | 0, _, _ => exact RcOp.le_str _ _ _ _
    | 1, _, _ => exact Ob.RcOp.le_int _ _ _ _)
  have e : Ob.lexAt (fun j => if j = 0 then (p.1 == q.1) else (p.2 == q.2)) (fun j => if j = 0 then sle p.1 q.1 else decide (p.2 ≤ q.2)) (decide ([Value.str p.1 t1, .int p.2 u1].toArray.size ≤ [Value.str q.1 t2, .int q.2 u2].toArray.size)) 0 (min [Value.str p.1 t1, .int p.2 u1].toArray.size [Value.str q.1 t2, .int q.2 u2].toArray.size) = ple p q := by
    show (if (p.1 == q.1) = true then (if (p.2 == q.2) = true then true else decide (p.2 ≤ q.2)) else sle p.1 q.1) = ple p q
    unfold ple
    by_cases e1 : p.1 = q.1
    · rw [if_pos (beq_iff_eq.mpr e1), if_pos e1]
      by_cases e2 : p.2 = q.2
      · rw [if_pos (beq_iff_eq.mpr e2), e2]
        exact (decide_eq_true (Int.le_refl _)).symm
      · rw [if_neg (fun z => e2 (beq_iff_eq.mp z))]
    · rw [if_neg (fun z => e1 (beq_iff_eq.mp z)), if_neg e1]
  rw [e] at R
  have z : wpAny (model X.prog X.w) X.A (compareOp .LtE (.ref a) (.ref b)) (EP X pins σ Q) X.xe s := R X.prog X.w X.xe (EP X pins σ Q) ⟨.bl _, H, I, rfl, q0⟩
  exact z
/-- a tuple of a text and a number stands there -/
def PrA (H : Hp) (x : V) (p : Str × Int) : Prop := ∃ t, x = .ref t ∧ H t = some (.tup [.str p.1, .int p.2])
theorem PrA.same {H H' : Hp} {x : V} {p : Str × Int} (h : PrA H x p) (e : Same H H') : PrA H' x p := let ⟨t, h1, h2⟩ := h; ⟨t, h1, e _ _ h2⟩
theorem PrA.all {H H' : Hp} {xs : List V} {ps : List (Str × Int)} (h : Paired (PrA H) xs ps) (e : Same H H') : Paired (PrA H') xs ps := Paired.mapP h fun _ _ z => z.same e
theorem PrA.kp {a : Addr} {b : Nat} {H H' : Hp} {x : V} {p : Str × Int} (h : PrA H x p) (e : Kp a H H') (bx : Bx H a b) : PrA H' x p := by
  obtain ⟨t, h1, h2⟩ := h
  obtain ⟨_, _, _, hb, _⟩ := bx
  exact ⟨t, h1, e _ _ h2 (ne_of h2 hb (by intro z; cases z))⟩
theorem Paired.len {α β : Type} {R : α → β → Prop} : ∀ {xs : List α} {ys : List β}, Paired R xs ys → xs.length = ys.length
  | _, _, .nil => rfl
  | _, _, .cons _ t => by rw [List.length_cons, List.length_cons, Paired.len t]
theorem Paired.at {α β : Type} {R : α → β → Prop} : ∀ {xs : List α} {ys : List β} {i : Nat} {x : α}, Paired R xs ys → xs[i]? = some x → ∃ y, ys[i]? = some y ∧ R x y
  | _, _, _, _, .nil, e => by simp at e
  | _, _, 0, _, .cons r _, e => by simp at e; subst e; exact ⟨_, rfl, r⟩
  | _, _, i + 1, x, .cons _ t, e => by
    obtain ⟨y, h1, h2⟩ := Paired.at (i := i) t (by simpa using e)
    exact ⟨y, by simpa using h1, h2⟩
theorem Paired.app {α β : Type} {R : α → β → Prop} : ∀ {xs xs' : List α} {ys ys' : List β}, Paired R xs ys → Paired R xs' ys' → Paired R (xs ++ xs') (ys ++ ys')
  | _, _, _, _, .nil, h => h
  | _, _, _, _, .cons r t, h => .cons r (Paired.app t h)
theorem Paired.tk {α β : Type} {R : α → β → Prop} : ∀ {xs : List α} {ys : List β} (n : Nat), Paired R xs ys → Paired R (xs.take n) (ys.take n)
  | _, _, 0, _ => .nil
  | _, _, _ + 1, .nil => .nil
  | _, _, n + 1, .cons r t => .cons r (Paired.tk n t)
theorem Paired.dr {α β : Type} {R : α → β → Prop} : ∀ {xs : List α} {ys : List β} (n : Nat), Paired R xs ys → Paired R (xs.drop n) (ys.drop n)
  | _, _, 0, h => h
  | _, _, _ + 1, .nil => .nil
  | _, _, n + 1, .cons _ t => Paired.dr n t
end My
namespace My
open PySem L2
theorem filter_take {α : Type} {f : α → Bool} {qs : List α} {j : Nat} {r : α} (h : qs[j]? = some r) : ((qs.take (j + 1)).filter f).length = ((qs.take j).filter f).length + (if f r = true then 1 else 0) := by
  rw [List.take_add_one, h, List.filter_append, List.length_append]
  congr 1
  show ([r].filter f).length = _
  rw [List.filter_cons]
  split <;> rfl
theorem r_leP {H : Hp} {Q : VK} {K : PySem.W.Frag} {a b : Addr} {p q : Str × Int} (ha : SqT K H a [.str p.1, .int p.2]) (hb : SqT K H b [.str q.1, .int q.2]) (h : Q (.bl (ple p q)) H) : rLeP K (.ref a) (.ref b) H Q := ⟨a, b, p, q, rfl, rfl, ha, hb, h⟩
end My

namespace My
open PySem L2
/-! a dict of texts to numbers, as its pairs -/
abbrev AL := List (Str × Int)
def enc (m : AL) : List (Key × V) := m.map fun p => (Sum.inr p.1, V.int p.2)
def look (m : AL) (k : Str) : Option Int := (m.find? fun p => decide (p.1 = k)).map (·.2)
def put (m : AL) (k : Str) (n : Int) : AL := if (m.any fun p => decide (p.1 = k)) = true then m.map (fun p => if p.1 = k then (p.1, n) else p) else m ++ [(k, n)]
def get (m : AL) (k : Str) : Int := (look m k).getD 0
def keys (m : AL) : List Str := m.map (·.1)
theorem enc_len (m : AL) : (enc m).length = m.length := List.length_map _
theorem inr_eq {a b : Str} : decide ((Sum.inr a : Key) = Sum.inr b) = decide (a = b) := key_rr a b
theorem enc_look : ∀ (m : AL) (k : Str), valV (enc m) (Sum.inr k) = (look m k).map V.int
  | [], _ => rfl
  | p :: r, k => by
    show valV ((Sum.inr p.1, V.int p.2) :: enc r) (Sum.inr k) = (look (p :: r) k).map V.int
    by_cases e : p.1 = k
    · rw [valV_pos (by rw [e])]
      unfold look
      rw [List.find?_cons, decide_eq_true e]
      rfl
    · rw [valV_neg (fun z => e (Sum.inr.inj z)), enc_look r k]
      unfold look
      rw [List.find?_cons, decide_eq_false e]
theorem enc_any (m : AL) (k : Str) : ((enc m).any fun kv => decide (kv.1 = (Sum.inr k : Key))) = (m.any fun p => decide (p.1 = k)) := by
  unfold enc
  rw [List.any_map]
  congr 1
  funext p
  exact inr_eq
theorem enc_put (m : AL) (k : Str) (n : Int) : putK (enc m) (Sum.inr k) (V.int n) = enc (put m k n) := by
  unfold putK put
  rw [enc_any]
  split
  · unfold enc
    rw [List.map_map, List.map_map]
    congr 1
    funext p
    show (if (Sum.inr p.1 : Key) = Sum.inr k then ((Sum.inr p.1 : Key), V.int n) else ((Sum.inr p.1 : Key), V.int p.2)) = _
    by_cases e : p.1 = k
    · rw [if_pos (by rw [e])]
      show _ = (Sum.inr (if p.1 = k then (p.1, n) else p).1, V.int (if p.1 = k then (p.1, n) else p).2)
      rw [if_pos e]
    · rw [if_neg (fun z => e (Sum.inr.inj z))]
      show _ = (Sum.inr (if p.1 = k then (p.1, n) else p).1, V.int (if p.1 = k then (p.1, n) else p).2)
      rw [if_neg e]
  · unfold enc
    rw [List.map_append]
    rfl
theorem look_cons (p : Str × Int) (r : AL) (k : Str) : look (p :: r) k = if p.1 = k then some p.2 else look r k := by
  unfold look
  rw [List.find?_cons]
  by_cases e : p.1 = k
  · rw [decide_eq_true e, if_pos e]
    rfl
  · rw [decide_eq_false e, if_neg e]
theorem look_none : ∀ {m : AL} {k : Str}, look m k = none ↔ k ∉ keys m
  | [], _ => by simp [look, keys]
  | p :: r, k => by
    rw [look_cons]
    show _ ↔ k ∉ p.1 :: keys r
    by_cases e : p.1 = k
    · rw [if_pos e, e]
      simp
    · rw [if_neg e, look_none, List.mem_cons, not_or]
      exact ⟨fun h => ⟨Ne.symm e, h⟩, fun h => h.2⟩
theorem any_look (m : AL) (k : Str) : (m.any fun p => decide (p.1 = k)) = true ↔ k ∈ keys m := by
  rw [List.any_eq_true]
  constructor
  · rintro ⟨p, hp, e⟩
    exact List.mem_map.mpr ⟨p, hp, of_decide_eq_true e⟩
  · intro h
    obtain ⟨p, hp, e⟩ := List.mem_map.mp h
    exact ⟨p, hp, decide_eq_true e⟩
theorem keys_put (m : AL) (k : Str) (n : Int) : keys (put m k n) = if k ∈ keys m then keys m else keys m ++ [k] := by
  unfold put
  by_cases h : k ∈ keys m
  · rw [if_pos ((any_look m k).mpr h), if_pos h]
    unfold keys
    rw [List.map_map]
    congr 1
    funext p
    show (if p.1 = k then (p.1, n) else p).1 = p.1
    split <;> rfl
  · rw [if_neg (fun z => h ((any_look m k).mp z)), if_neg h]
    unfold keys
    rw [List.map_append]
    rfl
theorem put_nodup {m : AL} {k : Str} {n : Int} (h : (keys m).Nodup) : (keys (put m k n)).Nodup := by
  rw [keys_put]
  split
  · exact h
  · exact nd_snoc h (by assumption)
theorem put_len (m : AL) (k : Str) (n : Int) : (put m k n).length ≤ m.length + 1 := by
  have e : (put m k n).length = (keys (put m k n)).length := (List.length_map _).symm
  rw [e, keys_put]
  have e2 : (keys m).length = m.length := List.length_map _
  split
  · omega
  · rw [List.length_append]
    show (keys m).length + 1 ≤ _
    omega
theorem look_map (m : AL) (k j : Str) (n : Int) : look (m.map (fun p => if p.1 = k then (p.1, n) else p)) j = if j = k then (if k ∈ keys m then some n else none) else look m j := by
  induction m with
  | nil =>
    show none = _
    split
    · rw [if_neg (by simp [keys])]
    · rfl
  | cons p r ih =>
    rw [List.map_cons, look_cons, ih, look_cons]
    show (if (if p.1 = k then (p.1, n) else p).1 = j then some (if p.1 = k then (p.1, n) else p).2 else _) = if j = k then (if k ∈ p.1 :: keys r then some n else none) else _
    by_cases e : p.1 = k
    · rw [if_pos e]
      by_cases ej : j = k
      · subst ej
        rw [if_pos e, if_pos rfl, if_pos (by rw [e]; exact List.mem_cons_self)]
      · rw [if_neg (fun z : p.1 = j => ej (z.symm.trans e)), if_neg ej, if_neg ej, if_neg (fun z : p.1 = j => ej (z.symm.trans e))]
    · rw [if_neg e]
      by_cases ej : j = k
      · subst ej
        rw [if_neg e, if_pos rfl, if_pos rfl]
        by_cases hk : j ∈ keys r
        · rw [if_pos hk, if_pos (List.mem_cons_of_mem _ hk)]
        · rw [if_neg hk, if_neg (fun z => (List.mem_cons.mp z).elim (fun q => e q.symm) hk)]
      · rw [if_neg ej, if_neg ej]
theorem look_app (m : AL) (k j : Str) (n : Int) : look (m ++ [(k, n)]) j = (look m j).or (if k = j then some n else none) := by
  induction m with
  | nil =>
    show look [(k, n)] j = _
    rw [look_cons]
    rfl
  | cons p r ih =>
    rw [List.cons_append, look_cons, ih, look_cons]
    split <;> rfl
theorem look_put (m : AL) (k j : Str) (n : Int) : look (put m k n) j = if j = k then some n else look m j := by
  unfold put
  by_cases h : k ∈ keys m
  · rw [if_pos ((any_look m k).mpr h), look_map, if_pos h]
  · rw [if_neg (fun z => h ((any_look m k).mp z)), look_app]
    by_cases e : j = k
    · subst e
      rw [look_none.mpr h, if_pos rfl]
      rfl
    · rw [if_neg (Ne.symm e), if_neg e]
      cases look m j <;> rfl
theorem get_put (m : AL) (k j : Str) (n : Int) : get (put m k n) j = if j = k then n else get m j := by
  unfold get
  rw [look_put]
  split <;> rfl
theorem look_mem : ∀ {m : AL} {k : Str} {n : Int}, (keys m).Nodup → (look m k = some n ↔ (k, n) ∈ m)
  | [], _, _, _ => by simp [look]
  | p :: r, k, n, h => by
    obtain ⟨h1, h2⟩ := List.nodup_cons.mp (show (p.1 :: keys r).Nodup from h)
    rw [look_cons]
    by_cases e : p.1 = k
    · rw [if_pos e, List.mem_cons]
      constructor
      · intro z
        left
        have z := Option.some.inj z
        exact Prod.ext e.symm z.symm
      · rintro (z | z)
        · rw [← z]
        · exact absurd (List.mem_map.mpr ⟨_, z, rfl⟩ : k ∈ keys r) (by rw [← e]; exact h1)
    · rw [if_neg e, look_mem h2, List.mem_cons]
      exact ⟨.inr, fun z => z.resolve_left fun q => e (by rw [← q])⟩
theorem nodup_of_keys {m : AL} (h : (keys m).Nodup) : m.Nodup := List.Pairwise.of_map (fun p => p.1) (fun _ _ q z => q (by rw [z])) h
/-- the pairs above 0 -/
def pos (m : AL) : AL := m.filter fun p => decide (0 < p.2)
theorem mem_pos {m : AL} (h : (keys m).Nodup) {k : Str} {n : Int} : (k, n) ∈ pos m ↔ get m k = n ∧ 0 < n := by
  unfold pos
  rw [List.mem_filter, ← look_mem h]
  unfold get
  constructor
  · rintro ⟨h1, h2⟩
    rw [h1]
    exact ⟨rfl, of_decide_eq_true h2⟩
  · rintro ⟨h1, h2⟩
    cases e : look m k with
    | none => rw [e] at h1; have : (0 : Int) = n := h1; omega
    | some v =>
      rw [e] at h1
      have : v = n := h1
      rw [this]
      exact ⟨rfl, decide_eq_true h2⟩
theorem pos_perm {m m' : AL} (h : (keys m).Nodup) (h' : (keys m').Nodup) (e : ∀ k, 0 < get m k ∨ 0 < get m' k → get m k = get m' k) : (pos m).Perm (pos m') := by
  refine (List.perm_ext_iff_of_nodup ((nodup_of_keys h).filter _) ((nodup_of_keys h').filter _)).mpr fun ⟨k, n⟩ => ?_
  show (k, n) ∈ pos m ↔ (k, n) ∈ pos m'
  rw [mem_pos h, mem_pos h']
  constructor
  · rintro ⟨h1, h2⟩
    exact ⟨by rw [← e k (.inl (by omega)), h1], h2⟩
  · rintro ⟨h1, h2⟩
    exact ⟨by rw [e k (.inr (by omega)), h1], h2⟩
/-- a dict's pairs above 0, rising -/
def Cn (m qs : AL) : Prop := qs.Perm (pos m) ∧ qs.Pairwise (fun a b => ple a b = true)
theorem cn_unique {m m' qs qs' : AL} (h : (keys m).Nodup) (h' : (keys m').Nodup) (c : Cn m qs) (c' : Cn m' qs') (e : ∀ k, 0 < get m k ∨ 0 < get m' k → get m k = get m' k) : qs = qs' :=
  List.Perm.eq_of_pairwise (le := fun a b => ple a b = true) (fun _ _ _ _ z z' => ple_anti z z') c.2 c'.2 (c.1.trans ((pos_perm h h' e).trans c'.1.symm))
/-- the numbers of a kind in a row of pairs, added up -/
def tot : AL → Str → Int
  | [], _ => 0
  | p :: r, k => (if p.1 = k then p.2 else 0) + tot r k
theorem tot_app (a b : AL) (k : Str) : tot (a ++ b) k = tot a k + tot b k := by
  induction a with
  | nil => exact (Int.zero_add _).symm
  | cons p r ih =>
    show (if p.1 = k then p.2 else 0) + tot (r ++ b) k = (if p.1 = k then p.2 else 0) + tot r k + tot b k
    rw [ih, Int.add_assoc]
theorem tot_nodup : ∀ {m : AL} (k : Str), (keys m).Nodup → tot m k = get m k
  | [], _, _ => rfl
  | p :: r, k, h => by
    obtain ⟨h1, h2⟩ := List.nodup_cons.mp (show (p.1 :: keys r).Nodup from h)
    show (if p.1 = k then p.2 else 0) + tot r k = get (p :: r) k
    unfold get
    rw [look_cons, tot_nodup k h2]
    by_cases e : p.1 = k
    · rw [if_pos e, if_pos e]
      unfold get
      rw [look_none.mpr (by rw [← e]; exact h1)]
      exact Int.add_zero _
    · rw [if_neg e, if_neg e, Int.zero_add]
      rfl
theorem tot_perm {a b : AL} (h : a.Perm b) (k : Str) : tot a k = tot b k := by
  induction h with
  | nil => rfl
  | cons p _ ih => show _ + _ = _ + _; rw [ih]
  | swap p q r => show _ + (_ + _) = _ + (_ + _); omega
  | trans _ _ i1 i2 => exact i1.trans i2
theorem tot_pos {m : AL} (h : (keys m).Nodup) (h0 : ∀ k, 0 ≤ get m k) (k : Str) : tot (pos m) k = get m k := by
  have hk : (keys (pos m)).Nodup := List.Nodup.sublist (List.Sublist.map _ List.filter_sublist) h
  rw [tot_nodup k hk]
  unfold get
  cases e : look (pos m) k with
  | some v =>
    have := (mem_pos h).mp ((look_mem hk).mp e)
    exact this.1.symm
  | none =>
    have h1 := h0 k
    have h2 : ¬ 0 < get m k := fun z => by
      have := (mem_pos h).mpr ⟨rfl, z⟩
      rw [(look_mem hk).mpr this] at e
      cases e
    show (0 : Int) = get m k
    omega
end My
namespace My
open PySem L2
theorem PrA.kpd {d : Addr} {u : HO} {H H' : Hp} {x : V} {p : Str × Int} (h : PrA H x p) (e : Kp d H H') (hd : H d = some u) (hu : ∀ xs, HO.tup xs ≠ u) : PrA H' x p := by
  obtain ⟨t, h1, h2⟩ := h
  exact ⟨t, h1, e _ _ h2 (ne_of h2 hd (hu _))⟩
theorem PrA.kpdAll {d : Addr} {u : HO} {H H' : Hp} {xs : List V} {ps : AL} (h : Paired (PrA H) xs ps) (e : Kp d H H') (hd : H d = some u) (hu : ∀ xs, HO.tup xs ≠ u) : Paired (PrA H') xs ps := Paired.mapP h fun _ _ z => z.kpd e hd hu
theorem pos_take {m : AL} {i : Nat} {p : Str × Int} (h : m[i]? = some p) : pos (m.take (i + 1)) = pos (m.take i) ++ (if 0 < p.2 then [p] else []) := by
  unfold pos
  rw [List.take_add_one, h, List.filter_append]
  congr 1
  show [p].filter _ = _
  rw [List.filter_cons]
  by_cases c : 0 < p.2
  · rw [if_pos (decide_eq_true c), if_pos c]
    rfl
  · rw [if_neg (fun z => c (of_decide_eq_true z)), if_neg c]
    rfl
theorem enc_at {m : AL} {i : Nat} {k : Key} {v : V} (h : (enc m)[i]? = some (k, v)) : ∃ p, m[i]? = some p ∧ k = Sum.inr p.1 ∧ v = V.int p.2 := by
  unfold enc at h
  rw [List.getElem?_map] at h
  cases e : m[i]? with
  | none => rw [e] at h; cases h
  | some p =>
    rw [e] at h
    have h := Option.some.inj h
    exact ⟨p, rfl, (congrArg Prod.fst h).symm, (congrArg Prod.snd h).symm⟩
theorem DGet_enc {H : Hp} {d : Addr} {m : AL} {k : Str} {r : Option Int} (h : L2.Rd H d (.dK (enc m))) (e : look m k = r) : DGet H d (.str k) (r.map V.int) := .inl ⟨enc m, Sum.inr k, h, rfl, by rw [enc_look, e]⟩
theorem look_at {m : AL} {i : Nat} {p : Str × Int} (hn : (keys m).Nodup) (h : m[i]? = some p) : look m p.1 = some p.2 := (look_mem hn).mpr (List.mem_of_getElem? h)
section
variable {σ : L2.St} {H : Hp} {Q : VK} {td ty tx te : TE} {D : Ends} {ts : TS} {d : Addr} {u : HO}
theorem r_dget (h : td σ H fun x H1 => ty σ H1 fun y H2 => ∃ a v, x = .ref a ∧ DGet H2 a y (some v) ∧ Q v H2) : tDGet td ty σ H Q := h
theorem r_dget2 (h : td σ H fun x H1 => ∃ a, x = .ref a ∧ IsD H1 a ∧ ty σ H1 fun y H2 => tx σ H2 fun z H3 => ∃ o, DGet H3 a y o ∧ Q (o.getD z) H3) : tDGet2 td ty tx σ H Q := h
theorem r_lockE (hd : H d = some u) (m : Mut (some u)) (h : ∀ od, te σ (upd H d (.frz od u)) fun v H' => H' d = some (.frz od u) ∧ Q v (upd H' d u)) : tLockE te σ H Q := ⟨d, u, hd, m, h⟩
theorem r_lock (hd : H d = some u) (m : Mut (some u)) (h : ∀ od, ts ⟨fun σ' H' => H' d = some (.frz od u) ∧ D.nx σ' (upd H' d u), fun v H' => H' d = some (.frz od u) ∧ D.rt v (upd H' d u), fun σ' H' => H' d = some (.frz od u) ∧ D.bk σ' (upd H' d u), fun σ' H' => H' d = some (.frz od u) ∧ D.ct σ' (upd H' d u)⟩ σ (upd H d (.frz od u))) : tLock ts D σ H := ⟨d, u, hd, m, h⟩
theorem r_iKeys {R : It → Hp → Prop} (h : td σ H fun x H1 => ∃ d o, x = .ref d ∧ ((∃ kvs, H1 d = some (.frz o (.dK kvs)) ∧ R (Itk d o kvs) H1) ∨ ∃ kvs, H1 d = some (.frz o (.dT kvs)) ∧ R (Itkt d o kvs) H1)) : iKeys td σ H R := h
theorem r_dput {tv : TE} (h : tv σ H fun v H1 => td σ H1 fun x H2 => ty σ H2 fun y H3 => ∃ a H4, x = .ref a ∧ DPut H3 a y v H4 ∧ D.nx σ H4) : sDPut td ty tv D σ H := h
end
theorem DPut_enc {H : Hp} {d : Addr} {m : AL} {k : Str} {n : Int} (h : H d = some (.dK (enc m))) (hl : m.length < sizeLine) : DPut H d (.str k) (.int n) (upd H d (.dK (enc (put m k n)))) := .inl ⟨enc m, Sum.inr k, h, rfl, by rw [enc_len]; exact hl, by rw [enc_put]⟩
end My
namespace My
open PySem L2
theorem get_look {m : AL} {k : Str} : (Option.map V.int (look m k)).getD (V.int 0) = V.int (get m k) := by
  unfold get
  cases look m k <;> rfl
theorem tot_take {ps : AL} {i : Nat} {p : Str × Int} (h : ps[i]? = some p) (k : Str) : tot (ps.take (i + 1)) k = tot (ps.take i) k + (if p.1 = k then p.2 else 0) := by
  rw [List.take_add_one, h, tot_app]
  show _ + ((if p.1 = k then p.2 else 0) + 0) = _
  rw [Int.add_zero]
end My

/-! an own class's operators, by its own methods -/
namespace My
open PySem L2 PySem.W
/-- a method of the class at C, with its promise -/
structure OCal (P : Program) (w : World) (K : PySem.W.Frag) (mg : Str → Option Value) (base : Heap) (CX : CXT) (k : Nat) (C : Addr) (name : Str) (ps : List Str) (sp : Sp) : Prop where
  ex : ∃ (f : Addr) (fd : FuncData), FnOk P w K mg base CX k f fd ps sp ∧ PySem.W.findIn K (.ref C) name = some (some (.ref f)) ∧ PySem.W.isFn K (.ref f) = true ∧ PySem.W.keepIn K (.ref f) = true ∧ PySem.W.fnIn K f = true ∧ Binds K fd ps []
/-- what an operator asks of the class beside its method -/
structure OCls (K : PySem.W.Frag) (C : Addr) : Prop where
  cl : Cls K C
  sf : PySem.W.selfFirst K C = true
  ns : PySem.W.noSeq K C = true
  si : PySem.W.subIn K (.type "int") (.ref C) = some false
section
variable {X : Cx} {CX : CXT} {k : Nat} {f C : Addr} {fd : FuncData} {ps : List Str} {sp : Sp} {E : XK} {pins : List (Addr × Obj)} {σ : L2.St} {H : Hp} {s : Shared} {Q : VK}
theorem run_at {A : Around} {us : List Value} {vs : List V} (F : FnOk X.prog X.w X.K X.mg X.base CX k f fd ps sp) (hr : Room k A) (hf : A.frames = X.A.frames) (hb : Binds X.K fd ps []) (hx : ∀ e s', CX X.stack H s E e s' → X.xe e s')
    (I : Inv X pins σ H s) (r : Vals vs us) (h : sp vs H Q E) : wpAny (model X.prog X.w) A (call (.ref f) us) (EP X pins σ Q) X.xe s := by
  have hl : us.length = ps.length := by rw [← r.length]; exact F.len _ _ _ _ h
  have e0 : Env0 X.prog X.w X.K X.mg X.base A X.stack s H := by
    have e := I.env0
    exact ⟨by rw [hf]; exact e.frames, e.mod, e.bs, e.bsz, e.funs, e.frf, e.hok, e.bare⟩
  have b := hb s us I.kIn (by rw [List.append_nil]; exact hl)
  rw [List.append_nil] at b
  refine wpAny_call (codeAny_mono (F.run A X.stack s H ⟨us, []⟩ us vs Q E hr e0 b r h) fun r s' hq => ?_)
  cases r with
  | error e => exact hx e s' hq
  | ok fl =>
    cases fl with
    | ret u => exact I.after hq
    | next => exact False.elim hq
    | brk => exact False.elim hq
    | cont => exact False.elim hq
theorem cmpBack {u : Value} {s' : Shared} {R : Value → Shared → Prop} (h : EP X pins σ Q u s') (hR : EP X pins σ Q u s' → R u s') : CmpBack R u s' := by
  obtain ⟨v, H', I, rv, q⟩ := id h
  cases v <;> (first | (cases (show u = _ from rv); exact hR h) | (obtain ⟨t, z⟩ := (show ∃ t, u = _ from rv); cases z; exact hR h))
/-- x op y, both of the class at C -/
def rOwn (C : Addr) (sp : Sp) (E : L2.St → XK) (σ : L2.St) : R2 := fun x y H Q => ∃ a b dx dy fs gs, x = .ref a ∧ y = .ref b ∧ H a = some (.ins C dx fs) ∧ H b = some (.ins C dy gs) ∧ sp [x, y] H Q (E σ)
/-- x op n, n a whole number -/
def rOwnI (C : Addr) (sp : Sp) (E : L2.St → XK) (σ : L2.St) : R2 := fun x y H Q => ∃ a dx fs i, x = .ref a ∧ y = .int i ∧ H a = some (.ins C dx fs) ∧ sp [x, y] H Q (E σ)
def tOpS (r : L2.St → R2) (ta tb : TE) : TE := fun σ H Q => ta σ H fun x H1 => tb σ H1 fun y H2 => r σ x y H2 Q
theorem pe_opS {op : Operator} {r : L2.St → R2} {a b : Expr} {ta tb : TE} {pos : Pos} (ho : ∀ (pins : List (Addr × Obj)) (s : Shared) (σ : L2.St) (H : Hp) (x y : V) (v u : Value) (Q : VK), Inv X pins σ H s → RelV x v → RelV y u → r σ x y H Q →
    wpAny (model X.prog X.w) X.A (binaryOp op v u) (EP X pins σ Q) X.xe s) (ha : PE X a ta) (hb : PE X b tb) : PE X (.BinOp a op b pos) (tOpS r ta tb) := by
  refine ⟨fun pins s σ H Q I h => ?_⟩
  exact wpAny_BinOp (binT ha hb I h fun v u s2 x y H2 I2 rx ry q => ho pins s2 σ H2 x y v u Q I2 rx ry q)
/-- what a call may let out at the slots σ -/
def PassS (CX : CXT) (X : Cx) (E : L2.St → XK) : Prop := ∀ (pins : List (Addr × Obj)) (σ : L2.St) (H : Hp) (s : Shared) (e : Value) (s' : Shared), Inv X pins σ H s → CX X.stack H s (E σ) e s' → X.xe e s'
theorem passS0 {X : Cx} {E : L2.St → XK} : PassS CX0 X E := fun _ _ _ _ _ _ _ h => h.elim
theorem PassS.of {X : Cx} {CX : CXT} {E : XK} (h : Passes CX X E) : PassS CX X (fun _ => E) := h
theorem pe_bin {op : Operator} {E : L2.St → XK} {a b : Expr} {ta tb : TE} {pos : Pos} (O : OCal X.prog X.w X.K X.mg X.base CX k C (PySem.dunder op.info.2) ps sp) (oc : OCls X.K C) (hr : Room k X.A) (hx : PassS CX X E)
    (ha : PE X a ta) (hb : PE X b tb) : PE X (.BinOp a op b pos) (tOpS (rOwn C sp E) ta tb) := by
  refine pe_opS (fun pins s σ H x y v u Q I rx ry h => ?_) ha hb
  obtain ⟨a, b, dx, dy, fs, gs, rfl, rfl, h1, h2, h⟩ := h
  cases rx
  cases ry
  obtain ⟨f, fd, F, hs, hf, hk, hfn, hb⟩ := O.ex
  obtain ⟨mA, J, _⟩ := ins_get I.hok h1
  obtain ⟨mB, J', _⟩ := ins_get I.hok h2
  obtain ⟨od, J, _⟩ := J.look
  obtain ⟨od', J', _⟩ := J'.look
  obtain ⟨m, hF⟩ := I.fr
  refine binop_K hF I.ok.mod.kin J J'.type oc.sf hs hf ?_
  exact wpAny_mono (run_at F hr rfl hb (fun e s' c => hx pins σ H s e s' I c) I (vs := [.ref a, .ref b]) (.cons rfl (.cons rfl .nil)) h) (fun u s' q => cmpBack q fun z => z) fun _ _ z => z
theorem pe_binI {op : Operator} {E : L2.St → XK} {a b : Expr} {ta tb : TE} {pos : Pos} {fo ro rc : Option Value} (O : OCal X.prog X.w X.K X.mg X.base CX k C (PySem.dunder op.info.2) ps sp) (oc : OCls X.K C) (hr : Room k X.A) (hx : PassS CX X E)
    (hrc : PySem.W.findIn X.K (.ref C) (dunderR op.info.2) = some rc) (hp : rc = none ∨ ∃ g : Addr, rc = some (.ref g)) (h1 : PySem.W.findIn X.K (.type "int") (PySem.dunder op.info.2) = some fo) (h2 : PySem.W.findIn X.K (.type "int") (dunderR op.info.2) = some ro)
    (ha : PE X a ta) (hb : PE X b tb) : PE X (.BinOp a op b pos) (tOpS (rOwnI C sp E) ta tb) := by
  refine pe_opS (fun pins s σ H x y v u Q I rx ry h => ?_) ha hb
  obtain ⟨a, dx, fs, i, rfl, rfl, e1, h⟩ := h
  cases rx
  obtain ⟨t, rfl⟩ := (show ∃ t, u = Value.int i t from ry)
  obtain ⟨f, fd, F, hs, hf, hk, hfn, hb⟩ := O.ex
  obtain ⟨mA, J, _⟩ := ins_get I.hok e1
  obtain ⟨od, J, _⟩ := J.look
  obtain ⟨m, hF⟩ := I.fr
  refine ksp_binT (T := "int") hF I.ok.mod.kin J rfl oc.sf hs hf hrc hp h1 h2 oc.si ?_
  exact wpAny_mono (run_at F hr rfl hb (fun e s' c => hx pins σ H s e s' I c) I (vs := [.ref a, .int i]) (.cons rfl (.cons ⟨t, rfl⟩ .nil)) h) (fun u s' q => cmpBack q fun z => z) fun _ _ z => z
/-- x op= y at a name, by the class's own method -/
theorem ip_own {op : Operator} (O : OCal X.prog X.w X.K X.mg X.base CX k C (dunderI op.info.2) ps sp) (oc : OCls X.K C) (hr : Room k X.A) (hx : Passes CX X E) : PIp X op (fun x y H Q => ∃ a dx fs, x = .ref a ∧ H a = some (.ins C dx fs) ∧ sp [x, y] H Q E) := by
  intro pins s σ H x y v u Q I rx ry h
  obtain ⟨a, dx, fs, rfl, e1, h⟩ := h
  cases rx
  obtain ⟨f, fd, F, hs, hf, hk, hfn, hb⟩ := O.ex
  obtain ⟨mA, J, _⟩ := ins_get I.hok e1
  obtain ⟨od, J, _⟩ := J.look
  obtain ⟨m, hF⟩ := I.fr
  refine ksp_inplace hF I.ok.mod.kin J oc.sf hs hf ?_
  exact wpAny_mono (run_at F hr rfl hb (fun e s' c => hx pins σ H s e s' I c) I (vs := [.ref a, y]) (.cons rfl (.cons ry .nil)) h) (fun u s' q => cmpBack q fun z => z) fun _ _ z => z
/-- x[i] -/
def tIxO (C : Addr) (sp : Sp) (E : XK) (ta tb : TE) : TE := fun σ H Q => ta σ H fun x H1 => tb σ H1 fun y H2 => ∃ a dx fs, x = .ref a ∧ H2 a = some (.ins C dx fs) ∧ sp [x, y] H2 Q E
theorem pe_ixO {a b : Expr} {ta tb : TE} {pos : Pos} (O : OCal X.prog X.w X.K X.mg X.base CX k C "__getitem__" ps sp) (hr : Room (k + 1) X.A) (hx : Passes CX X E) (ha : PE X a ta) (hb : PE X b tb)
    (hsl : ∀ o i, subscripted b true o i = runValue (.builtin "lifetime.subscript" ⟨[o, i], []⟩) := by (intro o i; with_unfolding_all rfl)) : PE X (.Subscript a b pos) (tIxO C sp E ta tb) := by
  refine ⟨fun pins s σ H Q I h => ?_⟩
  refine PyProof.Rows.Subscript_ (binT ha hb I h fun v u s2 x y H2 I2 rx ry q => ?_)
  obtain ⟨p, dx, fs, rfl, e1, h⟩ := q
  cases rx
  obtain ⟨f, fd, F, hs, hf, hk, hfn, hb⟩ := O.ex
  obtain ⟨mA, J, _⟩ := ins_get I2.hok e1
  obtain ⟨od, J, _⟩ := J.look
  obtain ⟨m, hF⟩ := I2.fr
  refine sub_K hF I2.ok.mod.kin J hs hfn hf ?_ (hsl _ _)
  exact run_at F hr.in1 rfl hb (fun e s' c => hx pins σ H2 s2 e s' I2 c) I2 (vs := [.ref p, y]) (.cons rfl (.cons ry .nil)) h
/-- len(x) -/
theorem c_lenO (O : OCal X.prog X.w X.K X.mg X.base CX k C "__len__" ps sp) (hr : Room (k + 1) X.A) (hx : Passes CX X E) :
    CallR X (.builtin "len") (fun vs H Q => ∃ a dx fs, vs = [.ref a] ∧ H a = some (.ins C dx fs) ∧ sp vs H (fun v H' => ∃ n : Int, v = .int n ∧ (0 ≤ n ∧ n < 2 ^ 63) ∧ Q v H') E) := by
  intro pins s σ H xs us Q I r h
  obtain ⟨a, dx, fs, rfl, e1, h⟩ := h
  obtain ⟨u, rfl, ru⟩ := vals1 r
  cases ru
  obtain ⟨f, fd, F, hs, hf, hk, hfn, hb⟩ := O.ex
  obtain ⟨mA, J, _⟩ := ins_get I.hok e1
  obtain ⟨od, J, _⟩ := J.look
  obtain ⟨m, hF⟩ := I.fr
  refine len_K hF I.ok.mod.kin J hs hf ?_
  refine wpAny_mono (run_at F hr.in1 rfl hb (fun e s' c => hx pins σ H s e s' I c) I (vs := [.ref a]) (.cons rfl .nil) h) (fun u s' q => ?_) fun _ _ z => z
  obtain ⟨v, H', I', rv, n, rfl, hn, q⟩ := q
  obtain ⟨t, rfl⟩ := (show ∃ t, u = Value.int n t from rv)
  exact ⟨hn, .int n, H', I'.tok _, ⟨_, rfl⟩, q⟩
end
end My

namespace My
open PySem L2
/-! sets of texts: made of a dict, then sorted -/
/-- at a an exact set of just the texts L -/
def SetSR (P : Program) (w : World) (h : Heap) (a : Addr) (L : List Str) : Prop := ∃ (o : Obj) (es : Array (Int × Value)) (ep : Nat) (t : SetTable) (ks : List Str), h.get? a = some o ∧ o.ExactSet ∧ o.data = Data.set es ep t ∧ ElemsOf (mixKind P w) es.toList ∧
  Vals (ks.map V.str) (es.toList.map (·.2)) ∧ ks.Perm L ∧ es.size < scanBound ∧ t.fits es.size = true ∧ Ris t.place.toList ∧ (w.params.followText "set-order" = true ∨ t.led = true)
theorem vals_strs : ∀ {ks : List Str} {us : List Value}, Vals (ks.map V.str) us → ∀ u ∈ us, ∃ k ∈ ks, ∃ tk, u = Value.str k tk
  | [], _, .nil, _, h => by cases h
  | k :: r, _, .cons e h, u, hu => by
    rcases List.mem_cons.mp hu with z | z
    · obtain ⟨tk, e⟩ := (show ∃ tk, _ = Value.str k tk from e)
      exact ⟨k, List.mem_cons_self, tk, z.trans e⟩
    · obtain ⟨k', h1, h2⟩ := vals_strs h u z
      exact ⟨k', List.mem_cons_of_mem _ h1, h2⟩
theorem vals_perm {us us' : List Value} (p : us'.Perm us) : ∀ {ks : List Str}, Vals (ks.map V.str) us → ∃ ks' : List Str, ks'.Perm ks ∧ Vals (ks'.map V.str) us' := by
  induction p with
  | nil => exact fun {ks} h => ⟨ks, .refl _, h⟩
  | cons x _ ih =>
    intro ks h
    match ks, h with
    | k :: r, .cons e h =>
      obtain ⟨ks', p', h'⟩ := ih h
      exact ⟨k :: ks', p'.cons k, .cons e h'⟩
  | swap x y l =>
    intro ks h
    match ks, h with
    | k :: j :: r, .cons e (.cons e2 h) => exact ⟨j :: k :: r, .swap k j r, .cons e2 (.cons e h)⟩
  | trans _ _ i1 i2 =>
    intro ks h
    obtain ⟨k1, p1, h1⟩ := i2 h
    obtain ⟨k2, p2, h2⟩ := i1 h1
    exact ⟨k2, p2.trans p1, h2⟩
theorem find_none {P : Program} {w : World} {ks : List Str} {k : Str} {es : List (Int × Value)} (hv : Vals (ks.map V.str) (es.map (·.2))) (hk : k ∉ ks) : List.findIdx? (fun e => (mixKind P w).is (Sum.inr k) e.2) es = none := by
  rw [List.findIdx?_eq_none_iff]
  intro e he
  obtain ⟨j, hj, tk, ej⟩ := vals_strs hv e.2 (List.mem_map.mpr ⟨e, he, rfl⟩)
  show Value.isStrOf k e.2 = false
  rw [ej]
  show (j == k) = false
  exact beq_eq_false_iff_ne.mpr fun z => hk (z ▸ hj)
theorem SetSR.store {P : Program} {w : World} {h : Heap} {a : Addr} {o : Obj} {es es' : Array (Int × Value)} {ep : Nat} {t t' : SetTable} {ks L : List Str} (ho : h.get? a = some o) (hex : o.ExactSet) (hd : o.data = Data.set es ep t) (hel : ElemsOf (mixKind P w) es'.toList)
    (hv : Vals (ks.map V.str) (es'.toList.map (·.2))) (hp : ks.Perm L) (hb : es'.size < scanBound) (hf : t'.fits es'.size = true) (hr : Ris t'.place.toList) (hl : w.params.followText "set-order" = true ∨ t'.led = true) : SetSR P w (h.update a (Obj.putSet es' t')) a L :=
  ⟨_, es', ep + 1, t', ks, store_at ho hd, hex, rfl, hel, hv, hp, hb, hf, hr, hl⟩
theorem elems_perm {P : Program} {w : World} {xs ys : List (Int × Value)} (p : xs.Perm ys) (h : ElemsOf (mixKind P w) ys) : ElemsOf (mixKind P w) xs := fun e he => h e (p.mem_iff.mp he)
theorem setS_tail {P : Program} {w : World} {A : Around} {E : Value → Shared → Prop} {s : Shared} {a : Addr} {g : Bool → Sem Unit} (hg : ∀ (b : Bool) (s₁ : Shared) (Q' : Unit → Shared → Prop), Q' () s₁ → wpAny (model P w) A (g b) Q' E s₁)
    {o : Obj} {es : Array (Int × Value)} {ep : Nat} {t : SetTable} (ho : s.heap.get? a = some o) (hex : o.ExactSet) (hd : o.data = Data.set es ep t) {es1 : Array (Int × Value)} {t2 : SetTable} {ks L : List Str} (hel : ElemsOf (mixKind P w) es1.toList)
    (hv : Vals (ks.map V.str) (es1.toList.map (·.2))) (hp : ks.Perm L) (hb : es1.size < scanBound) (hf : t2.fits es1.size = true) (hr : Ris t2.place.toList) (hl : w.params.followText "set-order" = true ∨ t2.led = true) {wasDummy : Bool} {R : Option Bool → Shared → Prop}
    (hQ : ∀ h' : Heap, Heap.SameBut a s.heap h' → SetSR P w h' a L → R (some true) { s with heap := h' }) :
    wpAny (model P w) A (do
      storeSet a es1 t2
      if (!wasDummy && t2.tooFull) = true then do
        g (relayAll t2 es1 (SetTable.grown es1.size)).2.2
        storeSet a (relayAll t2 es1 (SetTable.grown es1.size)).1 (relayAll t2 es1 (SetTable.grown es1.size)).2.1
        pure (some true)
      else pure (some true)) R E s := by
  have sb : es1.size ≤ sizeLine := Nat.le_trans (Nat.le_of_lt hb) (by decide)
  refine wpAny_bind (wpAny_storeSet_of ho hd ?_ sb)
  split
  · refine wpAny_bind (hg _ _ _ ?_)
    have p1 := relayAll_perm t2 es1 (SetTable.grown es1.size)
    have l1 : (relayAll t2 es1 (SetTable.grown es1.size)).1.size = es1.size := by
      have := p1.length_eq
      rwa [Array.length_toList, Array.length_toList] at this
    obtain ⟨ks', pk, hv'⟩ := vals_perm (p1.map (·.2)) hv
    refine wpAny_bind (wpAny_storeSet_of (store_at ho hd) rfl ?_ (by rw [l1]; exact sb))
    refine wpAny_pure ?_
    have R1 := SetSR.store (P := P) (w := w) (L := L) (store_at (es' := es1) (t' := t2) ho hd) hex rfl (elems_perm p1 hel) hv' (pk.trans hp) (by rw [l1]; exact hb) (relayAll_fits _ _ _) (relayAll_ris _ _ _) (by rw [relayAll_led]; exact hl)
    exact hQ _ ((Heap.SameBut.update _ _ _).trans (Heap.SameBut.update _ _ _)) R1
  · refine wpAny_pure ?_
    exact hQ _ (Heap.SameBut.update _ _ _) (SetSR.store ho hex hd hel hv hp hb hf hr hl)

theorem setS_add {P : Program} {w : World} {A : Around} {E : Value → Shared → Prop} {s : Shared} {a : Addr} {L : List Str} {k : Str} {tk : Tok} {Q : Bool → Shared → Prop} (R : SetSR P w s.heap a L) (hk : k ∉ L) (room : L.length + 1 < scanBound)
    (hQ : ∀ h' : Heap, Heap.SameBut a s.heap h' → SetSR P w h' a (k :: L) → Q true { s with heap := h' }) : wpAny (model P w) A (setAddHashed a (.str k tk) ((mixKind P w).hash (Sum.inr k))) Q E s := by
  obtain ⟨o, es, ep, t, ks, ho, hex, hd, hel, hv, hp, hb, hf, hr, hl⟩ := R
  have hkey : (mixKind P w).is (Sum.inr k) (Value.str k tk) = true := by show (k == k) = true; exact beq_self_eq_true k
  have hsc : (Value.str k tk).scannable = true := rfl
  have hk' : k ∉ ks := fun z => hk (hp.mem_iff.mp z)
  have le : es.size = L.length := by
    have h1 := Paired.len hv
    have h2 : (ks.map V.str).length = L.length := by rw [List.length_map, hp.length_eq]
    have h3 : (es.toList.map (·.2)).length = es.size := by rw [List.length_map, Array.length_toList]
    omega
  have w1 := layNew_fits t es ((mixKind P w).hash (Sum.inr k)) (Value.str k tk)
  have w2 := layNew_perm t es ((mixKind P w).hash (Sum.inr k)) (Value.str k tk)
  have w3 := layNew_ris t es ((mixKind P w).hash (Sum.inr k)) (Value.str k tk) hr
  have w4 := layNew_led t es ((mixKind P w).hash (Sum.inr k)) (Value.str k tk)
  show wpAny (model P w) A (holding [Value.str k tk] do setAddHashedIn a (.str k tk) ((mixKind P w).hash (Sum.inr k)) (99999 + 1)) Q E s
  rw [setAddHashedIn_succ]
  refine wpAny_holding (wpAny_bind (wpAny_setState_of ho hd hf ?_))
  show wpAny (model P w) _ (if byScan (Value.str k tk) es = true then _ else _) _ _ _
  rw [if_pos (byScan_of hsc hb hel)]
  refine wpAny_bind ?_
  unfold setAddByScan
  refine wpAny_bind (wpAny_rule ?_)
  refine wpAny_bind (wpAny_setScan_of (knd := mixKind P w) (k := Sum.inr k) hkey ho hd hf hel ?_)
  rw [find_none hv hk']
  generalize layNew t es ((mixKind P w).hash (Sum.inr k)) (Value.str k tk) = r at w1 w2 w3 w4 ⊢
  obtain ⟨es1, t1, wd, gv⟩ := r
  replace w1 : t1.fits es1.size = true := w1
  replace w2 : es1.toList.Perm (es.push ((mixKind P w).hash (Sum.inr k), Value.str k tk)).toList := w2
  replace w3 : Ris t1.place.toList := w3
  replace w4 : t1.led = t.led := w4
  have l1 : es1.size = es.size + 1 := by
    have := w2.length_eq
    rwa [Array.length_toList, Array.length_toList, Array.size_push] at this
  have p2 : es1.toList.Perm (es.toList ++ [((mixKind P w).hash (Sum.inr k), Value.str k tk)]) := by rw [Array.toList_push] at w2; exact w2
  have el1 : ElemsOf (mixKind P w) es1.toList := elems_perm p2 fun e he => by
    rcases List.mem_append.mp he with z | z
    · exact hel e z
    · rw [List.mem_singleton.mp z]
      exact ⟨⟨Sum.inr k, hkey, rfl⟩, hsc⟩
  have v0 : Vals ((ks ++ [k]).map V.str) ((es.toList ++ [((mixKind P w).hash (Sum.inr k), Value.str k tk)]).map (·.2)) := by
    rw [List.map_append, List.map_append]
    exact hv.append (.cons ⟨tk, rfl⟩ .nil)
  obtain ⟨ks', pk, hv'⟩ := vals_perm (p2.map (·.2)) v0
  have pk' : ks'.Perm (k :: L) := pk.trans ((List.perm_append_singleton k ks).trans (hp.cons k))
  have hb1 : es1.size < scanBound := by omega
  have hl1 : w.params.followText "set-order" = true ∨ t1.led = true := by rw [w4]; exact hl
  refine wpAny_bind ?_
  cases gv
  case' true => refine (wpAny_rule ?_)
  case' false => refine (wpAny_pure ?_)
  all_goals
    show wpAny (model P w) A (if t1.plain = true then _ else _) _ _ _
    split
    case' isTrue => refine wpAny_bind (wpAny_pure ?_)
    case' isTrue => exact setS_tail (t2 := { t1 with plain := false }) (wasDummy := wd) (fun b s₁ Q' h => by cases b; exact wpAny_pure h; exact wpAny_rule h) ho hex hd el1 hv' pk' hb1 (SetTable.fits_plain_off w1) w3 hl1 fun h' sb R' => wpAny_pure (hQ h' sb R')
    case' isFalse => refine wpAny_bind (wpAny_pure ?_)
    case' isFalse => exact setS_tail (t2 := t1) (wasDummy := wd) (fun b s₁ Q' h => by cases b; exact wpAny_pure h; exact wpAny_rule h) ho hex hd el1 hv' pk' hb1 w1 w3 hl1 fun h' sb R' => wpAny_pure (hQ h' sb R')
end My

namespace My
open PySem L2
theorem SetTR.to_s {P : Program} {w : World} {s : Shared} {a : Addr} {es : Array (Int × Value)} {ep : Nat} {t : SetTable} (R : SetTR P w s.heap a [] es ep t) : SetSR P w s.heap a [] := by
  obtain ⟨o, ho, hex, hd⟩ := R.ob
  have he : es.toList = [] := R.rows
  have h0 : es.size = 0 := by rw [← Array.length_toList, he]; rfl
  refine ⟨o, es, ep, t, [], ho, hex, hd, ?_, ?_, .refl _, ?_, R.fits, R.tab.ris, R.led⟩
  · rw [he]
    intro e z
    cases z
  · rw [he]
    exact .nil
  · rw [h0]
    decide
def relOk (led : Bool) (n : Nat) : Bool := match (SetTable.fresh 0 0 led).relaid #[] (n * 2) with
  | some (t', order) => decide (t'.place = #[] ∧ t'.dummies = #[] ∧ t'.led = led ∧ order = #[]) && decide (SetTable.sizeAbove (n * 2) ≤ 1000)
  | none => false
theorem relOk_all : ∀ led : Bool, ∀ n, n < 31 → relOk led n = true := by decide +kernel
theorem relaid0 (led : Bool) {n : Nat} (h : n < 31) : ∃ t' : SetTable, (SetTable.fresh 0 0 led).relaid #[] (n * 2) = some (t', #[]) ∧ t'.place = #[] ∧ t'.dummies = #[] ∧ t'.led = led ∧ SetTable.sizeAbove (n * 2) ≤ 1000 := by
  have e := relOk_all led n h
  unfold relOk at e
  split at e
  · rename_i t' order q
    rw [Bool.and_eq_true] at e
    obtain ⟨h1, h2, h3, h4⟩ := of_decide_eq_true e.1
    subst h4
    exact ⟨t', q, h1, h2, h3, of_decide_eq_true e.2⟩
  · cases e
theorem set_room {P : Program} {w : World} {A : Around} {E : Value → Shared → Prop} {s : Shared} {a : Addr} {n : Nat} {Q : Unit → Shared → Prop} (ho : s.heap.get? a = some { cls := Value.type "set", data := Data.set #[] 0 (SetTable.fresh 0 0 !w.params.followText "set-order") }) (hn : n ≤ 30)
    (hQ : ∀ h' : Heap, Heap.SameBut a s.heap h' → SetSR P w h' a [] → Q () { s with heap := h' }) : wpAny (model P w) A (setRoomFor a n) Q E s := by
  have R := setTR_fresh (P := P) (w := w) ho
  unfold setRoomFor
  refine wpAny_bind (wpAny_setState_of ho rfl R.fits ?_)
  have e : (SetTable.fresh 0 0 !w.params.followText "set-order").roomFor n = if (0 + n) * 5 ≥ 7 * 3 then some ((0 + n) * 2) else none := rfl
  rw [show ((#[], 0, SetTable.fresh 0 0 !w.params.followText "set-order") : Array (Int × Value) × Nat × SetTable).snd.snd.roomFor n = if (0 + n) * 5 ≥ 7 * 3 then some ((0 + n) * 2) else none from rfl]
  by_cases c : (0 + n) * 5 ≥ 7 * 3
  · rw [if_pos c, Nat.zero_add]
    obtain ⟨t', h1, h2, h3, h4, h5⟩ := relaid0 (!w.params.followText "set-order") (show n < 31 by omega)
    show wpAny (model P w) A (setRelay a (n * 2)) Q E s
    rw [setRelay_eq]
    refine wpAny_bind (wpAny_setState_of ho rfl R.fits ?_)
    have big : ¬ SetTable.sizeAbove (n * 2) > sizeLine := fun z => by
      have : 1000 ≤ sizeLine := by decide
      omega
    show wpAny (model P w) A (if SetTable.sizeAbove (n * 2) > sizeLine then _ else _) Q E s
    rw [if_neg big]
    refine wpAny_bind ?_
    rw [show (Array.map (fun x : Int × Value => x.fst) #[]) = #[] from by simp, h1]
    refine wpAny_pure ?_
    refine wpAny_storeSet_of ho rfl ?_ (by decide)
    refine hQ _ (Heap.SameBut.update _ _ _) (SetSR.store (ks := []) ho ⟨rfl, rfl, rfl⟩ rfl (fun e z => by cases z) .nil (.refl _) (by decide) ?_ (by rw [h2]; exact List.Pairwise.nil) ?_)
    · unfold SetTable.fits SetTable.fill
      rw [h2, h3]
      show (true && decide (0 + 0 ≤ t'.mask)) = true
      rw [Bool.true_and]
      exact decide_eq_true (by omega)
    · rw [h4]
      cases w.params.followText "set-order"
      · exact .inr rfl
      · exact .inl rfl
  · rw [if_neg c]
    exact wpAny_pure (hQ s.heap ⟨rfl, fun _ _ => rfl⟩ (SetTR.to_s R))
theorem for_range0 {M : Model} {A : Around} {E : Value → Shared → Prop} {f : Nat → PUnit → Sem (ForInStep PUnit)} (I : Nat → Shared → Prop) (n : Nat) (h : ∀ i s, i < n → I i s → wpAny M A (f i ⟨⟩) (fun r s' => r = .yield ⟨⟩ ∧ I (i + 1) s') E s) {Q : PUnit → Shared → Prop} (hQ : ∀ s, I n s → Q ⟨⟩ s) : ∀ (k i : Nat), i + k = n → ∀ s, I i s → wpAny M A (forIn (List.range' i k) PUnit.unit f) Q E s
  | 0, i, e, s, hi => by
    have : i = n := e
    subst this
    exact wpAny_pure (hQ s hi)
  | k + 1, i, e, s, hi => by
    rw [List.range'_succ, List.forIn_cons]
    refine wpAny_bind (wpAny_mono (h i s (by omega) hi) ?_ fun _ _ z => z)
    rintro r s' ⟨rfl, hi'⟩
    exact for_range0 I n h hQ k (i + 1) (by omega) s' hi'
theorem for_range {M : Model} {A : Around} {E : Value → Shared → Prop} {f : Nat → PUnit → Sem (ForInStep PUnit)} {n : Nat} {s : Shared} {Q : PUnit → Shared → Prop} (I : Nat → Shared → Prop) (h0 : I 0 s) (h : ∀ i s, i < n → I i s → wpAny M A (f i ⟨⟩) (fun r s' => r = .yield ⟨⟩ ∧ I (i + 1) s') E s)  (hQ : ∀ s, I n s → Q ⟨⟩ s) :
    wpAny M A (forIn ([0:n] : Std.Legacy.Range) PUnit.unit f) Q E s := by
  rw [Std.Legacy.Range.forIn_eq_forIn_range']
  have e : ([0:n] : Std.Legacy.Range).size = n := by simp [Std.Legacy.Range.size]
  show wpAny M A (forIn (List.range' 0 ([0:n] : Std.Legacy.Range).size 1) PUnit.unit f) Q E s
  rw [e]
  exact for_range0 I n h hQ n 0 (Nat.zero_add n) s h0
theorem pairs_at {P : Program} {w : World} : ∀ {es : List DictEntry} {kvs : List (Key × Value)}, Pairs (mixKind P w) es kvs → es.length = kvs.length ∧ ∀ (i : Nat) (e : DictEntry), es[i]? = some e → ∃ kv, kvs[i]? = some kv ∧ (mixKind P w).is kv.1 e.key = true
  | _, _, .nil => ⟨rfl, fun i e z => by simp at z⟩
  | _, _, .cons (e := e0) (kv := kv0) h _ r => by
    obtain ⟨h1, h2⟩ := pairs_at r
    refine ⟨by rw [List.length_cons, List.length_cons, h1], fun i e z => ?_⟩
    cases i with
    | zero =>
      have z := Option.some.inj z
      subst z
      exact ⟨kv0, rfl, h⟩
    | succ j => exact h2 j e z
theorem SetSR.perm {P : Program} {w : World} {h : Heap} {a : Addr} {L L' : List Str} (R : SetSR P w h a L) (p : L.Perm L') : SetSR P w h a L' := by
  obtain ⟨o, es, ep, t, ks, ho, hex, hd, hel, hv, hp, hb, hf, hr, hl⟩ := R
  exact ⟨o, es, ep, t, ks, ho, hex, hd, hel, hv, hp.trans p, hb, hf, hr, hl⟩
theorem key_str {P : Program} {w : World} {k : Str} {v : Value} (h : (mixKind P w).is (Sum.inr k) v = true) : ∃ tk, v = .str k tk := by
  have h : Value.isStrOf k v = true := h
  unfold Value.isStrOf at h
  split at h
  · exact ⟨_, by rw [eq_of_beq h]⟩
  · cases h
theorem upd_dict {P : Program} {w : World} {A : Around} {E : Value → Shared → Prop} {s : Shared} {a d : Addr} {m : List Str} {kvs : List (Key × Value)} {Q : Unit → Shared → Prop} (ho : s.heap.get? a = some { cls := Value.type "set", data := Data.set #[] 0 (SetTable.fresh 0 0 !w.params.followText "set-order") }) (hd : Heap.DictOf (mixKind P w) s.heap d kvs) (hm : kvs.map (·.1) = m.map Sum.inr) (hn : kvs.length ≤ 30) (hs : (d == sysModules) = false) (hne : d ≠ a)
    (hQ : ∀ h' : Heap, Heap.SameBut a s.heap h' → SetSR P w h' a m → Q () { s with heap := h' }) : wpAny (model P w) A (Builtin.Frozenset.updateFrom "set.__init__" a (.ref d)) Q E s := by
  obtain ⟨o, es, ep, h1, hex, h2, hk, hp, nd⟩ := hd
  unfold Builtin.Frozenset.updateFrom
  have td : s.TypeIs (.ref d) "dict" := ⟨o, h1, hex.1⟩
  refine wpAny_bind ?_
  unfold Builtin.Frozenset.isAnySet
  refine wpAny_bind (wpAny_isInstance td F.sub_dict_set ?_)
  refine wpAny_isInstance td F.sub_dict_frozenset ?_
  rw [if_neg (by decide)]
  refine wpAny_bind (wpAny_typeOf td ?_)
  rw [if_pos (by decide)]
  refine wpAny_bind (wpAny_rule ?_)
  refine wpAny_bind (wpAny_pure ?_)
  rw [if_neg (by rw [hs]; decide)]
  refine wpAny_bind (wpAny_dictEpoch h1 h2 ?_)
  refine wpAny_bind (wpAny_dictEntries h1 h2 ?_)
  obtain ⟨le, at_⟩ := pairs_at hp
  have lm : kvs.length = m.length := by
    have := congrArg List.length hm
    rwa [List.length_map, List.length_map] at this
  have ls : es.size = m.length := by rw [← Array.length_toList, le, lm]
  have ndm : m.Nodup := by
    rw [hm] at nd
    exact List.Pairwise.of_map Sum.inr (fun _ _ q z => q (by rw [z])) nd
  refine wpAny_bind (set_room ho (by omega) fun h' sb R => ?_)
  have hd0 : ∀ h' : Heap, Heap.SameBut a s.heap h' → h'.get? d = some o := fun h' sb => by rw [sb.2 d hne]; exact h1
  refine wpAny_bind (wpAny_dictEntries (hd0 h' sb) h2 ?_)
  refine wpAny_bind (for_range (fun i u => ∃ h' : Heap, u = { s with heap := h' } ∧ Heap.SameBut a s.heap h' ∧ SetSR P w h' a (m.take i)) ⟨h', rfl, sb, R⟩ ?_ ?_)
  · rintro i u hi ⟨h2', rfl, sb', R'⟩
    have hi' : i < m.length := by rw [← ls]; exact hi
    refine wpAny_bind (wpAny_dictEntries (hd0 h2' sb') h2 ?_)
    rw [Array.getElem?_eq_getElem hi]
    obtain ⟨kv, hkv, hk1⟩ := at_ i es[i] (by rw [Array.getElem?_toList, Array.getElem?_eq_getElem hi])
    have ek : kv.1 = Sum.inr m[i] := by
      have e1 : (kvs.map (·.1))[i]? = some kv.1 := by rw [List.getElem?_map, hkv]; rfl
      rw [hm, List.getElem?_map, List.getElem?_eq_getElem hi'] at e1
      exact (Option.some.inj e1).symm
    rw [ek] at hk1
    obtain ⟨tk, et⟩ := key_str hk1
    obtain ⟨k, hk2, hh⟩ := hk es[i] (Array.getElem_mem hi)
    have e3 : k = Sum.inr m[i] := (mixKind P w).inj _ _ _ hk2 hk1
    rw [e3] at hh
    have nin : m[i] ∉ m.take i := fun z => by
      obtain ⟨j, hj, e⟩ := List.mem_iff_getElem.mp z
      rw [List.length_take] at hj
      rw [List.getElem_take] at e
      have := (List.pairwise_iff_getElem.mp ndm) j i (by omega) hi' (by omega)
      exact this e
    show wpAny (model P w) A (do
      let _ ← holding [es[i].key] (setAddHashed a es[i].key es[i].hash)
      let __do_lift ← dictEpoch d
      if (__do_lift != ep) = true then do
        unsupported (toString "set.__init__" ++ toString ":changed-during-callback")
        pure (ForInStep.yield PUnit.unit)
      else pure (ForInStep.yield PUnit.unit)) _ _ _
    rw [et, hh]
    refine wpAny_bind (wpAny_holding (setS_add R' nin (by rw [List.length_take]; have : scanBound = 4096 := rfl; omega) fun h3 sb3 R3 => ?_))
    have sb4 : Heap.SameBut a s.heap h3 := ⟨sb3.1.trans sb'.1, fun b n => (sb3.2 b n).trans (sb'.2 b n)⟩
    refine wpAny_bind (wpAny_dictEpoch (hd0 h3 sb4) h2 ?_)
    rw [if_neg (by simp)]
    refine wpAny_pure ⟨rfl, h3, rfl, sb4, R3.perm ?_⟩
    rw [List.take_add_one, List.getElem?_eq_getElem hi']
    exact (List.perm_append_singleton _ _).symm
  · rintro u ⟨h3, rfl, sb3, R3⟩
    refine wpAny_pure (hQ h3 sb3 (R3.perm ?_))
    rw [ls, List.take_length]
end My

namespace My
open PySem L2
theorem call_set_dict {P : Program} {w : World} {A : Around} {E : Value → Shared → Prop} {s : Shared} {d : Addr} {m : List Str} {kvs : List (Key × Value)} {Q : Value → Shared → Prop} (hd : Heap.DictOf (mixKind P w) s.heap d kvs) (hm : kvs.map (·.1) = m.map Sum.inr) (hn : kvs.length ≤ 30) (hs : (d == sysModules) = false)
    (hQ : ∀ (h' : Heap), (∀ (b : Addr) (o : Obj), s.heap.get? b = some o → h'.get? b = some o) → SetSR P w h' s.heap.objs.size m → Q (.ref s.heap.objs.size) { s with heap := h' }) : wpAny (model P w) A (call (Value.type "set") [.ref d]) Q E s := by
  obtain ⟨o, es, ep, h1, hex, hrest⟩ := id hd
  have ltd : d < s.heap.objs.size := Heap.lt_size h1
  obtain ⟨c, tl, hmro⟩ := F.called_set.mro
  refine wpAny_call (codeAny_of_tree ?_)
  refine wpAny_pure ⟨Code.quiet_builtin _ (by decide +kernel), codeAny_builtin F.entry_type_call ?_⟩
  rw [Around.under_plain (weight_type_call_type "set" [Value.ref d] []) rfl]
  have hcan : decide (((Manifest.find? "set").bind fun x => List.findSome? (fun t => (Manifest.find? t).bind fun b => if b.noNew = true then some true else if (b.attrs.any fun x => x.fst == "__new__") = true then some false else none) x.mro).getD false = true) = false := by rw [F.called_set.canCreate]; rfl
  unfold Builtin.«type.__call__»
  refine wpAny_ite_false (show decide ((Value.type "set" == Value.type "type") = true) = false from rfl) ?_
  refine wpAny_ite_false hcan ?_
  refine wpAny_bind (wpAny_of_eq (F.typeCall_set_1 _) ?_)
  refine wpAny_bind (wpAny_of_eq hmro ?_)
  refine wpAny_ite_false rfl ?_
  refine wpAny_bind (wpAny_of_eq F.called_set.made ?_)
  refine wpAny_bind (wpAny_pure ?_)
  refine wpAny_bind (wpAny_holding (wpAny_call (codeAny_mono (code_set_led1 (E := fun _ _ => False) (Q₁ := fun obj s₁ => obj = .ref s.heap.objs.size ∧ s₁ = { s with heap := s.heap.push { cls := Value.type "set", data := Data.set #[] 0 (SetTable.fresh 0 0 !w.params.followText "set-order") } }) _ ⟨rfl, rfl⟩) ?_)))
  intro r s₁ hr
  cases r with
  | error e => exact hr.elim
  | ok fl =>
    cases fl with
    | next => exact hr.elim
    | brk => exact hr.elim
    | cont => exact hr.elim
    | ret v =>
      obtain ⟨rfl, rfl⟩ := hr
      have hnew := Heap.get?_push_size s.heap (o := { cls := Value.type "set", data := Data.set #[] 0 (SetTable.fresh 0 0 !w.params.followText "set-order") }) rfl
      have td := (⟨_, hnew, rfl⟩ : Shared.TypeIs { s with heap := s.heap.push { cls := Value.type "set", data := Data.set #[] 0 (SetTable.fresh 0 0 !w.params.followText "set-order") } } (Value.ref s.heap.objs.size) "set")
      refine wpAny_bind (wpAny_isInstance td F.called_set.sub ?_)
      refine wpAny_ite_false (show decide ((!true) = true) = false from rfl) ?_
      refine wpAny_bind (wpAny_holding (wpAny_callSpecial?_slot td F.called_set.init ?_))
      refine wpAny_call (codeAny_call_builtin F.called_set.init.plain F.entry_set_init (check_set_init_1 td ?_))
      unfold Builtin.«set.__init__»
      have R := setTR_fresh (P := P) (w := w) hnew
      refine wpAny_bind (wpAny_pure ?_)
      refine wpAny_bind ?_
      unfold typeNameOfCut
      refine wpAny_bind ?_
      unfold shownTypeOf
      refine wpAny_bind (wpAny_typeOf td ?_)
      refine wpAny_ite_false (show decide ((Value.type "set" == Value.type "builtin_function_or_method") = true) = false from rfl) ?_
      refine wpAny_pure ?_
      refine wpAny_pure ?_
      refine wpAny_bind (wpAny_pure ?_)
      refine wpAny_bind (wpAny_pure ?_)
      refine wpAny_bind (wpAny_bind (wpAny_setState_of hnew rfl (SetTR.fits (s := { s with heap := s.heap.push { cls := Value.type "set", data := Data.set #[] 0 (SetTable.fresh 0 0 !w.params.followText "set-order") } }) R) (wpAny_pure ?_)))
      refine wpAny_ite_false (show decide (((SetTable.fresh 0 0 !w.params.followText "set-order").fill != 0) = true) = false from rfl) ?_
      have hd' : Heap.DictOf (mixKind P w) (s.heap.push { cls := Value.type "set", data := Data.set #[] 0 (SetTable.fresh 0 0 !w.params.followText "set-order") }) d kvs := ⟨o, es, ep, Heap.get?_push_of_some _ h1, hex, hrest⟩
      refine wpAny_bind (upd_dict (s := { s with heap := s.heap.push { cls := Value.type "set", data := Data.set #[] 0 (SetTable.fresh 0 0 !w.params.followText "set-order") } }) hnew hd' hm hn hs (Nat.ne_of_lt ltd) fun h' sb R' => ?_)
      refine wpAny_pure ?_
      refine wpAny_pure ?_
      refine hQ h' (fun b u e => ?_) R'
      rw [sb.2 b (Nat.ne_of_lt (Heap.lt_size e))]
      exact Heap.get?_push_of_some _ e
end My

namespace My
open PySem L2
theorem sorted_setS {P : Program} {w : World} {A : Around} {E : Value → Shared → Prop} {s : Shared} {a : Addr} {L : List Str} {Q : Value → Shared → Prop} (R : SetSR P w s.heap a L) (hh : A.handled = none) (hn : L.length < 64)
    (hQ : ∀ (s' : Shared) (p : Nat) (out : Array Value) (c : Nat) (ys : List Str), (∀ (b : Addr) (o : Obj), s.heap.get? b = some o → s'.heap.get? b = some o) → s'.gens = s.gens → s'.os = s.os → s.heap.objs.size ≤ p → s'.heap.get? p = some (PyProof.Rows.seqObj "list" out c) →
      Vals (ys.map V.str) out.toList → ys.Perm L → PyProof.Rows.sortedS ys = true → Q (.ref p) s') : wpAny (model P w) A (call (Value.builtin "sorted") [.ref a]) Q E s := by
  obtain ⟨o, es, ep, t, ks, ho, hex, hd, hel, hv, hp, hb, hf, hr, hl⟩ := R
  refine Calls.call_function_entry PyProof.Rows.kind_sorted PyProof.Rows.plain_sorted PyProof.Rows.entry_sorted (PyProof.Rows.args_sorted1 (Value.ref a)) ?_
  refine wpAny_bind (wpAny_pure ?_)
  refine wpAny_bind (collect_set hh ⟨o, ho, hex.1, hd⟩ hf hb hr hl fun s1 vs k1 hz g1 o1 pm => ?_)
  obtain ⟨ks', pk, hv'⟩ := vals_perm pm hv
  have lv : vs.length = L.length := by
    have h1 := Paired.len hv'
    rw [List.length_map] at h1
    rw [← h1, pk.length_eq, hp.length_eq]
  have h64 : vs.length < 64 := by omega
  have hsl : vs.length ≤ sizeLine := sz (by omega)
  refine wpAny_bind (wpAny_newList ?_ hsl)
  have hoL := Heap.get?_push_size s1.heap (o := PyProof.Rows.seqObj "list" vs.toArray 0) rfl
  have hS := Vals.strs hv'
  refine wpAny_bind (wpAny_holding (wpAny_call_entry (rest := []) PyProof.Rows.slot_list_sort ⟨_, hoL, rfl⟩ PyProof.Rows.entry_list_sort (PyProof.Rows.list_sort_treeK PyProof.Rows.strKind_oneLt hoL (PyProof.Rows.StrsAre.keysOf hS) (fun v₁ v₂ rest e => PyProof.Rows.keyKind_strs (by rw [← e]; exact hS)) h64 fun st' hp' hs' => ?_) (PyProof.Rows.args_list_sort _)))
  obtain ⟨ys, g1', g2, g3⟩ := PyProof.Rows.sorted_out_str hS hp' hs'
  obtain ⟨c, hc⟩ := PyProof.Rows.sortedHeap_at (out := Array.map (fun x => x.snd) (PyProof.Rows.arrOf st')) hoL
  refine ⟨_, rfl, ?_⟩
  refine wpAny_pure ⟨_, rfl, ?_⟩
  refine hQ _ s1.heap.objs.size _ c ys (fun b u e => ?_) g1 o1 hz hc (vals_of_strs g1') (g2.trans (pk.trans hp)) g3
  have q := k1 b u e
  have hlt := Heap.lt_size q
  show (PyProof.Rows.sortedHeap _ _ _ _).get? b = some u
  rw [PyProof.Rows.sortedHeap_old (Nat.ne_of_lt hlt) (by rw [PyProof.Rows.size_push']; exact Nat.lt_succ_of_lt hlt)]
  exact Heap.get?_push_of_some _ q
/-- a set of just the texts L -/
def SetSO (P : Program) (w : World) (a : Addr) (L : List Str) : HO := .ext fun h => SetSR P w h a L
theorem setSO_new {P : Program} {w : World} {H : Hp} {h : Heap} {a : Addr} {L : List Str} (R : SetSR P w h a L) : ObjOk P w H h a (SetSO P w a L) := by
  refine ⟨R, ?_, ?_⟩
  · obtain ⟨o, es, ep, t, ks, ho, _⟩ := R
    exact ⟨o, ho⟩
  · rintro h1 h2 ⟨o, es, ep, t, ks, ho, r⟩ k
    exact ⟨o, es, ep, t, ks, k o ho, r⟩
def rSetD (P : Program) (w : World) : List V → Hp → VK → Prop := fun xs H Q => ∃ (d : Addr) (kvs : List (Key × V)) (ks : List Str), xs = [.ref d] ∧ H d = some (.dK kvs) ∧ kvs.map (·.1) = ks.map Sum.inr ∧ kvs.length ≤ 30 ∧ ∀ a, H a = none → Q (.ref a) (upd H a (SetSO P w a ks))
theorem kv_keys {κ : Type} : ∀ {kvs : List (κ × V)} {vs : List (κ × Value)}, KV kvs vs → vs.map (·.1) = kvs.map (·.1)
  | _, _, .nil => rfl
  | _, _, .cons h r => by
    rw [List.map_cons, List.map_cons, kv_keys r, h.1]
theorem cr_setD {X : Cx} : CallR X (.type "set") (rSetD X.prog X.w) := by
  intro pins s σ H xs us Q I r h
  obtain ⟨d, kvs, ks, rfl, hd, hk, hn, q⟩ := h
  obtain ⟨u, rfl, ru⟩ := vals1 r
  cases ru
  obtain ⟨hz, hs, vs, kv, dof⟩ := (show kvs.length ≤ sizeLine ∧ (d == sysModules) = false ∧ ∃ vs, KV kvs vs ∧ Heap.DictOf (mixKind X.prog X.w) s.heap d vs from I.hok d _ hd)
  have e1 := kv_keys kv
  have e2 : vs.length = kvs.length := by
    have := congrArg List.length e1
    rwa [List.length_map, List.length_map] at this
  refine call_set_dict dof (e1.trans hk) (by omega) hs fun h' k R => ?_
  have hnw := HOk.fresh I.hok (Nat.le_refl s.heap.objs.size)
  exact ⟨.ref s.heap.objs.size, _, Inv.laid I k (Nat.le_refl _) (setSO_new R), rfl, q _ hnw⟩
def rSortedSet' (P : Program) (w : World) : List V → Hp → VK → Prop := fun xs H Q => ∃ (a : Addr) (L : List Str), xs = [.ref a] ∧ H a = some (SetSO P w a L) ∧ L.length < 64 ∧ ∀ (ys : List Str) (p : Addr), ys.Perm L → PyProof.Rows.sortedS ys = true → H p = none → Q (.ref p) (upd H p (.lst (ys.map V.str)))
theorem cr_sortedSO {X : Cx} (hc : X.calm = true) : CallR X (.builtin "sorted") (rSortedSet' X.prog X.w) := by
  intro pins s σ H xs us Q I r h
  obtain ⟨a, L, rfl, ha, hn, q⟩ := h
  obtain ⟨u, rfl, ru⟩ := vals1 r
  cases ru
  have R : SetSR X.prog X.w s.heap a L := (I.hok a _ ha).1
  refine sorted_setS R (I.ok.hd hc) hn fun s' p out c ys k g o hp hg hv pm so => ?_
  have hnp := HOk.fresh I.hok hp
  have hlen : (ys.map V.str).length ≤ sizeLine := by
    rw [List.length_map, pm.length_eq]
    exact sz (by omega)
  have J : Inv X pins σ (upd H p (.lst (ys.map V.str))) { heap := s'.heap, gens := s'.gens, drawn := s'.drawn, toks := s'.toks, os := s.os } :=
    Inv.call (ch := []) I (Un.laid k hp hnp) (HOk.laid I.hok k hp ⟨hlen, out.toList, c, hv, hg⟩) (by rw [g]; exact I.bare) fun x z => by cases z
  have e : s' = { heap := s'.heap, gens := s'.gens, drawn := s'.drawn, toks := s'.toks, os := s.os } := by rw [← o]
  rw [e]
  exact ⟨.ref p, _, J, rfl, q ys p pm so hnp⟩
end My

namespace My
open PySem L2
/-! a Lot: an instance with a dict of numbers above 0 -/
structure LoA (C : Addr) (H : Hp) (a : Addr) (m : AL) : Prop where
  ex : ∃ d dx, H a = some (.ins C dx [("_many", .ref d)]) ∧ H d = some (.dK (enc m))
  nd : (keys m).Nodup
  ps : ∀ p ∈ m, 0 < p.2
  ln : m.length ≤ 30
theorem LoA.same {C : Addr} {H H' : Hp} {a : Addr} {m : AL} (h : LoA C H a m) (s : Same H H') : LoA C H' a m := by
  obtain ⟨⟨d, dx, h1, h2⟩, nd, ps, ln⟩ := h
  exact ⟨⟨d, dx, s _ _ h1, s _ _ h2⟩, nd, ps, ln⟩
theorem LoA.upd {C : Addr} {H : Hp} {a p : Addr} {m : AL} {o : HO} (h : LoA C H a m) (hp : H p = none) : LoA C (L2.upd H p o) a m := h.same fun _ _ e => upd_at e (ne_of_none e hp)
theorem pos_all {m : AL} (h : ∀ p ∈ m, 0 < p.2) : pos m = m := List.filter_eq_self.mpr fun p hp => decide_eq_true (h p hp)
theorem LoA.pos {C : Addr} {H : Hp} {a : Addr} {m : AL} (h : LoA C H a m) : My.pos m = m := pos_all h.ps
theorem get_pos {m : AL} (h : ∀ p ∈ m, 0 < p.2) (nd : (keys m).Nodup) {k : Str} (hk : k ∈ keys m) : 0 < get m k := by
  obtain ⟨p, hp, rfl⟩ := List.mem_map.mp hk
  have e : look m p.1 = some p.2 := (look_mem nd).mpr hp
  unfold get
  rw [e]
  exact h p hp
theorem get_none {m : AL} {k : Str} (hk : k ∉ keys m) : get m k = 0 := by
  unfold get
  rw [look_none.mpr hk]
  rfl
theorem get_nn {m : AL} (h : ∀ p ∈ m, 0 < p.2) (nd : (keys m).Nodup) (k : Str) : 0 ≤ get m k := by
  by_cases c : k ∈ keys m
  · exact Int.le_of_lt (get_pos h nd c)
  · rw [get_none c]
    exact Int.le_refl _
theorem enc_keys (m : AL) : (enc m).map (·.1) = (keys m).map Sum.inr := by
  unfold enc keys
  rw [List.map_map, List.map_map]
  rfl
section
variable {X : Cx} {CX : CXT} {k : Nat} {C : Addr} {m : Str} {ps : List Str} {sp : Sp} {E : XK}
theorem pe_methO {o e : Expr} {es : List Expr} {ta : TE} {t : TA} {pos apos : Pos} {pl : Sem Bool} (O : OCal X.prog X.w X.K X.mg X.base CX k C m ps sp) (c : Cls X.K C) (hr : Room k X.A) (hx : Passes CX X E) (ho : PE X o ta) (ha : PA X (e :: es) t)
    (h1 : starEach (e :: es) X.env = (false, eval e X.env) :: starEach es X.env := by rfl) (h2 : (backTo pos (starEach es X.env)).any (·.1) = false := by rfl)
    (h3 : eval (.Call (.Attribute o m apos) (e :: es) [] pos) X.env = (do
      let ov ← eval o X.env
      standAt apos.atName
      let __x ← holding [ov] (getMethod ov m pl)
      match __x with
      | (f, first) => callWith pos f first (backTo pos (starEach (e :: es) X.env)) (backToKw pos (keywordEach [] X.env))) := by with_unfolding_all rfl) :
    PE X (.Call (.Attribute o m apos) (e :: es) [] pos) (tMeth C m sp [] E ta t) := by
  obtain ⟨f, fd, F, hs, hf, hk, _, hb⟩ := O.ex
  exact pe_meth (pl := pl) ho c ⟨hs, hf, hk⟩ F hr hb .nil hx ha h1 h2 h3
theorem pe_methO0 {o : Expr} {ta : TE} {pos apos : Pos} {pl : Sem Bool} (O : OCal X.prog X.w X.K X.mg X.base CX k C m ps sp) (c : Cls X.K C) (hr : Room k X.A) (hx : Passes CX X E) (ho : PE X o ta)
    (h3 : eval (.Call (.Attribute o m apos) [] [] pos) X.env = (do
      let ov ← eval o X.env
      standAt apos.atName
      let __x ← holding [ov] (getMethod ov m pl)
      match __x with
      | (f, first) => callWith pos f first (backTo pos (starEach [] X.env)) (backToKw pos (keywordEach [] X.env))) := by with_unfolding_all rfl) :
    PE X (.Call (.Attribute o m apos) [] [] pos) (tMeth C m sp [] E ta tNil) := by
  obtain ⟨f, fd, F, hs, hf, hk, _, hb⟩ := O.ex
  exact pe_meth0 (pl := pl) ho c ⟨hs, hf, hk⟩ F hr hb .nil hx h3
theorem r_meth0 {σ : L2.St} {H : Hp} {Q : VK} {ta : TE} (h : ta σ H fun x H1 => ∃ a dx fs, x = .ref a ∧ H1 a = some (.ins C dx fs) ∧ fs.lookup m = none ∧ sp [x] H1 Q E) : tMeth C m sp [] E ta tNil σ H Q := h
/-- C(e): a new instance by __init__ -/
structure OMk (P : Program) (w : World) (K : PySem.W.Frag) (mg : Str → Option Value) (base : Heap) (CX : CXT) (k : Nat) (C : Addr) (x : Str) (ps : List Str) (sp : Sp) : Prop where
  ex : ∃ (f : Addr) (fd : FuncData), Mk K C f ∧ FnOk P w K mg base CX k f fd ps sp ∧ mg x = some (.ref C) ∧ Binds K fd ps []
def tMk (C : Addr) (sp : Sp) (E : XK) (t : TA) : TE := fun σ H Q => t σ H fun vs H1 => ∀ x dx, H1 x = none → H1 dx = none → dx ≠ x → sp (.ref x :: vs) (upd (upd H1 dx (.own x)) x (.ins C dx [])) (fun v H2 => v = .non ∧ Q (.ref x) H2) E
theorem pe_makeO {x : Str} {e : Expr} {es : List Expr} {t : TA} {p pos : Pos} (O : OMk X.prog X.w X.K X.mg X.base CX k C x ps sp) (hr : Room (k + 1) X.A) (hx : Passes CX X E) (ha : PA X (e :: es) t) (hg : Gl X x := by rfl)
    (hdb : (x == ("__debug__" : Str)) = false := by decide) (he : starEach (e :: es) X.env = (false, eval e X.env) :: starEach es X.env := by rfl) (hpl : (backTo pos (starEach es X.env)).any (·.1) = false := by rfl) : PE X (.Call (.Name x p) (e :: es) [] pos) (tMk C sp E t) := by
  obtain ⟨f, fd, M, F, hm, hb⟩ := O.ex
  have h := pe_make (p := p) (pos := pos) M F hr hg hm hb (dvs := []) .nil hx ha hdb he hpl
  refine ⟨fun pins s σ H Q I q => h.run pins s σ H Q I ?_⟩
  have e : (fun vs H1 => ∀ x dx, H1 x = none → H1 dx = none → dx ≠ x → sp (.ref x :: (vs ++ [])) (upd (upd H1 dx (.own x)) x (.ins C dx [])) (fun v H2 => v = .non ∧ Q (.ref x) H2) E) = fun vs H1 => ∀ x dx, H1 x = none → H1 dx = none → dx ≠ x → sp (.ref x :: vs) (upd (upd H1 dx (.own x)) x (.ins C dx [])) (fun v H2 => v = .non ∧ Q (.ref x) H2) E := by
    funext vs H1
    rw [List.append_nil]
  show t σ H _
  rw [e]
  exact q
end
theorem fldK {X : Cx} {e : Expr} {f : Str} {pos : Pos} {ta : TE} (K : PySem.W.Frag) (h : PE X e ta) (hb : attributeBase e f X.env (eval e X.env) = eval e X.env) (eK : X.K = K := by rfl) : PE X (.Attribute e f pos) (tFld K ta f) := by
  subst eK
  exact pe_fld h hb
theorem rising_sle : ∀ {r : List Str} {x : Str}, PyProof.Rows.risingS x r = true → (x :: r).Pairwise (fun a b => sle a b = true)
  | [], x, _ => List.pairwise_singleton _ _
  | y :: r, x, h => by
    unfold PyProof.Rows.risingS at h
    rw [Bool.and_eq_true, PyProof.Rows.ltCps_eq] at h
    have ih := rising_sle h.2
    have h1 : sle x y = true := h.1
    refine List.pairwise_cons.mpr ⟨fun b hb => ?_, ih⟩
    rcases List.mem_cons.mp hb with z | z
    · rw [z]
      exact h1
    · exact sle_trans h1 ((List.pairwise_cons.mp ih).1 b z)
theorem sorted_sle : ∀ {ys : List Str}, PyProof.Rows.sortedS ys = true → ys.Pairwise (fun a b => sle a b = true)
  | [], _ => List.Pairwise.nil
  | _ :: _, h => rising_sle h
theorem cn_of {m : AL} {ys : List Str} (h : ∀ p ∈ m, 0 < p.2) (nd : (keys m).Nodup) (hp : ys.Perm (keys m)) (hs : PyProof.Rows.sortedS ys = true) : Cn m (ys.map fun k => (k, get m k)) := by
  constructor
  · rw [pos_all h]
    refine (hp.map _).trans (List.Perm.of_eq ?_)
    unfold keys
    rw [List.map_map]
    refine (List.map_congr_left fun p hp => ?_).trans (List.map_id m)
    show (p.1, get m p.1) = p
    unfold get
    rw [(look_mem nd).mpr (show (p.1, p.2) ∈ m from hp)]
    rfl
  · rw [List.pairwise_map]
    refine List.Pairwise.imp (fun {a b} z => ?_) (List.Pairwise.and (sorted_sle hs) (hp.nodup_iff.mpr nd))
    show (if a = b then _ else sle a b) = true
    rw [if_neg z.2]
    exact z.1
theorem keys_map (m : AL) (f : Str → Int → Int) : keys (m.map fun p => (p.1, f p.1 p.2)) = keys m := by
  unfold keys
  rw [List.map_map]
  rfl
theorem look_mapf : ∀ (m : AL) (f : Str → Int → Int) (k : Str), look (m.map fun p => (p.1, f p.1 p.2)) k = (look m k).map (f k)
  | [], _, _ => rfl
  | p :: r, f, k => by
    rw [List.map_cons, look_cons, look_cons, look_mapf r f k]
    by_cases e : p.1 = k
    · rw [if_pos e, if_pos e, ← e]
      rfl
    · rw [if_neg e, if_neg e]
theorem tot_mapf {m : AL} (f : Str → Int → Int) (nd : (keys m).Nodup) (k : Str) : tot (m.map fun p => (p.1, f p.1 p.2)) k = if k ∈ keys m then f k (get m k) else 0 := by
  rw [tot_nodup k (by rw [keys_map]; exact nd)]
  unfold get
  rw [look_mapf]
  by_cases h : k ∈ keys m
  · rw [if_pos h]
    cases e : look m k with
    | none => exact absurd h (look_none.mp e)
    | some v => rfl
  · rw [if_neg h, look_none.mpr h]
    rfl
theorem Cn.mem {m qs : AL} (h : Cn m qs) (mp : ∀ p ∈ m, 0 < p.2) (p : Str × Int) : p ∈ qs ↔ p ∈ m := by
  have := h.1.mem_iff (a := p)
  rwa [pos_all mp] at this
theorem Cn.len {m qs : AL} (h : Cn m qs) (mp : ∀ p ∈ m, 0 < p.2) : qs.length = m.length := by
  have := h.1.length_eq
  rwa [pos_all mp] at this
theorem Cn.totf {m qs : AL} (h : Cn m qs) (mp : ∀ p ∈ m, 0 < p.2) (nd : (keys m).Nodup) (f : Str → Int → Int) (k : Str) : tot (qs.map fun p => (p.1, f p.1 p.2)) k = if k ∈ keys m then f k (get m k) else 0 := by
  have e := h.1
  rw [pos_all mp] at e
  rw [tot_perm (e.map _), tot_mapf f nd]
theorem r_mk {C : Addr} {sp : Sp} {E : XK} {σ : L2.St} {H : Hp} {Q : VK} {t : TA} (h : t σ H fun vs H1 => ∀ x dx, H1 x = none → H1 dx = none → dx ≠ x → sp (.ref x :: vs) (L2.upd (L2.upd H1 dx (.own x)) x (.ins C dx [])) (fun v H2 => v = .non ∧ Q (.ref x) H2) E) : tMk C sp E t σ H Q := h
/-- facts of the class Lot -/
structure TxL (K : PySem.W.Frag) (C : Addr) : Prop where
  oc : OCls K C
  nM : NoAttr K C "_many"
theorem r_many {σ : L2.St} {H : Hp} {Q : VK} {K : PySem.W.Frag} {C a d dx : Addr} {i : Nat} (L : TxL K C) (h : H a = some (.ins C dx [("_many", .ref d)])) (q : Q (.ref d) H) (e : σ[i]? = some (some (.ref a)) := by rfl) : tFld K (tVar i) "_many" σ H Q :=
  ⟨_, e, a, C, dx, _, _, rfl, h, L.oc.cl, L.nM, List.lookup_cons_self, q⟩
theorem look1 {m : Str} {v : V} (h : (m == ("_many" : Str)) = false := by decide +kernel) : List.lookup m [(("_many" : Str), v)] = none := by
  rw [List.lookup_cons, h]
  rfl
theorem r_isD {H : Hp} {d : Addr} {m : AL} {R : Prop} (h : H d = some (.dK (enc m))) (q : R) : IsD H d ∧ R := ⟨Or.inl ⟨enc m, Or.inl h⟩, q⟩
theorem r_setMany {σ : L2.St} {H : Hp} {D : Ends} {K : PySem.W.Frag} {C a dx : Addr} {tv : TE} {i : Nat} (L : TxL K C) (e : σ[i]? = some (some (.ref a))) (h : tv σ H fun y H1 => ∃ fs, H1 a = some (.ins C dx fs) ∧ fs.length < 1000 ∧ D.nx σ (L2.upd H1 a (.ins C dx (putF "_many" y fs)))) (mono : ∀ f g : VK, (∀ x H, f x H → g x H) → tv σ H f → tv σ H g) : sFld K (tVar i) tv "_many" D σ H :=
  mono _ _ (fun _ _ ⟨fs, h1, h2, h3⟩ => ⟨_, e, a, C, dx, fs, rfl, h1, L.oc.cl, L.nM, h2, h3⟩) h
theorem r_setD {P : Program} {w : World} {H : Hp} {Q : VK} {d : Addr} {m : AL} (h : H d = some (.dK (enc m))) (hn : m.length ≤ 30) (q : ∀ a, H a = none → Q (.ref a) (L2.upd H a (SetSO P w a (keys m)))) : rSetD P w [.ref d] H Q := ⟨d, enc m, keys m, rfl, h, enc_keys m, by rw [enc_len]; exact hn, q⟩
theorem r_sortedSO {P : Program} {w : World} {H : Hp} {Q : VK} {a : Addr} {L : List Str} (h : H a = some (SetSO P w a L)) (hn : L.length < 64) (q : ∀ (ys : List Str) (p : Addr), ys.Perm L → PyProof.Rows.sortedS ys = true → H p = none → Q (.ref p) (L2.upd H p (.lst (ys.map V.str)))) : rSortedSet' P w [.ref a] H Q := ⟨a, L, rfl, h, hn, q⟩
end My

namespace My
open PySem L2
theorem r_ixO {C : Addr} {sp : Sp} {E : XK} {ta tb : TE} {σ : L2.St} {H : Hp} {Q : VK} (h : ta σ H fun x H1 => tb σ H1 fun y H2 => ∃ a dx fs, x = .ref a ∧ H2 a = some (.ins C dx fs) ∧ sp [x, y] H2 Q E) : tIxO C sp E ta tb σ H Q := h
end My

namespace My
open PySem L2
/-- a def with defaults, called with all its arguments -/
theorem binds_full {K : PySem.W.Frag} {x qual : Str} {params : Arguments} {body : List Stmt} {scope : PySem.Scope} {dvs : List V} {kws : List (Str × V)} {f : Addr} {fd : FuncData} {ps : List Str} (F : FunD K x qual params body scope dvs kws f fd) (hd : dvs ≠ [])
    (h : ∀ (T : Addr) (kV doc pm : Value) (an : Option Addr) (cdv ct : Value) (us : List Value), us.length = ps.length → ∃ k, bindArgs (PySem.W.fnOf x qual params body scope (.ref T) kV doc pm an cdv ct) { pos := us } = seqItems? (.ref T) >>= k ∧ ∀ its : List Value, its.length = dvs.length → k (some its.toArray) = pure (ps.zip us)) : Binds K fd ps [] := by
  intro s us hk hl
  obtain ⟨oc, od, dV, kV, doc, pm, an, cdv, ct, osl, rfl, h1, h2, h3, h4⟩ := F.ex
  rcases h3 with ⟨e, _⟩ | ⟨_, T, o, its, n, rfl, e1, e2, hv⟩
  · exact absurd e hd
  rw [List.append_nil] at hl ⊢
  obtain ⟨k, hb, hk2⟩ := h T kV doc pm an cdv ct us hl
  refine BindsTo.of_looks fun M => ?_
  rw [hb]
  refine looks_items hk e1 e2 ?_
  rw [hk2 its (Paired.len hv).symm]
  exact PySem.W.Looks.now
end My

namespace My
open PySem L2
/-- X(): an own class of errors without __init__, made of nothing -/
theorem pmk_own0 {X : Cx} {C : Addr} {bmB : List Value} {B newId initId : String} {x : Str} {p pos : Pos} (F : ExcBaseFacts B newId initId bmB) (q : PySem.W.excIn X.K C bmB newId = true) (gC : X.mg x = some (.ref C)) (kC : PySem.W.keepIn X.K (.ref C) = true) (r : Raises X (.ref C)) (hg : Gl X x) (hdb : (x == ("__debug__" : Str)) = false := by decide) :
    PMk X (.Call (.Name x p) [] [] pos) (fun _ H Q => Q (.ref C) none H) := by
  intro pins s σ H Q I h
  refine wpAny_Call_Name_kw (ld_glob I hg gC ?_ hdb)
  refine PySem.W.callWith_K0 I.kIn kC ?_
  obtain ⟨bm, N, nm, qn, bs, hdct, sn, sub, ab, col, dd, k0, k1, k2, k3, k5, mN, hC, hN, hni, T⟩ := exc_obj I.kIn q
  exact wpAny_call_exc_subT F T hC hN hni (fun h' e hm => mk_of I hm r h (HOk.gone I.hok hm.new)) (Nat.zero_le _)
theorem passE0 {X : Cx} : PassS CX0 X (fun _ => E0) := fun _ _ _ _ _ _ _ h => h.elim
theorem r_opS {r : L2.St → R2} {ta tb : TE} {σ : L2.St} {H : Hp} {Q : VK} (h : ta σ H fun x H1 => tb σ H1 fun y H2 => r σ x y H2 Q) : tOpS r ta tb σ H Q := h
theorem r_catA {K : PySem.W.Frag} {H : Hp} {Q : VK} {a b : Addr} {xs ys : List V} (h1 : SqT K H a xs) (h2 : SqT K H b ys) (hl : xs.length + ys.length ≤ sizeLine) (q : ∀ c H', SqT K H' c (xs ++ ys) → Same H H' → Q (.ref c) H') : rCatA K (.ref a) (.ref b) H Q := by
  refine ⟨a, b, xs, ys, rfl, rfl, h1, h2, hl, fun e => ?_, fun _ e => ?_, fun _ _ p hp => ?_⟩
  · refine q b H ?_ fun _ _ z => z
    rw [e]
    exact h2
  · refine q a H ?_ fun _ _ z => z
    rw [e, List.append_nil]
    exact h1
  · exact q p _ (SqT.of upd_same) fun c o z => upd_at z (ne_of_none z hp)
end My

namespace My
open PySem L2
theorem hu64 {k : Nat} {A : Around} (h : Room k A) : A.units + 64 < cLine := by
  have := h.un
  omega
def pd1 (p : Str × Int) : PyData := .tuple [.str p.1, .int p.2]
def pd (qs : AL) : PyData := .tuple (qs.map pd1)
theorem dp_all {K : PySem.W.Frag} {H : Hp} : ∀ {xs : List V} {qs : AL}, Paired (PrA H) xs qs → DpAll K H xs (qs.map pd1)
  | _, _, .nil => .nil
  | _, _, .cons h r => by
    obtain ⟨t, e, ht⟩ := h
    subst e
    exact .cons (.tup (SqT.of ht) (.cons (.str _) (.cons (.int _) .nil))) (dp_all r)
theorem dp_pairs {K : PySem.W.Frag} {H : Hp} {a : Addr} {xs : List V} {qs : AL} (h : H a = some (.tup xs)) (hp : Paired (PrA H) xs qs) : Dp K H (.ref a) (pd qs) := .tup (SqT.of h) (dp_all hp)
theorem eqv_nil (qs : AL) : (pd qs).eqv (.tuple []) = qs.isEmpty := by
  cases qs with
  | nil => rfl
  | cons p r => rfl
theorem strOk_kind {z : Str} (h : KindS z) : PyData.strOk z = true := by
  show z.cps.all (fun c => decide (c < 0x110000)) = true
  rw [← Array.all_toList, List.all_eq_true]
  intro c hc
  have := h.2.2 c hc
  exact decide_eq_true (by omega)
theorem can_pd {qs : AL} (h : ∀ p ∈ qs, KindS p.1) : (pd qs).canLay0 = true := by
  unfold pd
  unfold PyData.canLay0
  induction qs with
  | nil => rfl
  | cons p r ih =>
    rw [List.map_cons]
    show (PyData.canLay0 (pd1 p) && PyData.canLayAll0 (List.map pd1 r)) = true
    rw [ih fun q hq => h q (List.mem_cons_of_mem _ hq), Bool.and_true]
    show (PyData.strOk p.1 && (true && true)) = true
    rw [strOk_kind (h p List.mem_cons_self)]
    rfl
theorem depth_pd (qs : AL) : PyData.depthAll (qs.map pd1) ≤ 1 := by
  induction qs with
  | nil => exact Nat.zero_le _
  | cons p r ih =>
    rw [List.map_cons]
    show max (PyData.depth (pd1 p)) (PyData.depthAll (List.map pd1 r)) ≤ 1
    exact Nat.max_le.mpr ⟨by show max 0 (max 0 0) + 1 ≤ 1; decide, ih⟩
theorem shaped_pd {qs : AL} (h : ∀ p ∈ qs, KindS p.1) : SeqAt.shaped (pd qs) = true := by
  unfold SeqAt.shaped
  rw [can_pd h, Bool.true_and]
  refine decide_eq_true ?_
  show PyData.depthAll (qs.map pd1) + 1 ≤ 64
  have := depth_pd qs
  omega
end My

namespace My
open PySem L2
/-- an error of the class cls, without a dict of its own -/
def ExT (cls : Value) (a : Addr) : HO := .ext fun h => ∃ oe vs, h.get? a = some oe ∧ Zc cls none oe ∧ oe.data = Data.fields vs
theorem extT_ok {P : Program} {w : World} {H : Hp} {h : Heap} {a : Addr} {cls : Value} {oe : Obj} {vs : Array Value} (h1 : h.get? a = some oe) (h2 : Zc cls none oe) (h3 : oe.data = Data.fields vs) : ObjOk P w H h a (ExT cls a) := by
  refine ⟨⟨oe, vs, h1, h2, h3⟩, ⟨oe, h1⟩, ?_⟩
  rintro g1 g2 ⟨o, v, e1, e2, e3⟩ k
  exact ⟨o, v, k o e1, e2, e3⟩
theorem track {X : Cx} {pins : List (Addr × Obj)} {σ : L2.St} {H : Hp} {s : Shared} {a : Addr} {oe : Obj} {cls : Value} {vs : Array Value} (I : Inv X ((a, oe) :: pins) σ H s) (h0 : X.s_0.heap.get? a = none) (hz : Zc cls none oe) (hd : oe.data = Data.fields vs) (hne : ∀ p ∈ X.pn ++ pins, p.1 ≠ a) : Inv X pins σ (upd H a (ExT cls a)) s := by
  have hp := I.pin (a, oe) (List.mem_append_right _ List.mem_cons_self)
  obtain ⟨ha, hn, hl, hf, hc⟩ := hp
  have hn : H a = none := hn
  have ha : s.heap.get? a = some oe := ha
  refine ⟨I.ok, I.os, I.bare, ?_, I.loc, I.cell, ?_, ?_, ?_, ?_, I.len⟩
  · obtain ⟨k1, k2, k3, k4, k5, k6, k7⟩ := I.base
    refine ⟨k1, k2, fun b o e n hb => ?_, k4, fun b xs e => ?_, fun b o u e => ?_, fun b ps e => ?_⟩
    · rw [upd_ne (fun z => by rw [z, h0] at e; cases e)]
      exact k3 b o e n hb
    · exact upd_at (k5 b xs e) (ne_of_none (k5 b xs e) hn)
    · exact upd_at (k6 b o u e) (ne_of_none (k6 b o u e) hn)
    · obtain ⟨m, e2⟩ := k7 b ps e
      exact ⟨m, upd_at e2 (ne_of_none e2 hn)⟩
  · rw [upd_ne (Ne.symm hl)]
    exact I.free
  · intro x c e
    obtain ⟨v, o, ho, hd2⟩ := I.cell x c e
    have : c ≠ a := fun z => by
      rw [z, ha] at ho
      cases ho
      exact hc v hd2
    rw [upd_ne this]
    exact I.freeC x c e
  · intro p hp
    obtain ⟨q1, q2, q3, q4, q5⟩ := I.pin p (by
      rcases List.mem_append.mp hp with z | z
      · exact List.mem_append_left _ z
      · exact List.mem_append_right _ (List.mem_cons_of_mem _ z))
    exact ⟨q1, by rw [upd_ne (hne p hp)]; exact q2, q3, q4, q5⟩
  · intro b u e
    by_cases hb : b = a
    · subst hb
      rw [upd_same] at e
      cases e
      exact extT_ok ha hz hd
    · rw [upd_ne hb] at e
      exact ObjOk.stay (I.hok b u e) (fun _ _ _ z => z) (fun c z => upd_at z (ne_of_none z hn)) fun c xs z => upd_at z (ne_of_none z hn)
end My

namespace My
open PySem L2
def rIsT (K : PySem.W.Frag) (D : Addr) : List V → Hp → VK → Prop := fun xs H Q => ∃ (a : Addr) (c : V) (cv : Value) (b : Bool), xs = [.ref a, c] ∧ H a = some (ExT (.ref D) a) ∧ (∀ u, RelV c u → u = cv) ∧ PySem.W.kitOne K (.ref D) cv = some b ∧ Q (.bl b) H
/-- isinstance of a tracked error -/
theorem call_isT {X : Cx} {D : Addr} (C : ExcC X.K D) : CallR X (.builtin "isinstance") (rIsT X.K D) := by
  intro pins s σ H xs us Q I r h
  obtain ⟨a, c, cv, b, rfl, ha, hcv, e, q⟩ := h
  match us, r with
  | [u, u2], .cons rx (.cons rt .nil) =>
    have e1 : u = .ref a := rx
    have e2 := hcv u2 rt
    subst e1 e2
    obtain ⟨oe, vs, h1, h2, h3⟩ := (I.hok a _ ha).1
    have J : PySem.W.InstAt s.heap a oe D none := ⟨h1, h2.1, by unfold PySem.W.notCls; rw [h3], by rw [show oe.dict = none from h2.2]; trivial⟩
    exact PySem.W.kia_one (PySem.W.handS_kitx_exc C.hg C.hk C.hs C.hd C.ha C.hn C.ht C.hm) I.kIn J e (fun z => nomatch z) fun tk => ⟨.bl b, H, I.kept fun _ _ z => z, rfl, q⟩
theorem unsuite2 {X : Cx} {pins : List (Addr × Obj)} {σ : L2.St} {H : Hp} {s : Shared} {a : Addr} {q : Addr × Obj} {pn' : List (Addr × Obj)} (I : Inv (X.suite a (q :: (X.pn ++ pins))) pn' σ H s) (ok : X.Ok) : Inv X (q :: pins) σ H s :=
  ⟨ok, I.os, I.bare, I.base, I.loc, I.cell, I.free, I.freeC, fun p hp => I.pin p (by
    rcases List.mem_append.mp hp with z | z
    · exact List.mem_append_left _ (List.mem_cons_of_mem _ (List.mem_append_left _ z))
    · rcases List.mem_cons.mp z with z | z
      · rw [z]
        exact List.mem_append_left _ List.mem_cons_self
      · exact List.mem_append_left _ (List.mem_cons_of_mem _ (List.mem_append_right _ z))), I.hok, I.len⟩
def wT (cls : Value) (i : Nat) (ts : Addr → TS) (D : Ends) : WX := fun cls' d σ H => cls' = cls ∧ d = none ∧ ∀ a, H a = none → ts a { nx := fun σ' H' => H' a = none → D.nx (σ'.set i none) (upd H' a (ExT cls a)), rt := D.rt, bk := fun σ' H' => D.bk (σ'.set i none) H', ct := fun σ' H' => D.ct (σ'.set i none) H' } (σ.set i (some (.ref a))) H
/-- try: .. except x as n: ..; the error is tracked behind the suite -/
theorem ps_try_asT {X : Cx} {x n : Str} {c cls : Value} {i : Nat} {body suite : List Stmt} {b₀ : Stmt} {np pos pos' : Pos} {tb : WX → TS} {ts : Addr → TS} (hs : X.stack = X.env :: X.outer) (hf : X.env.frame = some X.env.locals) (hN : X.N.Nodup) (hi : X.N[i]? = some n) (hln : X.env.kindOf n = some NameKind.local) (hg : Gl X x) (hdb : (x == ("__debug__" : Str)) = false) (hmg : X.mg x = some c) (hex : X.ex = []) (hm : PySem.W.exmOne X.K cls c = some true)
    (hb : ∀ (W : WX) (pn : List (Addr × Obj)) (xe : Value → Shared → Prop), Takes (X.tr pn xe) W → PassesOwn (model X.prog X.w) X.A X.env xe → PSs (X.tr pn xe) body (tb W))
    (hsu : ∀ (a : Addr) (oe : Obj) (pn : List (Addr × Obj)), Zc cls none oe → (∃ vs, oe.data = Data.fields vs) → PSs (X.suite a ((a, oe) :: pn)) (b₀ :: suite) (ts a)) :
    PS X (.Try body [.ExceptHandler (some (.Name x np)) (some n) (b₀ :: suite) pos'] [] [] pos) (fun D σ H => tb (wT cls i ts D) D σ H) := by
  refine ⟨fun pins s σ H D I h => ?_⟩
  have ok := I.ok
  have hfr : X.A.frames = some (X.env :: X.outer) := by rw [ok.frames, hs]
  refine wpAny_Try_except (wpAny_mono ((hb (wT cls i ts D) (X.pn ++ pins) _ ?_ PassesOwn.looking).run [] s σ H D (Inv.toTry I _) h) ?_ fun e s1 he => he)
  · rintro u s' ⟨a, B, sI, pins', σ', H', cls', d, rfl, J', nb, up, sky, na, os, ag, rfl, rfl, hy⟩
    have J := Inv.ofTry J' ok
    have sky' : Sky B (X.env :: X.outer) a (Zc cls' none) X.env.locals s'.heap := by rw [← hs]; exact sky
    refine Sky.land Zc.steady hfr hf sky' fun h3 fl3 up3 => ?_
    have J3 := Inv.landed (s' := { s' with heap := h3 }) J nb fl3.1 (up.trans up3) os ag
    obtain ⟨oe3, vs3, he3, hz3, hd3⟩ := HandSPX.FlyingZ.there fl3
    have nfr : a ∉ List.filterMap (fun x => x.frame) (X.env :: X.outer) := fun hm' => by
      obtain ⟨_, o', e', hnf⟩ := Heap.FunFrames.mem fl3.2.2.1 hm'
      rw [he3] at e'
      cases e'
      exact hnf vs3 hd3
    have nL : a ≠ X.env.locals := fun z => nfr (List.mem_filterMap.mpr ⟨X.env, List.mem_cons_self, by rw [hf, z]⟩)
    have nF : a ∉ X.fs := fun hm' => by
      obtain ⟨e, he, q⟩ := List.mem_filterMap.mp hm'
      exact nfr (List.mem_filterMap.mpr ⟨e, List.mem_cons_of_mem _ he, q⟩)
    have S3 := Inv.suite J3 he3 hd3 na nL nF
    have aB : B.get? a = none := fl3.2.1
    have fra : a ∉ frs X.stack := by rw [hs]; exact nfr
    have aI : sI.heap.get? a = none := by
      cases e : sI.heap.get? a with
      | none => rfl
      | some o => rw [nb a o e fra] at aB; cases aB
    have h0 : X.s_0.heap.get? a = none := by
      cases e : X.s_0.heap.get? a with
      | none => rfl
      | some o =>
        by_cases hx : a ∈ X.ex
        · rw [hex] at hx; cases hx
        · obtain ⟨o', e'⟩ := J.base.there a o e hx
          rw [aI] at e'
          cases e'
    have hne : ∀ p ∈ X.pn ++ pins, p.1 ≠ a := fun p hp z => by
      have := (J.pin p hp).1
      rw [z, aI] at this
      cases this
    refine wpAny_handleBy_cons (codeAny_handlers_test ?_) (by intro z; cases z)
    refine ld_glob (X := X.suite a ((a, oe3) :: (X.pn ++ pins))) S3 hg hmg ?_ hdb
    have LT : PySem.W.Looks (model X.prog X.w) h3 (typeOf (.ref a)) cls' := fun A Q E s hk hq => by
      refine wpAny_typeOf_ref (hk a oe3 he3) ?_
      rw [hz3.1]
      exact hq
    refine PySem.W.Looks.here (PySem.W.exm_one S3.kIn LT hm) ?_
    refine codeAny_handlers_suite_as (HandSPX.lands_againZ fl3 fun h4 fl4 up4 => ?_)
    have J4 := Inv.landed (s' := { s' with heap := h4 }) J nb fl4.1 ((up.trans up3).trans up4) os ag
    obtain ⟨oe4, vs4, he4, hz4, hd4⟩ := HandSPX.FlyingZ.there fl4
    have S4 := Inv.suite J4 he4 hd4 na nL nF
    refine store_ok (X := X.suite a ((a, oe4) :: (X.pn ++ pins))) (v := .ref a) S4 hN hi (Or.inl hln) rfl (fun s5 S5 => ?_) (Or.inr hln)
    refine wpAny_mono ((hsu a oe4 (X.pn ++ pins) hz4 ⟨vs4, hd4⟩).run [] s5 _ H' _ S5 (hy a na)) ?_ fun e s he => he.elim
    intro f s6 hsp
    cases f with
    | next =>
      obtain ⟨σ6, H6, S6, hq⟩ := hsp
      have S6' := unsuite2 S6 ok
      refine gone_ok S6' hN hi hln fun s7 S7 => ⟨_, _, track S7 h0 hz4 hd4 hne, hq ?_⟩
      exact (S7.pin (a, oe4) (List.mem_append_right _ List.mem_cons_self)).2.1
    | brk =>
      obtain ⟨σ6, H6, S6, hq⟩ := hsp
      exact gone_ok (Inv.unsuite S6 ok) hN hi hln fun s7 S7 => ⟨_, _, S7, hq⟩
    | cont =>
      obtain ⟨σ6, H6, S6, hq⟩ := hsp
      exact gone_ok (Inv.unsuite S6 ok) hN hi hln fun s7 S7 => ⟨_, _, S7, hq⟩
    | ret v =>
      obtain ⟨v', σ6, H6, S6, r, hq⟩ := hsp
      exact gone_ok (Inv.unsuite S6 ok) hN hi hln fun s7 S7 => ⟨v', _, _, S7, r, hq⟩
  · intro f s1 hsp
    cases f with
    | next =>
      obtain ⟨σ', H', J', q⟩ := hsp
      exact wpAny_execs_nil ⟨σ', H', Inv.ofTry J' ok, q⟩
    | brk =>
      obtain ⟨σ', H', J', q⟩ := hsp
      exact ⟨σ', H', Inv.ofTry J' ok, q⟩
    | cont =>
      obtain ⟨σ', H', J', q⟩ := hsp
      exact ⟨σ', H', Inv.ofTry J' ok, q⟩
    | ret v =>
      obtain ⟨v', σ', H', J', r, q⟩ := hsp
      exact ⟨v', σ', H', Inv.ofTry J' ok, r, q⟩
end My

/-! own errors with fields, made, raised, caught and kept as values -/
namespace My
open PySem L2
/-- an error of the class cls with the dict d -/
def ExD (cls : Value) (d : Option Addr) (a : Addr) : HO := .ext fun h => ∃ (oe : Obj) (vs : Array Value), h.get? a = some oe ∧ Zc cls d oe ∧ oe.data = Data.fields vs
theorem exD_ok {P : Program} {w : World} {H : Hp} {h : Heap} {a : Addr} {cls : Value} {d : Option Addr} {oe : Obj} {vs : Array Value} (h1 : h.get? a = some oe) (h2 : Zc cls d oe) (h3 : oe.data = Data.fields vs) : ObjOk P w H h a (ExD cls d a) :=
  ⟨⟨oe, vs, h1, h2, h3⟩, ⟨oe, h1⟩, fun _ _ ⟨o, v, e1, e2, e3⟩ k => ⟨o, v, k o e1, e2, e3⟩⟩
theorem exD_at {P : Program} {w : World} {H : Hp} {h : Heap} {a : Addr} {cls : Value} {d : Option Addr} (hok : HOk P w H h) (e : H a = some (ExD cls d a)) : ∃ (oe : Obj) (vs : Array Value), h.get? a = some oe ∧ Zc cls d oe ∧ oe.data = Data.fields vs := by
  have x : ObjOk P w H h a (.ext fun h => ∃ (oe : Obj) (vs : Array Value), h.get? a = some oe ∧ Zc cls d oe ∧ oe.data = Data.fields vs) := hok a _ e
  exact x.1
/-- at a an error of the class C with the fields fs -/
def Er (H : Hp) (a C : Addr) (fs : List (Str × V)) : Prop := ∃ d, H a = some (ExD (.ref C) d a) ∧ ((d = none ∧ fs = []) ∨ ∃ dd, d = some dd ∧ H dd = some (.xd fs))
theorem Er.same {H H' : Hp} {a C : Addr} {fs : List (Str × V)} (h : Er H a C fs) (s : ∀ c o, H c = some o → H' c = some o) : Er H' a C fs := by
  obtain ⟨d, h1, h2⟩ := h
  refine ⟨d, s _ _ h1, ?_⟩
  rcases h2 with z | ⟨dd, z1, z2⟩
  · exact .inl z
  · exact .inr ⟨dd, z1, s _ _ z2⟩
/-- the object with its dict, in the heap -/
theorem Er.inst {P : Program} {w : World} {H : Hp} {h : Heap} {a C : Addr} {fs : List (Str × V)} (hok : HOk P w H h) (e : Er H a C fs) : ∃ (oe : Obj) (od : Option Obj), PySem.W.InstAt h a oe C od ∧ (fs ≠ [] → ∃ (mA : Str → Option Value) (o : Obj), od = some o ∧ (∀ f, RelO (fs.lookup f) (mA f)) ∧ ∀ f, PySem.W.lookIn f o = some (mA f)) := by
  obtain ⟨d, h1, h2⟩ := e
  obtain ⟨oe, vs, g1, g2, g3⟩ := exD_at hok h1
  rcases h2 with ⟨rfl, rfl⟩ | ⟨dd, rfl, h2⟩
  · exact ⟨oe, none, ⟨g1, g2.1, by unfold PySem.W.notCls; rw [g3], by rw [g2.2]; trivial⟩, fun z => absurd rfl z⟩
  · have hx : ObjOk P w H h dd (.xd fs) := hok dd _ h2
    obtain ⟨mA, hns, hr⟩ := hx
    obtain ⟨od, ho, hl⟩ := lookIn_ns hns
    exact ⟨oe, some od, ⟨g1, g2.1, by unfold PySem.W.notCls; rw [g3], by rw [g2.2]; exact ho⟩, fun _ => ⟨mA, od, rfl, hr, hl⟩⟩
/-! ### e.f -/
def tXd (K : PySem.W.Frag) (f : Str) (te : TE) : TE := fun σ H Q => te σ H fun x H1 => ∃ (a C : Addr) (fs : List (Str × V)) (v : V), x = .ref a ∧ Er H1 a C fs ∧ XfC K C ∧ PySem.W.findIn K (.ref C) f = some none ∧ fs.lookup f = some v ∧ Q v H1
theorem pe_xd {X : Cx} {e : Expr} {te : TE} {pos : Pos} {n : Str} (K : PySem.W.Frag) (he : PE X e te) (hb : attributeBase e n X.env (eval e X.env) = eval e X.env := by rfl) (eK : X.K = K := by rfl) : PE X (.Attribute e n pos) (tXd K n te) := by
  subst eK
  refine ⟨fun pins s σ H Q I h => ?_⟩
  refine attr_of hb (thn (he.run pins s σ H _ I h) fun u s1 hh => ?_)
  obtain ⟨x, H1, I1, rx, a, C, fs, v, ex, ea, T, hno, l, q⟩ := hh
  subst ex
  obtain rfl : u = Value.ref a := rx
  obtain ⟨oe, od, J, hd⟩ := ea.inst I1.hok
  have hne : fs ≠ [] := fun z => by rw [z] at l; cases l
  obtain ⟨mA, o, rfl, hr, hl⟩ := hd hne
  obtain ⟨u, hu, ru⟩ := RelO.some_of (v := v) (o := mA n) (by rw [← l]; exact hr n)
  exact HandSPX.exc_get I1.kIn J T.ga T.gg T.exC (PySem.W.findObj_own T.hdC hno rfl (by rw [hl, hu])) (handed_of ru) ⟨v, H1, I1.tok _, ru, q⟩
end My
namespace PySem.W
open PySem PySem.Spec PySem.Calls PyProof.Rows
section
variable {prog : Program} {w : World} {A : Around} {E : Value → Shared → Prop} {s : Shared} {K : Frag} {x D : Addr} {ox : Obj} {od : Option Obj}
theorem my_findObj_data {C : Addr} {name : Str} {a g : Value} (hc : (clsIn K C).isSome = true) (ha : findIn K (.ref C) name = some (some a)) (hg : specialIn K a "__get__" = some (some g)) (ht : takesIn K a = some true) : findObj K C od name = some (.bind g a) := by
  obtain ⟨cd, hc⟩ := Option.isSome_iff_exists.mp hc
  unfold findObj
  rw [hc, Option.bind_some, ha, Option.bind_some]
  simp [hg, ht]
theorem my_kin_class {Q : Option Value → Shared → Prop} (C : L2.ExcC K D)
    (X : K.In s.heap) (I : InstAt s.heap x ox D od) (h : Q (some (.ref D)) { s with toks := s.toks + 1 }) : wpAny (model prog w) A (getAttr? (.ref x) "__class__") Q E s := by
  have hf : findObj K D od "__class__" = some (.bind (.builtin "getset_descriptor.__get__") (.builtin "object.__class__")) := my_findObj_data (by obtain ⟨cd, hc, _⟩ := any_some C.hd; rw [hc]; rfl) C.ha C.hn C.ht
  obtain ⟨hp, g, d, t, os⟩ := s
  have L0 := I.type (M := model prog w)
  have L1 := looks_findIn (M := model prog w) X C.hg
  have L2 := looks_findIn (M := model prog w) X C.hk
  have L3 := looks_find (M := model prog w) X I hf
  have sub : Looks (model prog w) hp (isInstance (.ref x) (.type "BaseException")) true := L0.andThen (looks_subIn X C.hs)
  have hx0 : (false && onTheHeap (Value.builtin "BaseException.__getattribute__")) = false := rfl
  have hx2 : (Value.builtin "BaseException.__getattribute__" == Value.builtin "object.__getattribute__") = false := by decide +kernel
  have hx1 : (onTheHeap (Value.ref D) && Value.builtin "BaseException.__getattribute__" == Value.builtin "object.__getattribute__") = false := by rw [hx2]; rfl
  unfold getAttr? getAttrBy? getAttrBy
  refine wpAny_bind (wpAny_mkText (wpAny_bind (wpAny_attempt (wpAny_holding (wpAny_bind (L0.at (wpAny_bind (L1.at ?_))))))))
  show wpAny _ _ (if (onTheHeap (Value.ref D) && Value.builtin "BaseException.__getattribute__" == Value.builtin "object.__getattribute__") = true then _ else _) _ _ _
  rw [hx1, if_neg Bool.false_ne_true]
  unfold getAttrByItsOwn hookBefore
  refine wpAny_bind ?_
  rw [if_pos (show onTheHeap (Value.ref D) = true from rfl)]
  refine L2.at ?_
  refine wpAny_bind (wpAny_attempt (wpAny_holding ?_))
  unfold callGetattribute
  rw [hx0, if_neg Bool.false_ne_true]
  unfold boundAndCalled
  rw [PySem.F.excAttr_ValueError.ga.bind (.ref x)]
  refine wpAny_bind (wpAny_pure ?_)
  show wpAny _ _ (call (.builtin "BaseException.__getattribute__") [.ref x, .str "__class__" t]) _ _ _
  refine wpAny_call (codeAny_call_builtin PySem.F.excAttr_ValueError.ga.plain PySem.F.entry_bexc_ga ?_)
  refine @check_slot (model prog w) _ _ ⟨hp, g, d, t + 1, os⟩ "BaseException.__getattribute__" "BaseException" "__getattribute__" (.ref x) [.str "__class__" t] [] _ (by decide +kernel) (by decide +kernel) sub (PySem.F.args_bexc_ga (.ref x) (.str "__class__" t)) ?_
  unfold Builtin.«object.__getattribute__»
  refine wpAny_bind (wpAny_of_eq (a := ((Value.ref x : Value), [Value.str "__class__" t])) (by first | rfl | (simp only [slotArgs]; rfl)) ?_)
  refine wpAny_bind (wpAny_pure (wpAny_bind (L0.at (wpAny_bind (L3.at ?_)))))
  show wpAny _ _ (holding [Value.builtin "object.__class__"] (call (.builtin "getset_descriptor.__get__") [.builtin "object.__class__", .ref x, .ref D]) >>= ret) _ _ _
  refine wpAny_bind (wpAny_holding (wpAny_call (class_get (s := ⟨hp, g, d, t + 1, os⟩) (ox := ox) (od := od) X I C.hm ?_)))
  refine wpAny_pure ?_
  show wpAny _ _ (handedOut (.ref D)) _ _ _
  rw [handedOut_of (v := .ref D) rfl]
  first
    | exact wpAny_pure (wpAny_pure h)
    | exact wpAny_pure h
    | exact wpAny_pure (wpAny_bind (wpAny_pure (wpAny_pure h)))
theorem my_kitx (C : L2.ExcC K D) : KitX K (.ref x) (.ref D) (fun h => InstAt h x ox D od) where
  ty := fun _ _ _ I => I.type
  it := fun _ _ X _ => by
    obtain ⟨cdD, hcD, _⟩ := any_some C.hd
    unfold clsIn at hcD
    split at hcD
    · rename_i c' d' cd' sl' ho
      intro A' Q' E' s' k q
      unfold isType loadHead
      exact wpAny_bind (wpAny_loadPart (k _ _ (X _ _ ho)) (wpAny_pure q))
    · cases hcD
  ne := fun h tp dd its n sl X htp => by
    obtain ⟨cdD, hcD, _⟩ := any_some C.hd
    refine Bool.eq_false_iff.mpr fun q => ?_
    have e : D = tp := Value.ref.inj (beq_iff_eq.mp q)
    subst e
    unfold clsIn at hcD
    split at hcD
    · rename_i c' d' cd' sl' ho
      have z := (X _ _ ho).symm.trans htp
      cases z
    · cases hcD
  ca := fun X I k => my_kin_class C X I k
end
end PySem.W
namespace My
open PySem L2
/-! ### isinstance -/
def rIsD (K : PySem.W.Frag) : List V → Hp → VK → Prop := fun xs H Q => ∃ (a D : Addr) (fs : List (Str × V)) (c : V) (cv : Value) (b : Bool), xs = [.ref a, c] ∧ Er H a D fs ∧ ExcC K D ∧ (∀ u, RelV c u → u = cv) ∧ PySem.W.kitOne K (.ref D) cv = some b ∧ Q (.bl b) H
theorem call_isD {X : Cx} (K : PySem.W.Frag) (eK : X.K = K := by rfl) : CallR X (.builtin "isinstance") (rIsD K) := by
  subst eK
  intro pins s σ H xs us Q I r h
  obtain ⟨a, D, fs, c, cv, b, rfl, ha, C, hcv, e, q⟩ := h
  match us, r with
  | [u, u2], .cons rx (.cons rt .nil) =>
    have e1 : u = .ref a := rx
    have e2 := hcv u2 rt
    subst e1 e2
    obtain ⟨oe, od, J, _⟩ := ha.inst I.hok
    exact PySem.W.kia_one (PySem.W.my_kitx C) I.kIn J e (fun z => nomatch z) fun tk => ⟨.bl b, H, I.kept fun _ _ z => z, rfl, q⟩
/-! ### a value of an error: C(..) -/
end My
namespace PySem
namespace HandSPX
open Builtin Builtin.ObjectAttr
section
variable {M : Model} {A : Around} {E : Value → Shared → Prop} {h : Heap} {g : Array GenState} {d : Drawn} {t : Nat} {os : OsState}
variable {nm q : Str} {C N : Addr} {bs bm bmB : List Value} {hdct : Bool} {sn : List Str} {sub : List Value} {ab : Bool} {col : Option Bool} {dd : Option Addr} {k0 k1 k2 k3 k5 : Option Value} {B newId initId : String} {kw : List (Str × Value)}
theorem my_check_new (F : ExcBaseFacts B newId initId bmB) (hT : ∀ X : String, bm.contains (.type X) = bmB.contains (.type X)) {rest : List Value} {Q : Unit → Shared → Prop}
    (hC : h.get? C = some (excClassObj nm q C N bs bm hdct sn sub ab col dd k0 k1 k2 k3 k5 newId)) (hq : Q () ⟨h, g, d, t, os⟩) : wpAny M A (checkBuiltinCall newId ⟨.ref C :: rest, kw⟩) Q E ⟨h, g, d, t, os⟩ := by
  have hcont : (Value.ref C :: bm).contains (.type B) = true := by rw [List.contains_cons, hT, F.hasB, Bool.or_true]
  have hstar := F.noStar
  simp only [checkBuiltinCall, F.newKind, F.newSplit, F.newRow]
  repeat (first | refine wpAny_loadPart_at hC ?_ | (refine wpAny_isSubtype_exc hC ?_; rw [hcont]) | refine wpAny_staticBase_exc hC ?_ | refine wpAny_madeBy_exc hC ?_ | simp only [bne_self_eq_false, Bool.false_eq_true, if_false] | wp_step)
  exact hq
end
section
variable {prog : Program} {w : World} {A : Around} {E : Value → Shared → Prop} {R : Result → Shared → Prop} {h : Heap} {g : Array GenState} {d : Drawn} {t : Nat} {os : OsState}
variable {nm q : Str} {C N : Addr} {bs bm bmB : List Value} {hdct : Bool} {sn : List Str} {sub : List Value} {ab : Bool} {col : Option Bool} {dd : Option Addr} {k0 k1 k2 k3 k5 : Option Value} {B newId initId : String} {kw : List (Str × Value)}
theorem my_new (F : ExcBaseFacts B newId initId bmB) (hT : ∀ X : String, bm.contains (.type X) = bmB.contains (.type X)) {rest : List Value}
    (hC : h.get? C = some (excClassObj nm q C N bs bm hdct sn sub ab col dd k0 k1 k2 k3 k5 newId))
    (hq : R (.ok (.ret (.ref (h.objs.size + 1)))) ⟨(h.push { cls := .type "tuple", data := .seq rest.toArray }).push
      { cls := .ref C, data := .fields #[.ref h.objs.size, .none, .none, .none, .bool false, .none] }, g, d, t, os⟩) (hrest : rest.length ≤ sizeLine) :
    codeAny (model prog w) A (.builtin newId ⟨.ref C :: rest, kw⟩) R ⟨h, g, d, t, os⟩ := by
  have hends := F.ends
  have hcB : (Value.ref C :: bm).contains (.type B) = true := by rw [List.contains_cons, hT, F.hasB, Bool.or_true]
  have hcA : (Value.ref C :: bm).contains (.type "AttributeError") = false := by rw [List.contains_cons, hT, F.noAttr]; rfl
  have hcN : (Value.ref C :: bm).contains (.type "NameError") = false := by rw [List.contains_cons, hT, F.noName]; rfl
  refine codeAny_builtinAt F.entry ?_
  unfold Builtin.«BaseException.__new__»
  refine wpAt_bind ?_
  show wpAt _ _ _ (stack >>= _) _ _ _
  refine wpAt_bind (wpAt_stack fun p below => wpAt_of_wpAny ?_)
  wp_walk
  refine wpAt_of_wpAny ?_
  rw [F.owner]
  repeat (first | with_reducible refine wpAny_madeHere_exc F.canon hC ?_ | with_reducible refine wpAny_loadPart_at hC ?_ | (with_reducible refine wpAny_isSubtype_exc hC ?_; first | rw [hcB] | rw [hcA] | rw [hcN]) | wp_step)
  show R _ _
  rw [Heap.size_push]
  exact hq
theorem my_type_call (F : ExcBaseFacts B newId initId bmB) (hT : ∀ X : String, bm.contains (.type X) = bmB.contains (.type X)) {rest : List Value} {fI : Addr} {Q : Fin → Shared → Prop}
    (hC : h.get? C = some (excClassObj nm q C N bs bm hdct sn sub ab col dd k0 k1 k2 k3 k5 newId))
    (hi : W.Looks (model prog w) h (typeLookup (.ref C) "__init__") (some (.ref fI))) (hb : ∀ self, W.Looks (model prog w) h (bindSpecial (.ref fI) self) (.ref fI, [self])) (hrest : rest.length ≤ sizeLine)
    (hq : codeAny (model prog w) A (.call (.ref fI) ⟨.ref (h.objs.size + 1) :: rest, kw⟩)
      (fun r s' => match r with | .ok (.ret v) => v = .none ∧ Q (.done (.ret (.ref (h.objs.size + 1)))) s' | .ok _ => False | .error e => E e s')
      ⟨(h.push (W.kdv_tup rest)).push (excO C h.objs.size), g, d, t, os⟩) :
    wpAny (model prog w) A (Builtin.«type.__call__» ⟨.ref C :: rest, kw⟩) Q E ⟨h, g, d, t, os⟩ := by
  repeat (first | with_reducible refine wpAny_loadPart_at hC ?_ | with_reducible refine wpAny_madeBy_exc hC ?_ | wp_step)
  refine codeAny_call_builtin_code (Code.quiet_builtin _ F.quiet) (my_check_new F hT hC ?_)
  refine my_new F hT hC ?_ hrest
  show wpAny _ _ _ _ _ _
  have k : ∀ b o, h.get? b = some o → ((h.push (W.kdv_tup rest)).push (excO C h.objs.size)).get? b = some o := fun b o e => Heap.get?_push_of_some _ (Heap.get?_push_of_some _ e)
  have hC₁ := k _ _ hC
  have hget : ((h.push (W.kdv_tup rest)).push (excO C h.objs.size)).get? (h.objs.size + 1) = some (excO C h.objs.size) := by heap_get
  have hcC : (Value.ref C :: bm).contains (.ref C) = true := by simp
  have i1 := hi.keeps k
  have b1 := (hb (.ref (h.objs.size + 1))).keeps k
  unfold isInstance
  repeat (first | with_reducible refine wpAny_loadPart_at hget ?_ | (with_reducible refine wpAny_isSubtype_exc hC₁ ?_; rw [hcC]) | wp_step)
  show wpAny _ _ (typeLookup (.ref C) _) _ _ _
  refine i1.at ?_
  refine wpAny_holding (wpAny_bind (b1.at ?_))
  refine wpAny_bind (wpAny_call (codeAny_mono hq fun r s' z => ?_))
  rcases r with e | (v | _ | _ | _) <;> first | exact z | exact z.elim | skip
  obtain ⟨rfl, z⟩ := z
  first
    | exact wpAny_pure (wpAny_pure z)
    | (wp_walk; exact z)
theorem my_check_type_call {M : Model} {rest : List Value} {Q : Unit → Shared → Prop} (hC : h.get? C = some (excClassObj nm q C N bs bm hdct sn sub ab col dd k0 k1 k2 k3 k5 newId))
    (hq : Q () ⟨h, g, d, t, os⟩) : wpAny M A (checkBuiltinCall "type.__call__" ⟨.ref C :: rest, kw⟩) Q E ⟨h, g, d, t, os⟩ := by
  have f3 := tc_sub
  have hT : (⟨h, g, d, t, os⟩ : Shared).TypeIs (.ref C) "type" := ⟨_, hC, rfl⟩
  simp only [checkBuiltinCall, tc_kind, tc_split]
  repeat (any_goals (first | assumption | with_reducible refine wpAny_loadPart_at hC ?_ | with_reducible refine wpAny_onRaise ?_ | with_reducible refine wpAny_map ?_ | wp_step))
theorem my_call_own (F : ExcBaseFacts B newId initId bmB) (hT : ∀ X : String, bm.contains (.type X) = bmB.contains (.type X)) {rest : List Value} {fI : Addr}
    (hC : h.get? C = some (excClassObj nm q C N bs bm hdct sn sub ab col dd k0 k1 k2 k3 k5 newId))
    (hi : W.Looks (model prog w) h (typeLookup (.ref C) "__init__") (some (.ref fI))) (hb : ∀ self, W.Looks (model prog w) h (bindSpecial (.ref fI) self) (.ref fI, [self])) (hrest : rest.length ≤ sizeLine)
    (hq : codeAny (model prog w) (A.under (.builtin "type.__call__" ⟨.ref C :: rest, kw⟩)) (.call (.ref fI) ⟨.ref (h.objs.size + 1) :: rest, kw⟩) (W.InitBack (h.objs.size + 1) R)
      ⟨(h.push (W.kdv_tup rest)).push (excO C h.objs.size), g, d, t, os⟩) :
    codeAny (model prog w) A (.call (.ref C) ⟨rest, kw⟩) R ⟨h, g, d, t, os⟩ := by
  have f1 := tc_lookup
  have f2 := tc_bind (.ref C)
  have hTy : (⟨h, g, d, t, os⟩ : Shared).TypeIs (.ref C) "type" := ⟨_, hC, rfl⟩
  refine codeAny_of_tree ?_
  show wpAny _ _ (callAny (.ref C) _) _ _ _
  repeat (any_goals (first | assumption | with_reducible refine wpAny_loadPart_at hC ?_ | wp_step))
  refine ⟨rfl, ?_⟩
  refine codeAny_call_builtin_at (Code.quiet_builtin _ (by decide +kernel)) entry_typeCall (my_check_type_call hC (my_type_call F hT hC hi hb hrest ?_))
  refine codeAny_mono hq fun r s' z => ?_
  rcases r with e | (v | _ | _ | _) <;> exact z
end
end HandSPX
end PySem
namespace My
open PySem L2
section
variable {X : Cx} {pins : List (Addr × Obj)} {σ : L2.St} {H : Hp} {s : Shared} {a C d : Addr} {fs : List (Str × V)}
/-- an error that is made stands as a value -/
theorem retrack (I : Inv X pins σ H s) (ea : H a = some (exo a C (some d))) (ed : H d = some (exd d fs)) : Inv X pins σ (upd (upd H a (ExD (.ref C) (some d) a)) d (.xd fs)) s := by
  obtain ⟨hp, g, dr, tk, os⟩ := s
  obtain ⟨t1, ho⟩ := exo_at I.hok ea
  obtain ⟨mA, hns, rel⟩ := exd_at I.hok ed
  have hda : d ≠ a := fun z => by
    obtain ⟨o, es, ep, e1, e2, _⟩ := hns
    rw [z, ho] at e1
    have z2 := Option.some.inj e1
    subst z2
    cases e2
  have hd : ∃ o, hp.get? d = some o := by
    obtain ⟨o, _, _, e', _⟩ := hns
    exact ⟨o, e'⟩
  have I1 : Inv X pins σ (upd H a (ExD (.ref C) (some d) a)) ⟨hp, g, dr, tk, os⟩ := I.write (h' := hp) (t' := tk) (x := a) (e := a) (o := ExD (.ref C) (some d) a) (by rw [ea]; exact True.intro) (.inl rfl) (fun b u _ z => z) ⟨_, ho⟩ (exD_ok ho ⟨rfl, rfl⟩ rfl)
  exact I1.write (h' := hp) (t' := tk) (x := d) (e := d) (o := .xd fs) (by rw [upd_ne hda, ed]; exact True.intro) (.inl rfl) (fun b u _ z => z) hd ⟨mA, hns, rel⟩
end
def spI1 (C : Addr) (f : Str) : Sp := fun vs H Q _ => ∃ (a : Addr) (y : V), vs = [.ref a, y] ∧ H a = some (exo a C none) ∧ ∀ d, H d = none → d ≠ a → Q .non (upd (upd H d (exd d [(f, y)])) a (exo a C (some d)))
def spI2 (C : Addr) (f g : Str) : Sp := fun vs H Q _ => ∃ (a : Addr) (y z : V), vs = [.ref a, y, z] ∧ H a = some (exo a C none) ∧ ∀ d, H d = none → d ≠ a → Q .non (upd (upd (upd H d (exd d [(f, y)])) a (exo a C (some d))) d (exd d [(g, z), (f, y)]))
/-- what is asked of __init__ of an error that is made as a value -/
def EQ (a C : Addr) (Q : VK) : VK := fun v H2 => v = .non ∧ ∃ (d : Addr) (fs : List (Str × V)), H2 a = some (exo a C (some d)) ∧ H2 d = some (exd d fs) ∧ Q (.ref a) (upd (upd H2 a (ExD (.ref C) (some d) a)) d (.xd fs))
section
variable {X : Cx} {CX : CXT} {k n : Nat} {fI C : Addr} {fd : FuncData} {ps ks : List Str} {sp : Sp} {x : Str} {p pos : Pos} {e : Expr} {es : List Expr} {kws : List Keyword} {t tk : TA} {g : List Value → List Value → List Value} {gV : List V → List V → List V}
theorem run_mkE {pins : List (Addr × Obj)} {σ : L2.St} {H : Hp} {s : Shared} {Q : VK} {us ws : List Value} {vs zs : List V} (T : OexC X.K C) (iC : PySem.W.findIn X.K (.ref C) "__init__" = some (some (.ref fI))) (tI : PySem.W.typeIn X.K (.ref fI) = some (.type "function"))
    (Fk : FnOk X.prog X.w X.K X.mg X.base CX k fI fd ps sp) (hr : Room (k + 1) X.A) (hb : KBn X.K fd ps (n + 1) ks g gV) (hx : Passes CX X E0) (I : Inv X pins σ H s) (r : Vals vs us) (rz : Vals zs ws) (l1 : vs.length = n) (l2 : zs.length = ks.length) (hn : n ≤ 1000)
    (h : ∀ a, H a = none → sp (gV (.ref a :: vs) zs) (upd H a (exo a C none)) (EQ a C Q) E0) : wpAny (model X.prog X.w) X.A (call (.ref C) us (ks.zip ws)) (EP X pins σ Q) X.xe s := by
  obtain ⟨nm, q, N, bs, bm, sn, sub, ab, col, dd, k0, k1, k2, k3, k5, hC, hbm⟩ := T.cls
  obtain ⟨hp, g0, dr, tk0, os⟩ := s
  have hsz : hp.objs.size ≤ hp.objs.size + 1 := Nat.le_succ _
  have hn1 : H (hp.objs.size + 1) = none := I.hok.fresh hsz
  have hq := h (hp.objs.size + 1) hn1
  have kk : ∀ b o, hp.get? b = some o → ((hp.push (PySem.W.kdv_tup us)).push (PySem.HandSPX.excO C hp.objs.size)).get? b = some o := fun b o e => PySem.Heap.get?_push_of_some _ (PySem.Heap.get?_push_of_some _ e)
  have hget : ((hp.push (PySem.W.kdv_tup us)).push (PySem.HandSPX.excO C hp.objs.size)).get? (hp.objs.size + 1) = some (PySem.HandSPX.excO C hp.objs.size) := by heap_get
  have I2 : Inv X pins σ (upd H (hp.objs.size + 1) (exo (hp.objs.size + 1) C none)) ⟨(hp.push (PySem.W.kdv_tup us)).push (PySem.HandSPX.excO C hp.objs.size), g0, dr, tk0, os⟩ :=
    I.laid (t' := tk0) (a := hp.objs.size + 1) (o := exo (hp.objs.size + 1) C none) (h' := (hp.push (PySem.W.kdv_tup us)).push (PySem.HandSPX.excO C hp.objs.size)) kk hsz (exo_ok hget)
  have r1 : Vals (V.ref (hp.objs.size + 1) :: vs) (Value.ref (hp.objs.size + 1) :: us) := .cons rfl r
  have r2 := hb.rel r1 rz
  have e1 : (Value.ref (hp.objs.size + 1) :: us).length = n + 1 := r1.length.symm.trans (congrArg Nat.succ l1)
  have e2 : ws.length = ks.length := rz.length.symm.trans l2
  have hus : us.length ≤ sizeLine := by
    rw [← Paired.length r, sizeLine_eq]
    omega
  refine wpAny_call (PySem.HandSPX.my_call_own F.excBase_ValueError (fun Y => PySem.HandSPX.refsVE_contains Y bm hbm) (I.kIn _ _ hC) (PySem.W.looks_findIn I.kIn iC) (fun self => PySem.W.bind_fn I.kIn self tI) hus
    (codeAny_mono (FnOk.run Fk _ X.stack _ _ ⟨Value.ref (hp.objs.size + 1) :: us, ks.zip ws⟩ (g (Value.ref (hp.objs.size + 1) :: us) ws) _ _ E0 (hr.make C us (ks.zip ws)) (I2.env0.make C us (ks.zip ws)) (hb.to _ (Value.ref (hp.objs.size + 1) :: us) ws I2.kIn e1 e2) r2 hq) fun r s' hq' => ?_))
  cases r with
  | error er => exact hx pins σ _ _ er s' I2 hq'
  | ok fl =>
    cases fl with
    | ret u =>
      obtain ⟨v, H2, I3, rv, ev, d, fs, ea, ed, q2⟩ := I2.after hq'
      subst ev
      exact ⟨rv, ⟨V.ref (hp.objs.size + 1), _, retrack I3 ea ed, rfl, q2⟩⟩
    | next => exact False.elim hq'
    | brk => exact False.elim hq'
    | cont => exact False.elim hq'
def tMkE (C : Addr) (n : Nat) (sp : Sp) (t : TA) : TE := fun σ H Q => t σ H fun vs H1 => vs.length = n ∧ ∀ a, H1 a = none → sp (.ref a :: vs) (upd H1 a (exo a C none)) (EQ a C Q) E0
/-- C(e, ..) -/
theorem pe_mkE (T : OexC X.K C) (iC : PySem.W.findIn X.K (.ref C) "__init__" = some (some (.ref fI))) (tI : PySem.W.typeIn X.K (.ref fI) = some (.type "function")) (F : FnOk X.prog X.w X.K X.mg X.base CX k fI fd ps sp) (hr : Room (k + 1) X.A) (hb : KBn X.K fd ps (n + 1) [] (fun us _ => us) (fun vs _ => vs)) (hx : Passes CX X E0) (hn : n ≤ 1000)
    (hg : Gl X x) (hm : X.mg x = some (.ref C)) (ha : PA X (e :: es) t) (hdb : (x == ("__debug__" : Str)) = false := by decide) (he : starEach (e :: es) X.env = (false, eval e X.env) :: starEach es X.env := by rfl) (hpl : (backTo pos (starEach es X.env)).any (·.1) = false := by rfl) :
    PE X (.Call (.Name x p) (e :: es) [] pos) (tMkE C n sp t) := by
  refine ⟨fun pins s σ H Q I h => ?_⟩
  refine wpAny_Call_Name_kw (ld_glob I hg hm ?_ hdb)
  refine PySem.W.callWith_K (h₀ := X.base) I.ok.mod.kin T.kC (thn (ha.run pos pins s σ H _ I h) fun us s1 ⟨vs, H1, I1, r, l1, q⟩ => ⟨I1.kIn, ?_⟩) he hpl
  exact run_mkE (ks := []) (ws := []) (zs := []) T iC tI F hr hb hx I1 r .nil l1 rfl hn q
def tMkEK (C : Addr) (n : Nat) (sp : Sp) (gV : List V → List V → List V) (t : TA) : TE := fun σ H Q => t σ H fun zs H1 => zs.length = n ∧ ∀ a, H1 a = none → sp (gV [.ref a] zs) (upd H1 a (exo a C none)) (EQ a C Q) E0
/-- C(k = e, ..) -/
theorem pe_mkEK (T : OexC X.K C) (iC : PySem.W.findIn X.K (.ref C) "__init__" = some (some (.ref fI))) (tI : PySem.W.typeIn X.K (.ref fI) = some (.type "function")) (F : FnOk X.prog X.w X.K X.mg X.base CX k fI fd ps sp) (hr : Room (k + 1) X.A) (hb : KBn X.K fd ps 1 ks g gV) (hx : Passes CX X E0)
    (hg : Gl X x) (hm : X.mg x = some (.ref C)) (hkw : PK X kws tk)
    (hall : (backToKw pos (keywordEach kws X.env)).all (·.1.isSome) = true := by rfl) (hks : (backToKw pos (keywordEach kws X.env)).filterMap (·.1) = ks := by rfl) (hdb : (x == ("__debug__" : Str)) = false := by decide)
    (hpl : ((backTo pos (starEach [] X.env)).any (·.1) || (backToKw pos (keywordEach kws X.env)).any (·.1.isNone)) = false := by rfl) :
    PE X (.Call (.Name x p) [] kws pos) (tMkEK C ks.length sp gV tk) := by
  refine ⟨fun pins s σ H Q I h => ?_⟩
  refine wpAny_Call_Name_kw (ld_glob I hg hm ?_ hdb)
  refine PySem.W.callWith_KW0 (h₀ := X.base) I.ok.mod.kin T.kC hall ?_ hpl
  refine thn (hkw.run pos pins s σ H _ I h) fun ws s2 ⟨zs, H2, I2, rz, l2, q2⟩ => ⟨I2.kIn, ?_⟩
  rw [hks]
  exact run_mkE (us := []) (vs := []) (n := 0) T iC tI F hr hb hx I2 .nil rz rfl l2 (Nat.zero_le _) q2
/-- C(), no __init__ of its own -/
theorem pe_mk0 {bmB : List Value} {B newId initId : String} (F : ExcBaseFacts B newId initId bmB) (q : PySem.W.excIn X.K C bmB newId = true) (gC : X.mg x = some (.ref C)) (kC : PySem.W.keepIn X.K (.ref C) = true) (hg : Gl X x) (hdb : (x == ("__debug__" : Str)) = false := by decide) :
    PE X (.Call (.Name x p) [] [] pos) (fun _ H Q => ∀ a, H a = none → Q (.ref a) (upd H a (ExD (.ref C) none a))) := by
  refine ⟨fun pins s σ H Q I h => ?_⟩
  refine wpAny_Call_Name_kw (ld_glob I hg gC ?_ hdb)
  refine PySem.W.callWith_K0 I.kIn kC ?_
  obtain ⟨bm, N, nm, qn, bs, hdct, sn, sub, ab, col, dd, k0, k1, k2, k3, k5, mN, hC, hN, hni, T⟩ := exc_obj I.kIn q
  refine wpAny_call_exc_subT F T hC hN hni (fun h' a hm => ?_) (Nat.zero_le _)
  have hn : H a = none := I.hok.gone hm.new
  obtain ⟨t, ht, _, _⟩ := hm.there
  exact ⟨.ref a, upd H a (ExD (.ref C) none a), I.laidN hm.keeps hm.new hn (exD_ok ht ⟨rfl, rfl⟩ rfl), rfl, h a hn⟩
end
/-! ### the fields as a caller sees them -/
/-- one field -/
structure E1 (P : Program) (w : World) (K : PySem.W.Frag) (mg : Str → Option Value) (base : Heap) (C : Addr) (x f : Str) : Prop where
  T : OexC K C
  gC : mg x = some (.ref C)
  ex : ∃ (fI : Addr) (fd : FuncData), PySem.W.findIn K (.ref C) "__init__" = some (some (.ref fI)) ∧ PySem.W.typeIn K (.ref fI) = some (.type "function") ∧ FnOk P w K mg base CX0 1 fI fd ["self", f] (spI1 C f) ∧
    KBn K fd ["self", f] 2 [] (fun us _ => us) (fun vs _ => vs) ∧ KBn K fd ["self", f] 1 [f] (fun us ws => us ++ ws) (fun vs zs => vs ++ zs) ∧ Binds K fd ["self", f] []
structure E2 (P : Program) (w : World) (K : PySem.W.Frag) (mg : Str → Option Value) (base : Heap) (C : Addr) (x f g : Str) : Prop where
  T : OexC K C
  gC : mg x = some (.ref C)
  ex : ∃ (fI : Addr) (fd : FuncData), PySem.W.findIn K (.ref C) "__init__" = some (some (.ref fI)) ∧ PySem.W.typeIn K (.ref fI) = some (.type "function") ∧ FnOk P w K mg base CX0 1 fI fd ["self", f, g] (spI2 C f g) ∧
    KBn K fd ["self", f, g] 3 [] (fun us _ => us) (fun vs _ => vs) ∧ KBn K fd ["self", f, g] 1 [g, f] (fun us ws => us ++ ws.reverse) (fun vs zs => vs ++ zs.reverse) ∧ Binds K fd ["self", f, g] []
def tE1 (C : Addr) (f : Str) (t : TA) : TE := fun σ H Q => t σ H fun vs H1 => ∃ y, vs = [y] ∧ ∀ a, H1 a = none → ∀ H', Same H1 H' → Er H' a C [(f, y)] → Q (.ref a) H'
def tE2 (C : Addr) (f g : Str) (t : TA) : TE := fun σ H Q => t σ H fun vs H1 => ∃ y z, vs = [y, z] ∧ ∀ a, H1 a = none → ∀ H', Same H1 H' → Er H' a C [(g, z), (f, y)] → Q (.ref a) H'
def tE2R (C : Addr) (f g : Str) (t : TA) : TE := fun σ H Q => t σ H fun vs H1 => ∃ y z, vs = [z, y] ∧ ∀ a, H1 a = none → ∀ H', Same H1 H' → Er H' a C [(g, z), (f, y)] → Q (.ref a) H'
section
variable {X : Cx} {C : Addr} {x f g : Str} {p pos : Pos} {e e' : Expr} {kws : List Keyword} {t tk : TA}
theorem end1 {H1 : Hp} {a : Addr} {y : V} {Q : VK} (ha : H1 a = none) (q : ∀ H', Same H1 H' → Er H' a C [(f, y)] → Q (.ref a) H') :
    ∀ d, (upd H1 a (exo a C none)) d = none → d ≠ a → (EQ a C Q) .non (upd (upd (upd H1 a (exo a C none)) d (exd d [(f, y)])) a (exo a C (some d))) := by
  intro d hd nda
  have hd1 : H1 d = none := by rw [upd_ne nda] at hd; exact hd
  refine ⟨rfl, d, [(f, y)], upd_same, by rw [upd_ne nda]; exact upd_same, q _ (fun c o z => ?_) ⟨some d, by rw [upd_ne (Ne.symm nda)]; exact upd_same, .inr ⟨d, rfl, upd_same⟩⟩⟩
  have n1 : c ≠ a := ne_of_none z ha
  have n2 : c ≠ d := ne_of_none z hd1
  rw [upd_ne n2, upd_ne n1, upd_ne n1, upd_ne n2, upd_ne n1]
  exact z
theorem end2 {H1 : Hp} {a : Addr} {y z : V} {Q : VK} (ha : H1 a = none) (q : ∀ H', Same H1 H' → Er H' a C [(g, z), (f, y)] → Q (.ref a) H') :
    ∀ d, (upd H1 a (exo a C none)) d = none → d ≠ a → (EQ a C Q) .non (upd (upd (upd (upd H1 a (exo a C none)) d (exd d [(f, y)])) a (exo a C (some d))) d (exd d [(g, z), (f, y)])) := by
  intro d hd nda
  have hd1 : H1 d = none := by rw [upd_ne nda] at hd; exact hd
  refine ⟨rfl, d, [(g, z), (f, y)], by rw [upd_ne (Ne.symm nda)]; exact upd_same, upd_same, q _ (fun c o z => ?_) ⟨some d, by rw [upd_ne (Ne.symm nda)]; exact upd_same, .inr ⟨d, rfl, upd_same⟩⟩⟩
  have n1 : c ≠ a := ne_of_none z ha
  have n2 : c ≠ d := ne_of_none z hd1
  rw [upd_ne n2, upd_ne n1, upd_ne n2, upd_ne n1, upd_ne n2, upd_ne n1]
  exact z
/-- C(e) -/
theorem pe_e1 (O : E1 X.prog X.w X.K X.mg X.base C x f) (hr : Room 2 X.A) (ha : PA X [e] t) (hg : Gl X x := by rfl) (hdb : (x == ("__debug__" : Str)) = false := by decide) (he : starEach [e] X.env = (false, eval e X.env) :: starEach [] X.env := by rfl) :
    PE X (.Call (.Name x p) [e] [] pos) (tE1 C f t) := by
  obtain ⟨fI, fd, iC, tI, F, b, _⟩ := O.ex
  refine ⟨fun pins s σ H Q I h => ?_⟩
  refine wpAny_Call_Name_kw (ld_glob I hg O.gC ?_ hdb)
  refine PySem.W.callWith_K (h₀ := X.base) I.ok.mod.kin O.T.kC (thn (ha.run pos pins s σ H _ I h) fun us s1 ⟨vs, H1, I1, r, y, ev, q⟩ => ⟨I1.kIn, ?_⟩) he (by rfl)
  subst ev
  exact run_mkE (n := 1) (ks := []) (ws := []) (zs := []) O.T iC tI F hr b pass0 I1 r .nil rfl rfl (by decide) fun a ha' => ⟨a, y, rfl, upd_same, end1 ha' (q a ha')⟩
/-- C(f = e) -/
theorem pe_e1K (O : E1 X.prog X.w X.K X.mg X.base C x f) (hr : Room 2 X.A) (hkw : PK X kws t) (hks : (backToKw pos (keywordEach kws X.env)).filterMap (·.1) = [f] := by rfl) (hg : Gl X x := by rfl) (hall : (backToKw pos (keywordEach kws X.env)).all (·.1.isSome) = true := by rfl) (hdb : (x == ("__debug__" : Str)) = false := by decide)
    (hpl : ((backTo pos (starEach [] X.env)).any (·.1) || (backToKw pos (keywordEach kws X.env)).any (·.1.isNone)) = false := by rfl) : PE X (.Call (.Name x p) [] kws pos) (tE1 C f t) := by
  obtain ⟨fI, fd, iC, tI, F, _, b, _⟩ := O.ex
  refine ⟨fun pins s σ H Q I h => ?_⟩
  refine wpAny_Call_Name_kw (ld_glob I hg O.gC ?_ hdb)
  refine PySem.W.callWith_KW0 (h₀ := X.base) I.ok.mod.kin O.T.kC hall ?_ hpl
  refine thn (hkw.run pos pins s σ H _ I h) fun ws s2 ⟨zs, H1, I1, r, y, ev, q⟩ => ⟨I1.kIn, ?_⟩
  subst ev
  rw [hks]
  exact run_mkE (us := []) (vs := []) (n := 0) O.T iC tI F hr b pass0 I1 .nil r rfl rfl (Nat.zero_le _) fun a ha' => ⟨a, y, rfl, upd_same, end1 ha' (q a ha')⟩
/-- C(e, e') -/
theorem pe_e2 (O : E2 X.prog X.w X.K X.mg X.base C x f g) (hr : Room 2 X.A) (ha : PA X [e, e'] t) (hg : Gl X x := by rfl) (hdb : (x == ("__debug__" : Str)) = false := by decide) (he : starEach [e, e'] X.env = (false, eval e X.env) :: starEach [e'] X.env := by rfl) (hpl : (backTo pos (starEach [e'] X.env)).any (·.1) = false := by rfl) :
    PE X (.Call (.Name x p) [e, e'] [] pos) (tE2 C f g t) := by
  obtain ⟨fI, fd, iC, tI, F, b, _⟩ := O.ex
  refine ⟨fun pins s σ H Q I h => ?_⟩
  refine wpAny_Call_Name_kw (ld_glob I hg O.gC ?_ hdb)
  refine PySem.W.callWith_K (h₀ := X.base) I.ok.mod.kin O.T.kC (thn (ha.run pos pins s σ H _ I h) fun us s1 ⟨vs, H1, I1, r, y, z, ev, q⟩ => ⟨I1.kIn, ?_⟩) he hpl
  subst ev
  exact run_mkE (n := 2) (ks := []) (ws := []) (zs := []) O.T iC tI F hr b pass0 I1 r .nil rfl rfl (by decide) fun a ha' => ⟨a, y, z, rfl, upd_same, end2 ha' (q a ha')⟩
/-- C(g = e', f = e) -/
theorem pe_e2K (O : E2 X.prog X.w X.K X.mg X.base C x f g) (hr : Room 2 X.A) (hkw : PK X kws t) (hks : (backToKw pos (keywordEach kws X.env)).filterMap (·.1) = [g, f] := by rfl) (hg : Gl X x := by rfl) (hall : (backToKw pos (keywordEach kws X.env)).all (·.1.isSome) = true := by rfl) (hdb : (x == ("__debug__" : Str)) = false := by decide)
    (hpl : ((backTo pos (starEach [] X.env)).any (·.1) || (backToKw pos (keywordEach kws X.env)).any (·.1.isNone)) = false := by rfl) : PE X (.Call (.Name x p) [] kws pos) (tE2R C f g t) := by
  obtain ⟨fI, fd, iC, tI, F, _, b, _⟩ := O.ex
  refine ⟨fun pins s σ H Q I h => ?_⟩
  refine wpAny_Call_Name_kw (ld_glob I hg O.gC ?_ hdb)
  refine PySem.W.callWith_KW0 (h₀ := X.base) I.ok.mod.kin O.T.kC hall ?_ hpl
  refine thn (hkw.run pos pins s σ H _ I h) fun ws s2 ⟨zs, H1, I1, r, y, z, ev, q⟩ => ⟨I1.kIn, ?_⟩
  subst ev
  rw [hks]
  exact run_mkE (us := []) (vs := []) (n := 0) O.T iC tI F hr b pass0 I1 .nil r rfl rfl (Nat.zero_le _) fun a ha' => ⟨a, y, z, rfl, upd_same, end2 ha' (q a ha')⟩
end
/-- what raise C(e, e') asks at its end -/
theorem end2X {f g : Str} {C : Addr} {H1 : Hp} {a : Addr} {y z : V} {Q : XK} (ha : H1 a = none) (q : ∀ d H', H1 d = none → Same H1 H' → H' d = some (.xd [(g, z), (f, y)]) → Q (.ref C) (some d) H') :
    spI2 C f g [.ref a, y, z] (upd H1 a (exo a C none)) (fun v H2 => v = .non ∧ ∃ (d : Addr) (fs : List (Str × V)), H2 a = some (exo a C (some d)) ∧ H2 d = some (exd d fs) ∧ H1 d = none ∧ Q (.ref C) (some d) (upd (del H2 a) d (.xd fs))) (fun _ _ _ => False) := by
  refine ⟨a, y, z, rfl, upd_same, fun d hd nda => ?_⟩
  have hd1 : H1 d = none := by rw [upd_ne nda] at hd; exact hd
  refine ⟨rfl, d, [(g, z), (f, y)], by rw [upd_ne (Ne.symm nda)]; exact upd_same, upd_same, hd1, q d _ hd1 (fun c o w => ?_) upd_same⟩
  have n1 : c ≠ a := ne_of_none w ha
  have n2 : c ≠ d := ne_of_none w hd1
  rw [upd_ne n2, L2.del_ne n1, upd_ne n2, upd_ne n1, upd_ne n2, upd_ne n1]
  exact w
theorem end1X {f : Str} {C : Addr} {H1 : Hp} {a : Addr} {y : V} {Q : XK} (ha : H1 a = none) (q : ∀ d H', H1 d = none → Same H1 H' → H' d = some (.xd [(f, y)]) → Q (.ref C) (some d) H') :
    spI1 C f [.ref a, y] (upd H1 a (exo a C none)) (fun v H2 => v = .non ∧ ∃ (d : Addr) (fs : List (Str × V)), H2 a = some (exo a C (some d)) ∧ H2 d = some (exd d fs) ∧ H1 d = none ∧ Q (.ref C) (some d) (upd (del H2 a) d (.xd fs))) (fun _ _ _ => False) := by
  refine ⟨a, y, rfl, upd_same, fun d hd nda => ?_⟩
  have hd1 : H1 d = none := by rw [upd_ne nda] at hd; exact hd
  refine ⟨rfl, d, [(f, y)], upd_same, by rw [upd_ne nda]; exact upd_same, hd1, q d _ hd1 (fun c o w => ?_) upd_same⟩
  have n1 : c ≠ a := ne_of_none w ha
  have n2 : c ≠ d := ne_of_none w hd1
  rw [upd_ne n2, L2.del_ne n1, upd_ne n1, upd_ne n2, upd_ne n1]
  exact w
/-! ### try: .. except x as n: .., the error kept -/
theorem trackD {X : Cx} {pins : List (Addr × Obj)} {σ : L2.St} {H : Hp} {s : Shared} {a : Addr} {oe : Obj} {cls : Value} {d : Option Addr} {vs : Array Value} (I : Inv X ((a, oe) :: pins) σ H s) (h0 : X.s_0.heap.get? a = none) (hz : Zc cls d oe) (hd : oe.data = Data.fields vs) (hne : ∀ p ∈ X.pn ++ pins, p.1 ≠ a) : Inv X pins σ (upd H a (ExD cls d a)) s := by
  have hp := I.pin (a, oe) (List.mem_append_right _ List.mem_cons_self)
  obtain ⟨ha, hn, hl, hf, hc⟩ := hp
  have hn : H a = none := hn
  have ha : s.heap.get? a = some oe := ha
  refine ⟨I.ok, I.os, I.bare, ?_, I.loc, I.cell, ?_, ?_, ?_, ?_, I.len⟩
  · obtain ⟨k1, k2, k3, k4, k5, k6, k7⟩ := I.base
    refine ⟨k1, k2, fun b o e n hb => ?_, k4, fun b xs e => ?_, fun b o u e => ?_, fun b ps e => ?_⟩
    · rw [upd_ne (fun z => by rw [z, h0] at e; cases e)]
      exact k3 b o e n hb
    · exact upd_at (k5 b xs e) (ne_of_none (k5 b xs e) hn)
    · exact upd_at (k6 b o u e) (ne_of_none (k6 b o u e) hn)
    · obtain ⟨m, e2⟩ := k7 b ps e
      exact ⟨m, upd_at e2 (ne_of_none e2 hn)⟩
  · rw [upd_ne (Ne.symm hl)]
    exact I.free
  · intro x c e
    obtain ⟨v, o, ho, hd2⟩ := I.cell x c e
    have : c ≠ a := fun z => by
      rw [z, ha] at ho
      cases ho
      exact hc v hd2
    rw [upd_ne this]
    exact I.freeC x c e
  · intro p hp
    obtain ⟨q1, q2, q3, q4, q5⟩ := I.pin p (by
      rcases List.mem_append.mp hp with z | z
      · exact List.mem_append_left _ z
      · exact List.mem_append_right _ (List.mem_cons_of_mem _ z))
    exact ⟨q1, by rw [upd_ne (hne p hp)]; exact q2, q3, q4, q5⟩
  · intro b u e
    by_cases hb : b = a
    · subst hb
      rw [upd_same] at e
      cases e
      exact exD_ok ha hz hd
    · rw [upd_ne hb] at e
      exact ObjOk.stay (I.hok b u e) (fun _ _ _ z => z) (fun c z => upd_at z (ne_of_none z hn)) fun c xs z => upd_at z (ne_of_none z hn)
def wD (cls : Value) (i : Nat) (ts : Addr → TS) (D : Ends) : WX := fun cls' d σ H => cls' = cls ∧ ∀ a, H a = none → ts a { nx := fun σ' H' => H' a = none → D.nx (σ'.set i none) (upd H' a (ExD cls d a)), rt := D.rt, bk := fun σ' H' => D.bk (σ'.set i none) H', ct := fun σ' H' => D.ct (σ'.set i none) H' } (σ.set i (some (.ref a))) H
/-- try: .. except x as n: ..; the error with its dict is tracked behind the suite -/
theorem ps_try_asD {X : Cx} {x n : Str} {c cls : Value} {i : Nat} {body suite : List Stmt} {b₀ : Stmt} {np pos pos' : Pos} {tb : WX → TS} {ts : Addr → TS} (hs : X.stack = X.env :: X.outer) (hf : X.env.frame = some X.env.locals) (hN : X.N.Nodup) (hi : X.N[i]? = some n) (hln : X.env.kindOf n = some NameKind.local) (hg : Gl X x) (hdb : (x == ("__debug__" : Str)) = false) (hmg : X.mg x = some c) (hex : X.ex = []) (hm : PySem.W.exmOne X.K cls c = some true)
    (hb : ∀ (W : WX) (pn : List (Addr × Obj)) (xe : Value → Shared → Prop), Takes (X.tr pn xe) W → PassesOwn (model X.prog X.w) X.A X.env xe → PSs (X.tr pn xe) body (tb W))
    (hsu : ∀ (a : Addr) (oe : Obj) (d : Option Addr) (pn : List (Addr × Obj)), Zc cls d oe → (∃ vs, oe.data = Data.fields vs) → PSs (X.suite a ((a, oe) :: pn)) (b₀ :: suite) (ts a)) :
    PS X (.Try body [.ExceptHandler (some (.Name x np)) (some n) (b₀ :: suite) pos'] [] [] pos) (fun D σ H => tb (wD cls i ts D) D σ H) := by
  refine ⟨fun pins s σ H D I h => ?_⟩
  have ok := I.ok
  have hfr : X.A.frames = some (X.env :: X.outer) := by rw [ok.frames, hs]
  refine wpAny_Try_except (wpAny_mono ((hb (wD cls i ts D) (X.pn ++ pins) _ ?_ PassesOwn.looking).run [] s σ H D (Inv.toTry I _) h) ?_ fun e s1 he => he)
  · rintro u s' ⟨a, B, sI, pins', σ', H', cls', d, rfl, J', nb, up, sky, na, os, ag, rfl, hy⟩
    have J := Inv.ofTry J' ok
    have sky' : Sky B (X.env :: X.outer) a (Zc cls' d) X.env.locals s'.heap := by rw [← hs]; exact sky
    refine Sky.land Zc.steady hfr hf sky' fun h3 fl3 up3 => ?_
    have J3 := Inv.landed (s' := { s' with heap := h3 }) J nb fl3.1 (up.trans up3) os ag
    obtain ⟨oe3, vs3, he3, hz3, hd3⟩ := HandSPX.FlyingZ.there fl3
    have nfr : a ∉ List.filterMap (fun x => x.frame) (X.env :: X.outer) := fun hm' => by
      obtain ⟨_, o', e', hnf⟩ := Heap.FunFrames.mem fl3.2.2.1 hm'
      rw [he3] at e'
      cases e'
      exact hnf vs3 hd3
    have nL : a ≠ X.env.locals := fun z => nfr (List.mem_filterMap.mpr ⟨X.env, List.mem_cons_self, by rw [hf, z]⟩)
    have nF : a ∉ X.fs := fun hm' => by
      obtain ⟨e, he, q⟩ := List.mem_filterMap.mp hm'
      exact nfr (List.mem_filterMap.mpr ⟨e, List.mem_cons_of_mem _ he, q⟩)
    have S3 := Inv.suite J3 he3 hd3 na nL nF
    have aB : B.get? a = none := fl3.2.1
    have fra : a ∉ frs X.stack := by rw [hs]; exact nfr
    have aI : sI.heap.get? a = none := by
      cases e : sI.heap.get? a with
      | none => rfl
      | some o => rw [nb a o e fra] at aB; cases aB
    have h0 : X.s_0.heap.get? a = none := by
      cases e : X.s_0.heap.get? a with
      | none => rfl
      | some o =>
        by_cases hx : a ∈ X.ex
        · rw [hex] at hx; cases hx
        · obtain ⟨o', e'⟩ := J.base.there a o e hx
          rw [aI] at e'
          cases e'
    have hne : ∀ p ∈ X.pn ++ pins, p.1 ≠ a := fun p hp z => by
      have := (J.pin p hp).1
      rw [z, aI] at this
      cases this
    refine wpAny_handleBy_cons (codeAny_handlers_test ?_) (by intro z; cases z)
    refine ld_glob (X := X.suite a ((a, oe3) :: (X.pn ++ pins))) S3 hg hmg ?_ hdb
    have LT : PySem.W.Looks (model X.prog X.w) h3 (typeOf (.ref a)) cls' := fun A Q E s hk hq => by
      refine wpAny_typeOf_ref (hk a oe3 he3) ?_
      rw [hz3.1]
      exact hq
    refine PySem.W.Looks.here (PySem.W.exm_one S3.kIn LT hm) ?_
    refine codeAny_handlers_suite_as (HandSPX.lands_againZ fl3 fun h4 fl4 up4 => ?_)
    have J4 := Inv.landed (s' := { s' with heap := h4 }) J nb fl4.1 ((up.trans up3).trans up4) os ag
    obtain ⟨oe4, vs4, he4, hz4, hd4⟩ := HandSPX.FlyingZ.there fl4
    have S4 := Inv.suite J4 he4 hd4 na nL nF
    refine store_ok (X := X.suite a ((a, oe4) :: (X.pn ++ pins))) (v := .ref a) S4 hN hi (Or.inl hln) rfl (fun s5 S5 => ?_) (Or.inr hln)
    refine wpAny_mono ((hsu a oe4 d (X.pn ++ pins) hz4 ⟨vs4, hd4⟩).run [] s5 _ H' _ S5 (hy a na)) ?_ fun e s he => he.elim
    intro f s6 hsp
    cases f with
    | next =>
      obtain ⟨σ6, H6, S6, hq⟩ := hsp
      have S6' := unsuite2 S6 ok
      refine gone_ok S6' hN hi hln fun s7 S7 => ⟨_, _, trackD S7 h0 hz4 hd4 hne, hq ?_⟩
      exact (S7.pin (a, oe4) (List.mem_append_right _ List.mem_cons_self)).2.1
    | brk =>
      obtain ⟨σ6, H6, S6, hq⟩ := hsp
      exact gone_ok (Inv.unsuite S6 ok) hN hi hln fun s7 S7 => ⟨_, _, S7, hq⟩
    | cont =>
      obtain ⟨σ6, H6, S6, hq⟩ := hsp
      exact gone_ok (Inv.unsuite S6 ok) hN hi hln fun s7 S7 => ⟨_, _, S7, hq⟩
    | ret v =>
      obtain ⟨v', σ6, H6, S6, r, hq⟩ := hsp
      exact gone_ok (Inv.unsuite S6 ok) hN hi hln fun s7 S7 => ⟨v', _, _, S7, r, hq⟩
  · intro f s1 hsp
    cases f with
    | next =>
      obtain ⟨σ', H', J', q⟩ := hsp
      exact wpAny_execs_nil ⟨σ', H', Inv.ofTry J' ok, q⟩
    | brk =>
      obtain ⟨σ', H', J', q⟩ := hsp
      exact ⟨σ', H', Inv.ofTry J' ok, q⟩
    | cont =>
      obtain ⟨σ', H', J', q⟩ := hsp
      exact ⟨σ', H', Inv.ofTry J' ok, q⟩
    | ret v =>
      obtain ⟨v', σ', H', J', r, q⟩ := hsp
      exact ⟨v', σ', H', Inv.ofTry J' ok, r, q⟩
/-! ### lists of unlike lengths -/
def rEqLen : R2 := fun x y H Q => ∃ (a b : Addr) (xs ys : List V), x = .ref a ∧ y = .ref b ∧ H a = some (.lst xs) ∧ H b = some (.lst ys) ∧ xs.length ≠ ys.length ∧ Q (.bl false) H
theorem op_eqLen {X : Cx} (hu : X.A.units < cLine) : OpR X (compareOp .Eq) rEqLen := by
  intro pins s σ H x y v u Q I rx ry h
  obtain ⟨a, b, xs, ys, rfl, rfl, ha, hb, hl, q⟩ := h
  obtain rfl : v = Value.ref a := rx
  obtain rfl : u = Value.ref b := ry
  obtain ⟨_, is, n, vi, ei⟩ := (show ObjOk X.prog X.w H s.heap a (.lst xs) from I.hok a _ ha)
  obtain ⟨_, js, m, vj, ej⟩ := (show ObjOk X.prog X.w H s.heap b (.lst ys) from I.hok b _ hb)
  refine SeqAt.eq_list_lengthsAt (items := is.toArray) (items2 := js.toArray) ⟨_, ei, rfl, n, rfl⟩ ⟨_, ej, rfl, m, rfl⟩ ?_ hu ⟨.bl false, H, I, rfl, q⟩
  rw [bne_iff_ne]
  intro z
  simp only [List.size_toArray] at z
  exact hl (by rw [vi.length, vj.length, z])
end My

/-! own classes: in, abs, ==, n * x -/
namespace PySem.W
open PySem PySem.Spec PySem.Calls PyProof.Rows
section
variable {prog : Program} {w : World} {A : Around} {E : Value → Shared → Prop} {s : Shared} {h₀ : Heap} {L : Addr} {m : Str → Option Value} {K : Frag} {x C f : Addr} {ox : Obj} {od : Option Obj}
theorem my_abs_K {Q : Value → Shared → Prop} (F : Fr h₀ L s.heap m) (X₀ : K.In h₀) (I : InstAt s.heap x ox C od) (hs : findIn K (.ref C) "__abs__" = some (some (.ref f))) (hf : isFn K (.ref f) = true)
    (h : wpAny (model prog w) A.in1 (call (.ref f) [.ref x]) Q E s) : wpAny (model prog w) A (call (.builtin "abs") [.ref x]) Q E s := by
  refine Calls.call_function_entry kind_abs plain_abs entry_abs (args_abs _) ?_
  unfold Builtin.«abs»
  refine wpAny_bind (m := oneArg "abs" _) (wpAny_pure ?_)
  refine wpAny_bind (m := callSpecial? (.ref x) (Str.ofString "__abs__")) (special_fn (X₀.keeps F.keep) I hs (beq_iff_eq.mp hf) (wpAny_mono h (fun r s' hr => ?_) fun _ _ y => y))
  exact wpAny_pure ⟨_, rfl, hr⟩
theorem my_declines {i : Int} {t : Tok} {Q : Option Value → Shared → Prop} (hx : s.heap.get? x = some ox) (hd : ∀ i u, ox.data ≠ .prim (.int i u)) (h : Q none s) : wpAny (model prog w) A (tryMethod (.int i t) (PySem.dunder "mul") (.ref x)) Q E s := by
  have h1 := F.slot_int_mul
  have h2 := typeIs_int s i t
  refine @wpAny_tryMethod_declines (model prog w) A E s (.int i t) (.ref x) "int" (PySem.dunder "mul") "int.__mul__" Q h2 h1 ?_
  have h2 := F.entry_int_mul
  have h3 := F.args_int_mul_2 (.int i t) (.ref x)
  refine wpAny_call_entry h1 (typeIs_int s i t) h2 ?_ h3
  unfold Builtin.«int.__mul__» Builtin.Int.intBinary
  refine wpAny_bind (wpAny_of_eq (a := (Value.int i t, [Value.ref x])) (by rfl) ?_)
  refine wpAny_bind (wpAny_of_eq (a := i) (by rfl) ?_)
  refine wpAny_bind ?_
  show wpAny _ _ (load x >>= fun o => _) _ _ _
  refine wpAny_bind (wpAny_load hx ?_)
  split
  · rename_i j u e
    exact absurd e (hd j u)
  · refine wpAny_pure ?_
    show wpAny (model prog w) A.in1 (rule "int.binary.not-an-int" >>= fun _ => ret Value.notImplemented) _ E s
    obtain ⟨hp, g, d, tk, os⟩ := s
    wp_walk
    exact ⟨_, rfl, rfl, h⟩
theorem my_binR {i : Int} {t : Tok} {g : Addr} {fo ro : Option Value} {Q : Value → Shared → Prop} (F : Fr h₀ L s.heap m) (X₀ : K.In h₀) (I : InstAt s.heap x ox C od) (hd : ∀ i u, ox.data ≠ .prim (.int i u)) (hc : selfFirst K C = true)
    (hs : findIn K (.ref C) (PySem.dunder "mul") = some (some (.ref f))) (hr : findIn K (.ref C) (dunderR "mul") = some (some (.ref g))) (hg : isFn K (.ref g) = true)
    (h1 : findIn K (.type "int") (PySem.dunder "mul") = some fo) (h2 : findIn K (.type "int") (dunderR "mul") = some ro) (hsub : subIn K (.ref C) (.type "int") = some false)
    (h : wpAny (model prog w) A (call (.ref g) [.ref x, .int i t]) (CmpBack Q) E s) : wpAny (model prog w) A (binaryOp .Mult (.int i t) (.ref x)) Q E s := by
  have X := X₀.keeps F.keep
  obtain ⟨cd, rest, hcd, hm⟩ := ksp_first hc
  have hi : Operator.info .Mult = ("*", "mul") := rfl
  have one := ksp_try X I hr hg h
  have two : ∀ {Q : Option Value → Shared → Prop}, Q none s → wpAny (model prog w) A (tryMethod (.int i t) (PySem.dunder "mul") (.ref x)) Q E s := fun q => my_declines I.at_ hd q
  obtain ⟨hh, g, d, tt, os⟩ := s
  have L1 : Looks (model prog w) hh (typeOf (.int i t)) (.type "int") := Looks.of_pure rfl
  have L2 : Looks (model prog w) hh (typeOf (.ref x)) (.ref C) := I.type
  have L3 : Looks (model prog w) hh (fillsNumberSlot (.ref C) "mul") true := fills_K X hcd hm hs
  have L4 : Looks (model prog w) hh (fillsNumberSlot (.type "int") "mul") ((fo.isSome && !isSeqSlot fo) || (ro.isSome && !isSeqSlot ro)) := ksp_fillsT X h1 h2
  have L5 : Looks (model prog w) hh (isSubtype (.ref C) (.type "int")) false := looks_subIn X hsub
  have L7 : Looks (model prog w) hh (numberSlotInPython (.type "int") "mul") false := Looks.of_pure rfl
  generalize ((fo.isSome && !isSeqSlot fo) || (ro.isSome && !isSeqSlot ro)) = left at L4
  have hne : (Value.type "int" == Value.ref C) = false := Bool.eq_false_iff.mpr fun q => by cases beq_iff_eq.mp q
  simp only [binaryOp, hi]
  refine wpAny_holding (wpAny_bind ?_)
  unfold binaryOp1
  refine wpAny_bind (L1.at (wpAny_bind (L2.at (wpAny_bind (L4.at ?_)))))
  simp only [hne, Bool.false_eq_true, if_false]
  cases left with
  | false =>
    ksp_lk
    refine wpAny_mono one (fun r s' hr' => ?_) fun _ _ e => e
    obtain ⟨v, rfl, hq⟩ := hr'
    ksp_lk
    exact hq
  | true =>
    ksp_lk
    refine two ?_
    ksp_lk
    refine wpAny_mono one (fun r s' hr' => ?_) fun _ _ e => e
    obtain ⟨v, rfl, hq⟩ := hr'
    ksp_lk
    exact hq
end
end PySem.W
namespace My
open PySem L2 PySem.W
section
variable {X : Cx} {CX : CXT} {k : Nat} {f C : Addr} {fd : FuncData} {ps : List Str} {sp : Sp} {E : XK}
/-- abs(x) -/
theorem c_absO (O : OCal X.prog X.w X.K X.mg X.base CX k C "__abs__" ps sp) (hr : Room (k + 1) X.A) (hx : Passes CX X E) :
    CallR X (.builtin "abs") (fun vs H Q => ∃ a dx fs, vs = [.ref a] ∧ H a = some (.ins C dx fs) ∧ sp vs H Q E) := by
  intro pins s σ H xs us Q I r h
  obtain ⟨a, dx, fs, rfl, e1, h⟩ := h
  obtain ⟨u, rfl, ru⟩ := vals1 r
  cases ru
  obtain ⟨f, fd, F, hs, hf, hk, hfn, hb⟩ := O.ex
  obtain ⟨mA, J, _⟩ := ins_get I.hok e1
  obtain ⟨od, J, _⟩ := J.look
  obtain ⟨m, hF⟩ := I.fr
  refine my_abs_K hF I.ok.mod.kin J hs hf ?_
  exact run_at F hr.in1 rfl hb (fun e s' c => hx pins σ H s e s' I c) I (vs := [.ref a]) (.cons rfl .nil) h
/-- x in y -/
theorem op_inO (O : OCal X.prog X.w X.K X.mg X.base CX k C "__contains__" ps sp) (hr : Room k X.A) (hx : Passes CX X E) :
    OpR X (compareOp .In) (fun x y H Q => ∃ a dx fs, y = .ref a ∧ H a = some (.ins C dx fs) ∧ sp [y, x] H (fun v H' => ∃ b, v = .bl b ∧ Q (.bl b) H') E) := by
  intro pins s σ H x y v u Q I rx ry h
  obtain ⟨a, dx, fs, rfl, e1, h⟩ := h
  cases ry
  obtain ⟨f, fd, F, hs, hf, hk, hfn, hb⟩ := O.ex
  obtain ⟨mA, J, _⟩ := ins_get I.hok e1
  obtain ⟨od, J, _⟩ := J.look
  obtain ⟨m, hF⟩ := I.fr
  refine in_K hF I.ok.mod.kin J hs hf ?_
  refine wpAny_mono (run_at F hr rfl hb (fun e s' c => hx pins σ H s e s' I c) I (vs := [.ref a, x]) (.cons rfl (.cons rx .nil)) h) (fun u s' q => ?_) fun _ _ z => z
  obtain ⟨z, H', I', rz, b, rfl, q⟩ := q
  cases rz
  exact wpAny_truthy_bool ⟨.bl b, H', I', rfl, q⟩
/-- x == y, both of the class -/
theorem op_eqO (O : OCal X.prog X.w X.K X.mg X.base CX k C "__eq__" ps sp) (hr : Room k X.A) (hx : Passes CX X E) :
    OpR X (compareOp .Eq) (fun x y H Q => ∃ a b dx dy fs gs, x = .ref a ∧ y = .ref b ∧ H a = some (.ins C dx fs) ∧ H b = some (.ins C dy gs) ∧ sp [x, y] H Q E) := by
  intro pins s σ H x y v u Q I rx ry h
  obtain ⟨a, b, dx, dy, fs, gs, rfl, rfl, e1, e2, h⟩ := h
  cases rx
  cases ry
  obtain ⟨f, fd, F, hs, hf, hk, hfn, hb⟩ := O.ex
  obtain ⟨mA, J, _⟩ := ins_get I.hok e1
  obtain ⟨mB, J', _⟩ := ins_get I.hok e2
  obtain ⟨od, J, _⟩ := J.look
  obtain ⟨od', J', _⟩ := J'.look
  obtain ⟨m, hF⟩ := I.fr
  show wpAny (model X.prog X.w) X.A (richCompare .Eq (.ref a) (.ref b)) (EP X pins σ Q) X.xe s
  refine PySem.W.cmp_K (op := .Eq) (tb := .ref C) hr.units0 hF I.ok.mod.kin J J'.type (by simp [PySem.W.notFirst]) hs hf ?_
  exact wpAny_mono (run_at F hr rfl hb (fun e s' c => hx pins σ H s e s' I c) I (vs := [.ref a, .ref b]) (.cons rfl (.cons rfl .nil)) h) (fun u s' q => cmpBack q fun z => z) fun _ _ z => z
/-- x == t, t a tuple -/
theorem op_eqOT (O : OCal X.prog X.w X.K X.mg X.base CX k C "__eq__" ps sp) (hr : Room k X.A) (hx : Passes CX X E) (hn : PySem.W.notFirst X.K C (.type "tuple") = true) :
    OpR X (compareOp .Eq) (fun x y H Q => ∃ a b dx fs xs, x = .ref a ∧ y = .ref b ∧ H a = some (.ins C dx fs) ∧ H b = some (.tup xs) ∧ sp [x, y] H Q E) := by
  intro pins s σ H x y v u Q I rx ry h
  obtain ⟨a, b, dx, fs, xs, rfl, rfl, e1, e2, h⟩ := h
  cases rx
  cases ry
  obtain ⟨f, fd, F, hs, hf, hk, hfn, hb⟩ := O.ex
  obtain ⟨mA, J, _⟩ := ins_get I.hok e1
  obtain ⟨od, J, _⟩ := J.look
  obtain ⟨m, hF⟩ := I.fr
  obtain ⟨_, its, rv, ob, h1, h2, _⟩ := (show ObjOk X.prog X.w H s.heap b (.tup xs) from I.hok b _ e2)
  have J' : PySem.W.Looks (model X.prog X.w) s.heap (typeOf (.ref b)) (.type "tuple") := fun A Q E s' hk hq => by
    refine wpAny_typeOf_ref (hk b ob h1) ?_
    rw [h2]
    exact hq
  show wpAny (model X.prog X.w) X.A (richCompare .Eq (.ref a) (.ref b)) (EP X pins σ Q) X.xe s
  refine PySem.W.cmp_K (op := .Eq) (tb := .type "tuple") hr.units0 hF I.ok.mod.kin J J' hn hs hf ?_
  exact wpAny_mono (run_at F hr rfl hb (fun e s' c => hx pins σ H s e s' I c) I (vs := [.ref a, .ref b]) (.cons rfl (.cons rfl .nil)) h) (fun u s' q => cmpBack q fun z => z) fun _ _ z => z
/-- n * x, by __rmul__ -/
def rRO (C : Addr) (sp : Sp) (E : L2.St → XK) (σ : L2.St) : R2 := fun x y H Q => ∃ b dx fs i, x = .int i ∧ y = .ref b ∧ H b = some (.ins C dx fs) ∧ sp [y, x] H Q (E σ)
theorem pe_binR {E : L2.St → XK} {a b : Expr} {ta tb : TE} {pos : Pos} {fo ro : Option Value} {f0 : Addr} (O : OCal X.prog X.w X.K X.mg X.base CX k C (dunderR "mul") ps sp) (oc : OCls X.K C) (hr : Room k X.A) (hx : PassS CX X E)
    (hm : PySem.W.findIn X.K (.ref C) (PySem.dunder "mul") = some (some (.ref f0))) (h1 : PySem.W.findIn X.K (.type "int") (PySem.dunder "mul") = some fo) (h2 : PySem.W.findIn X.K (.type "int") (dunderR "mul") = some ro) (hsub : PySem.W.subIn X.K (.ref C) (.type "int") = some false)
    (ha : PE X a ta) (hb : PE X b tb) : PE X (.BinOp a .Mult b pos) (tOpS (rRO C sp E) ta tb) := by
  refine pe_opS (fun pins s σ H x y v u Q I rx ry h => ?_) ha hb
  obtain ⟨b, dx, fs, i, rfl, rfl, e1, h⟩ := h
  cases ry
  obtain ⟨t, rfl⟩ := (show ∃ t, v = Value.int i t from rx)
  obtain ⟨f, fd, F, hs, hf, hk, hfn, hb⟩ := O.ex
  obtain ⟨mA, J, _⟩ := ins_get I.hok e1
  have Jo := J.obj
  obtain ⟨od, J, _⟩ := J.look
  obtain ⟨m, hF⟩ := I.fr
  refine my_binR hF I.ok.mod.kin J (fun i u z => ?_) oc.sf hm hs hf h1 h2 hsub ?_
  · cases z
  exact wpAny_mono (run_at F hr rfl hb (fun e s' c => hx pins σ H s e s' I c) I (vs := [.ref b, .int i]) (.cons rfl (.cons ⟨t, rfl⟩ .nil)) h) (fun u s' q => cmpBack q fun z => z) fun _ _ z => z
/-- o.m(k = e) -/
def tMethK (C : Addr) (m : Str) (sp : Sp) (gV : List V → List V → List V) (E : XK) (ta : TE) (tk : TA) : TE := fun σ H Q => ta σ H fun x H1 => ∃ a dx fs, x = .ref a ∧ H1 a = some (.ins C dx fs) ∧ fs.lookup m = none ∧ tk σ H1 fun zs H2 => sp (gV [.ref a] zs) H2 Q E
theorem pe_methK0 {m : Str} {o : Expr} {ta : TE} {tk : TA} {pos apos : Pos} {kws : List Keyword} {ks : List Str} {g : List Value → List Value → List Value} {gV : List V → List V → List V} {pl : Sem Bool} (he : PE X o ta) (c : Cls X.K C) (hm : Meth X.K C m f) (F : FnOk X.prog X.w X.K X.mg X.base CX k f fd ps sp) (hr : Room k X.A) (hb : KBinds X.K fd ps ks g gV) (hx : Passes CX X E) (hkw : PK X kws tk)
    (hall : (backToKw pos (keywordEach kws X.env)).all (·.1.isSome) = true := by rfl) (hks : (backToKw pos (keywordEach kws X.env)).filterMap (·.1) = ks := by rfl)
    (hpl : ((backTo pos (starEach [] X.env)).any (·.1) || (backToKw pos (keywordEach kws X.env)).any (·.1.isNone)) = false := by rfl)
    (ht : eval (.Call (.Attribute o m apos) [] kws pos) X.env = (do
      let ov ← eval o X.env
      standAt apos.atName
      let (f, first) ← holding [ov] (getMethod ov m pl)
      callWith pos f first (backTo pos (starEach [] X.env)) (backToKw pos (keywordEach kws X.env))) := by with_unfolding_all rfl) :
    PE X (.Call (.Attribute o m apos) [] kws pos) (tMethK C m sp gV E ta tk) := by
  refine ⟨fun pins s σ H Q I h => ?_⟩
  refine PySem.W.methodCall_KW (pl := pl) (thn (he.run pins s σ H _ I h) fun u s1 ⟨x, H1, I1, rx, a, dx, fs, ex, ea, l, q⟩ => ?_) ht
  subst ex
  obtain rfl : u = Value.ref a := rx
  refine getmeth_ok I1 ea c hm l ?_
  refine PySem.W.callWith_KW0 (first := [.ref a]) (h₀ := X.base) I.ok.mod.kin hm.kp hall ?_ hpl
  refine thn (hkw.run pos pins s1 σ H1 _ I1 q) fun ws s2 ⟨zs, H2, I2, rz, q2⟩ => ⟨I2.kIn, ?_⟩
  rw [hks]
  exact run_fnk (us := [.ref a]) (vs := [.ref a]) F hr hb hx I2 (.cons rfl .nil) rz q2
end
end My

/-! == of two dicts from texts to numbers -/
namespace My
open PySem L2
def hitsB (m2 : AL) : AL → Bool
  | [] => true
  | p :: r => match look m2 p.1 with
    | none => false
    | some v => decide (p.2 = v) && hitsB m2 r
def dEq (m m2 : AL) : Bool := (m.length == m2.length) && hitsB m2 m
theorem hitsB_iff (m2 : AL) : ∀ m : AL, hitsB m2 m = true ↔ ∀ p ∈ m, look m2 p.1 = some p.2
  | [] => ⟨fun _ p h => (by cases h), fun _ => rfl⟩
  | p :: r => by
    unfold hitsB
    cases e : look m2 p.1 with
    | none =>
      refine ⟨fun h => (by cases h), fun h => ?_⟩
      rw [h p List.mem_cons_self] at e
      cases e
    | some v =>
      show (decide (p.2 = v) && hitsB m2 r) = true ↔ _
      rw [Bool.and_eq_true, hitsB_iff m2 r, decide_eq_true_eq]
      refine ⟨fun ⟨h1, h2⟩ q hq => ?_, fun h => ⟨?_, fun q hq => h q (List.mem_cons_of_mem _ hq)⟩⟩
      · rcases List.mem_cons.mp hq with z | z
        · rw [z, e, h1]
        · exact h2 q z
      · have := h p List.mem_cons_self
        rw [e] at this
        exact (Option.some.inj this).symm
theorem hits_enc {A : Around} {s : Shared} {m2 : AL} {vb : List (Key × Value)} (rb : KV (enc m2) vb) : ∀ {m : AL} {va : List (Key × Value)}, KV (enc m) va → PySem.W.KeqHits A s vb va (hitsB m2 m)
  | [], _, .nil => .nil
  | p :: r, _, .cons h t => by
    rename_i q qs
    obtain ⟨h1, h2⟩ := h
    obtain ⟨k, v⟩ := q
    have h1' : Sum.inr p.1 = k := h1
    subst h1'
    obtain ⟨tk, rfl⟩ := (show ∃ tk, v = Value.int p.2 tk from h2)
    have rr : RelO (valV (enc m2) (Sum.inr p.1)) (valueAt vb (Sum.inr p.1)) := rb.val _
    rw [enc_look] at rr
    unfold hitsB
    cases e : look m2 p.1 with
    | none =>
      rw [e] at rr
      have hn : valueAt vb (Sum.inr p.1) = none := by
        cases q : valueAt vb (Sum.inr p.1) with
        | none => rfl
        | some z => rw [q] at rr; exact rr.elim
      exact .miss hn
    | some z =>
      rw [e] at rr
      obtain ⟨y, hy, ry⟩ := RelO.some_of rr
      obtain ⟨t2, rfl⟩ := (show ∃ t, y = Value.int z t from ry)
      have e1 : SeqAt.EqAt A s (.int p.2 tk) (.int z t2) (decide (p.2 = z)) := by
        have := SeqAt.EqAt.int_int (A := A) (s := s) p.2 tk z t2
        rwa [show (p.2 == z) = decide (p.2 = z) from rfl] at this
      exact .hit hy e1 (hits_enc rb t)
theorem op_eqDE {X : Cx} (hu : X.A.units < cLine) : OpR X (compareOp .Eq) (fun x y H Q => ∃ a b m m2, x = .ref a ∧ y = .ref b ∧ H a = some (.dK (enc m)) ∧ H b = some (.dK (enc m2)) ∧ Q (.bl (dEq m m2)) H) := by
  intro pins s σ H x y v u Q I rx ry h
  obtain ⟨a, b, m, m2, rfl, rfl, ea, eb, q⟩ := h
  obtain rfl : v = Value.ref a := rx
  obtain rfl : u = Value.ref b := ry
  obtain ⟨_, ya, va, ra, da⟩ := (show ObjOk X.prog X.w H s.heap a (.dK (enc m)) from I.hok a _ ea)
  obtain ⟨_, yb, vb, rb, db⟩ := (show ObjOk X.prog X.w H s.heap b (.dK (enc m2)) from I.hok b _ eb)
  refine PySem.W.keq_eq (knd := mixKind X.prog X.w) (r := hitsB m2 m) ya yb da db hu (fun _ => hits_enc rb ra) ?_
  have e : (va.length == vb.length && hitsB m2 m) = dEq m m2 := by
    have h1 : va.length = m.length := by rw [← ra.length]; exact enc_len m
    have h2 : vb.length = m2.length := by rw [← rb.length]; exact enc_len m2
    rw [h1, h2]
    rfl
  exact ⟨.bl _, H, I, congrArg Value.bool e, q⟩
theorem look_keys {m : AL} {k : Str} {v : Int} (h : look m k = some v) : k ∈ keys m := by
  unfold look at h
  obtain ⟨p, hp, _⟩ := Option.map_eq_some_iff.mp h
  have h1 := List.find?_some hp
  have h2 := List.mem_of_find?_eq_some hp
  exact List.mem_map.mpr ⟨p, h2, of_decide_eq_true h1⟩
theorem mem_get {m : AL} (nd : (keys m).Nodup) (ps : ∀ p ∈ m, 0 < p.2) (k : Str) : k ∈ keys m ↔ get m k ≠ 0 := by
  constructor
  · intro h
    obtain ⟨p, hp, rfl⟩ := List.mem_map.mp h
    have : look m p.1 = some p.2 := (look_mem nd).mpr hp
    unfold get
    rw [this]
    have := ps p hp
    show p.2 ≠ 0
    omega
  · intro h
    cases e : look m k with
    | none => exact absurd (by unfold get; rw [e]; rfl) h
    | some v => exact look_keys e
theorem dEq_iff {m m2 : AL} (n1 : (keys m).Nodup) (n2 : (keys m2).Nodup) (p1 : ∀ p ∈ m, 0 < p.2) (p2 : ∀ p ∈ m2, 0 < p.2) : dEq m m2 = true ↔ ∀ k, get m k = get m2 k := by
  unfold dEq
  rw [Bool.and_eq_true, hitsB_iff, beq_iff_eq]
  have l1 : (keys m).length = m.length := List.length_map _
  have l2 : (keys m2).length = m2.length := List.length_map _
  constructor
  · rintro ⟨hl, h⟩ k
    have sub : ∀ k ∈ keys m, k ∈ keys m2 := fun k hk => by
      obtain ⟨p, hp, rfl⟩ := List.mem_map.mp hk
      exact look_keys (h p hp)
    by_cases hk : k ∈ keys m
    · obtain ⟨p, hp, rfl⟩ := List.mem_map.mp hk
      have e1 : look m p.1 = some p.2 := (look_mem n1).mpr hp
      unfold get
      rw [e1, h p hp]
    · have hk2 : k ∉ keys m2 := fun z => by
        have := List.Nodup.length_le_of_subset (List.nodup_cons.mpr ⟨hk, n1⟩) (l₂ := keys m2) fun c hc => by
          rcases List.mem_cons.mp hc with e | e
          · rw [e]; exact z
          · exact sub c e
        rw [List.length_cons] at this
        omega
      have e1 : get m k = 0 := Decidable.byContradiction fun z => hk ((mem_get n1 p1 k).mpr z)
      have e2 : get m2 k = 0 := Decidable.byContradiction fun z => hk2 ((mem_get n2 p2 k).mpr z)
      rw [e1, e2]
  · intro h
    have pm : (keys m).Perm (keys m2) := (List.perm_ext_iff_of_nodup n1 n2).mpr fun k => by rw [mem_get n1 p1, mem_get n2 p2, h k]
    refine ⟨by rw [← l1, ← l2]; exact pm.length_eq, fun p hp => ?_⟩
    have e1 : look m p.1 = some p.2 := (look_mem n1).mpr hp
    have e2 : get m2 p.1 = p.2 := by
      rw [← h p.1]
      unfold get
      rw [e1]
      rfl
    unfold get at e2
    cases e : look m2 p.1 with
    | none =>
      rw [e] at e2
      have := p1 p hp
      have e3 : (0 : Int) = p.2 := e2
      omega
    | some v =>
      rw [e] at e2
      exact congrArg some e2
end My

/-! C(e), whose __init__ raises -/
namespace My
open PySem L2
section
variable {X : Cx} {CX : CXT} {k : Nat} {f C : Addr} {fd : FuncData} {ps : List Str} {sp : Sp} {E : L2.St → XK} {ds : List Value} {dvs : List V}
theorem run_makeS {pins : List (Addr × Obj)} {σ : L2.St} {H : Hp} {s : Shared} {Q : VK} {us : List Value} {vs : List V} (M : Mk X.K C f) (F : FnOk X.prog X.w X.K X.mg X.base CX k f fd ps sp) (hr : Room (k + 1) X.A) (hb : Binds X.K fd ps ds) (hd : Vals dvs ds)
    (hx : PassS CX X E) (I : Inv X pins σ H s) (r : Vals vs us)
    (h : ∀ x dx, H x = none → H dx = none → dx ≠ x → sp (.ref x :: (vs ++ dvs)) (upd (upd H dx (.own x)) x (.ins C dx [])) (fun v H2 => v = .non ∧ Q (.ref x) H2) (E σ)) :
    wpAny (model X.prog X.w) X.A (call (.ref C) us) (EP X pins σ Q) X.xe s := by
  have hq := h (s.heap.objs.size + 1) s.heap.objs.size (I.hok.fresh (Nat.le_succ _)) (I.hok.fresh (Nat.le_refl _)) (Nat.ne_of_lt (Nat.lt_succ_self _))
  have I2 := Inv.made (C := C) I
  have r2 : Vals (V.ref (s.heap.objs.size + 1) :: (vs ++ dvs)) (Value.ref (s.heap.objs.size + 1) :: (us ++ ds)) := .cons rfl (r.append hd)
  have hl : (Value.ref (s.heap.objs.size + 1) :: us ++ ds).length = ps.length := by
    have e := r2.length
    rw [F.len _ _ _ _ hq] at e
    exact e.symm
  refine wpAny_call (make_map (f := f) I.kIn M.makes M.init (beq_iff_eq.mp M.fn) (codeAny_mono (F.run _ X.stack _ _ ⟨Value.ref (s.heap.objs.size + 1) :: us, []⟩ (Value.ref (s.heap.objs.size + 1) :: (us ++ ds)) _ _ (E σ) (hr.make C us [])
    (I2.env0.make C us []) (hb _ (Value.ref (s.heap.objs.size + 1) :: us) I2.kIn hl) r2 hq) fun r s' hq' => ?_))
  cases r with
  | error e => exact hx pins σ _ _ e s' I2 hq'
  | ok fl =>
    cases fl with
    | ret u =>
      obtain ⟨v, H', I3, rv, ev, q3⟩ := I2.after hq'
      subst ev
      exact ⟨rv, ⟨V.ref (s.heap.objs.size + 1), H', I3, rfl, q3⟩⟩
    | next => exact False.elim hq'
    | brk => exact False.elim hq'
    | cont => exact False.elim hq'
def tMkS (C : Addr) (sp : Sp) (E : L2.St → XK) (t : TA) : TE := fun σ H Q => t σ H fun vs H1 => ∀ x dx, H1 x = none → H1 dx = none → dx ≠ x → sp (.ref x :: vs) (upd (upd H1 dx (.own x)) x (.ins C dx [])) (fun v H2 => v = .non ∧ Q (.ref x) H2) (E σ)
theorem pe_makeS {x : Str} {e : Expr} {es : List Expr} {t : TA} {p pos : Pos} (O : OMk X.prog X.w X.K X.mg X.base CX k C x ps sp) (hr : Room (k + 1) X.A) (hx : PassS CX X E) (ha : PA X (e :: es) t) (hg : Gl X x := by rfl)
    (hdb : (x == ("__debug__" : Str)) = false := by decide) (he : starEach (e :: es) X.env = (false, eval e X.env) :: starEach es X.env := by rfl) (hpl : (backTo pos (starEach es X.env)).any (·.1) = false := by rfl) : PE X (.Call (.Name x p) (e :: es) [] pos) (tMkS C sp E t) := by
  obtain ⟨f, fd, M, F, hm, hb⟩ := O.ex
  refine ⟨fun pins s σ H Q I h => ?_⟩
  refine wpAny_Call_Name_kw (ld_glob I hg hm ?_ hdb)
  refine PySem.W.callWith_K (h₀ := X.base) I.ok.mod.kin M.kp (thn (ha.run pos pins s σ H _ I h) fun us s1 ⟨vs, H1, I1, r, q⟩ => ⟨I1.kIn, ?_⟩) he hpl
  refine run_makeS (dvs := []) M F hr hb .nil hx I1 r fun x dx h1 h2 h3 => ?_
  rw [List.append_nil]
  exact q x dx h1 h2 h3
theorem r_mkS {C : Addr} {sp : Sp} {E : L2.St → XK} {σ : L2.St} {H : Hp} {Q : VK} {t : TA} (h : t σ H fun vs H1 => ∀ x dx, H1 x = none → H1 dx = none → dx ≠ x → sp (.ref x :: vs) (L2.upd (L2.upd H1 dx (.own x)) x (.ins C dx [])) (fun v H2 => v = .non ∧ Q (.ref x) H2) (E σ)) : tMkS C sp E t σ H Q := h
end
end My

/-! own classes with keywords -/
namespace My
open PySem L2
def g1 {α : Type} : List α → List α → List α
  | [u], [v] => [u, v]
  | _, _ => []
theorem g1_rel {vs zs : List V} {us ws : List Value} (h : Vals vs us) (h' : Vals zs ws) : Vals (g1 vs zs) (g1 us ws) := by
  match vs, us, h, zs, ws, h' with
  | [], [], .nil, _, _, _ => exact .nil
  | [_], [_], .cons r .nil, [], [], .nil => exact .nil
  | [_], [_], .cons r .nil, [_], [_], .cons r' .nil => exact .cons r (.cons r' .nil)
  | [_], [_], .cons r .nil, _ :: _ :: _, _ :: _ :: _, .cons _ (.cons _ _) => exact .nil
  | _ :: _ :: _, _ :: _ :: _, .cons _ (.cons _ _), _, _, _ => exact .nil
structure OCalK (P : Program) (w : World) (K : PySem.W.Frag) (mg : Str → Option Value) (base : Heap) (CX : CXT) (k : Nat) (C : Addr) (m : Str) (ps ks : List Str) (sp : Sp) : Prop where
  ex : ∃ (f : Addr) (fd : FuncData), FnOk P w K mg base CX k f fd ps sp ∧ Meth K C m f ∧ KBinds K fd ps ks g1 g1
structure OMkK (P : Program) (w : World) (K : PySem.W.Frag) (mg : Str → Option Value) (base : Heap) (CX : CXT) (k : Nat) (C : Addr) (x : Str) (ps ks : List Str) (gV : List V → List V → List V) (sp : Sp) : Prop where
  ex : ∃ (f : Addr) (fd : FuncData) (g : List Value → List Value → List Value), Mk K C f ∧ FnOk P w K mg base CX k f fd ps sp ∧ mg x = some (.ref C) ∧ KBn K fd ps 1 ks g gV
section
variable {X : Cx} {CX : CXT} {k : Nat} {C : Addr} {ps ks : List Str} {sp : Sp} {E : XK} {m x : Str} {o : Expr} {ta : TE} {tk : TA} {pos apos p : Pos} {kws : List Keyword} {pl : Sem Bool} {gV : List V → List V → List V}
theorem pe_methOK (O : OCalK X.prog X.w X.K X.mg X.base CX k C m ps ks sp) (c : Cls X.K C) (hr : Room k X.A) (hx : Passes CX X E) (he : PE X o ta) (hkw : PK X kws tk)
    (hall : (backToKw pos (keywordEach kws X.env)).all (·.1.isSome) = true := by rfl) (hks : (backToKw pos (keywordEach kws X.env)).filterMap (·.1) = ks := by rfl)
    (hpl : ((backTo pos (starEach [] X.env)).any (·.1) || (backToKw pos (keywordEach kws X.env)).any (·.1.isNone)) = false := by rfl)
    (ht : eval (.Call (.Attribute o m apos) [] kws pos) X.env = (do
      let ov ← eval o X.env
      standAt apos.atName
      let (f, first) ← holding [ov] (getMethod ov m pl)
      callWith pos f first (backTo pos (starEach [] X.env)) (backToKw pos (keywordEach kws X.env))) := by with_unfolding_all rfl) :
    PE X (.Call (.Attribute o m apos) [] kws pos) (tMethK C m sp g1 E ta tk) := by
  obtain ⟨f, fd, F, M, B⟩ := O.ex
  exact pe_methK0 (pl := pl) he c M F hr B hx hkw hall hks hpl ht
theorem pe_makeOK (O : OMkK X.prog X.w X.K X.mg X.base CX k C x ps ks gV sp) (hr : Room (k + 1) X.A) (hx : Passes CX X E) (hkw : PK X kws tk) (hg : Gl X x := by rfl)
    (hall : (backToKw pos (keywordEach kws X.env)).all (·.1.isSome) = true := by rfl) (hks : (backToKw pos (keywordEach kws X.env)).filterMap (·.1) = ks := by rfl) (hdb : (x == ("__debug__" : Str)) = false := by decide)
    (hpl : ((backTo pos (starEach [] X.env)).any (·.1) || (backToKw pos (keywordEach kws X.env)).any (·.1.isNone)) = false := by rfl) :
    PE X (.Call (.Name x p) [] kws pos) (tMakeK C 0 ks.length sp gV E tNil tk) := by
  obtain ⟨f, fd, g, M, F, hm, B⟩ := O.ex
  exact pe_makeK0 M F hr hg hm B hx hkw hall hks hdb hpl
end
theorem r_methK {C : Addr} {m : Str} {sp : Sp} {E : XK} {ta : TE} {tk : TA} {σ : L2.St} {H : Hp} {Q : VK} (h : ta σ H fun x H1 => ∃ a dx fs, x = .ref a ∧ H1 a = some (.ins C dx fs) ∧ fs.lookup m = none ∧ tk σ H1 fun zs H2 => sp (g1 [.ref a] zs) H2 Q E) : tMethK C m sp g1 E ta tk σ H Q := h
theorem r_makeK {C : Addr} {n m : Nat} {sp : Sp} {gV : List V → List V → List V} {E : XK} {t tk : TA} {σ : L2.St} {H : Hp} {Q : VK} (h : t σ H fun vs H1 => tk σ H1 fun zs H2 => vs.length = n ∧ zs.length = m ∧ ∀ x dx, H2 x = none → H2 dx = none → dx ≠ x →
  sp (gV (.ref x :: vs) zs) (L2.upd (L2.upd H2 dx (.own x)) x (.ins C dx [])) (fun v H3 => v = .non ∧ Q (.ref x) H3) E) : tMakeK C n m sp gV E t tk σ H Q := h
/-- e.m(a) of an own class, one reading -/
theorem r_meth1 {C : Addr} {m : Str} {sp : Sp} {E : XK} {ta : TE} {t : TA} {σ : L2.St} {H : Hp} {Q : VK} (h : ta σ H fun x H1 => ∃ a dx fs, x = .ref a ∧ H1 a = some (.ins C dx fs) ∧ fs.lookup m = none ∧ t σ H1 fun vs H2 => sp (x :: (vs ++ [])) H2 Q E) : tMeth C m sp [] E ta t σ H Q := h
end My

/-! Lots that are changed in place: the Lot's own dict has an address -/
namespace My
open PySem L2
section
variable {C : Addr}
/-- a Lot whose dict stands at d -/
structure LoD (C : Addr) (H : Hp) (x d : Addr) (m : AL) : Prop where
  at_ : ∃ dx, H x = some (.ins C dx [("_many", .ref d)])
  di : H d = some (.dK (enc m))
  nd : (keys m).Nodup
  ps : ∀ p ∈ m, 0 < p.2
  ln : m.length ≤ 30
theorem LoD.lo {H : Hp} {x d : Addr} {m : AL} (h : LoD C H x d m) : LoA C H x m := by
  obtain ⟨⟨dx, h1⟩, h2, h3, h4, h5⟩ := h
  exact ⟨⟨d, dx, h1, h2⟩, h3, h4, h5⟩
theorem LoA.lod {H : Hp} {x : Addr} {m : AL} (h : LoA C H x m) : ∃ d, LoD C H x d m := by
  obtain ⟨⟨d, dx, h1, h2⟩, h3, h4, h5⟩ := h
  exact ⟨d, ⟨dx, h1⟩, h2, h3, h4, h5⟩
theorem LoD.same {H H' : Hp} {x d : Addr} {m : AL} (h : LoD C H x d m) (s : Same H H') : LoD C H' x d m := by
  obtain ⟨⟨dx, h1⟩, h2, h3, h4, h5⟩ := h
  exact ⟨⟨dx, s _ _ h1⟩, s _ _ h2, h3, h4, h5⟩
theorem LoD.ne {H : Hp} {x d y e : Addr} {m m' : AL} (h : LoD C H x d m) (h' : LoD C H y e m') : x ≠ e := fun z => by
  obtain ⟨dx, h1⟩ := h.at_
  rw [z, h'.di] at h1
  cases h1
/-- a new Lot with a new dict -/
def LoN (C : Addr) (H H' : Hp) (x : Addr) (m : AL) : Prop := ∃ d, H d = none ∧ LoD C H' x d m
theorem LoN.lo {H H' : Hp} {x : Addr} {m : AL} (h : LoN C H H' x m) : LoA C H' x m := by
  obtain ⟨d, _, h⟩ := h
  exact h.lo
theorem LoN.mono {H0 H H' : Hp} {x : Addr} {m : AL} (h : LoN C H H' x m) (s : Same H0 H) : LoN C H0 H' x m := by
  obtain ⟨d, h1, h⟩ := h
  exact ⟨d, Same.free s h1, h⟩
theorem LoN.same {H H' H'' : Hp} {x : Addr} {m : AL} (h : LoN C H H' x m) (s : Same H' H'') : LoN C H H'' x m := by
  obtain ⟨d, h1, h⟩ := h
  exact ⟨d, h1, h.same s⟩
/-- all but what stands at x and d is as it was -/
def Kx (x d : Addr) (H H' : Hp) : Prop := ∀ c o, H c = some o → c ≠ x → c ≠ d → H' c = some o
theorem Kx.of {x d : Addr} {H H' : Hp} (s : Same H H') : Kx x d H H' := fun c o e _ _ => s c o e
theorem Kx.kp {x d : Addr} {H H' : Hp} (s : Kp x H H') : Kx x d H H' := fun c o e n _ => s c o e n
theorem LoD.kx {H H' : Hp} {x d y e : Addr} {m : AL} (h : LoD C H y e m) (k : Kx x d H H') (n1 : y ≠ x) (n2 : y ≠ d) (n3 : e ≠ x) (n4 : e ≠ d) : LoD C H' y e m := by
  obtain ⟨⟨dx, h1⟩, h2, h3, h4, h5⟩ := h
  exact ⟨⟨dx, k _ _ h1 n1 n2⟩, k _ _ h2 n3 n4, h3, h4, h5⟩
end
end My

/-! try: .. except (A, B) as e: the error with its dict is tracked behind the suite -/
namespace My
open PySem PySem.Spec PyProof.Rows L2
theorem flyingZ_push {base h : Heap} {l : List Env} {e : Addr} {Z : Obj → Prop} {o : Obj} (x : HandSPX.FlyingZ base l e Z h) : HandSPX.FlyingZ base l e Z (h.push o) := by
  obtain ⟨h1, h2, h3, oe, vs, T, oT, ts, e1, e2, e3, e4, e5, e6, e7, e8, e9⟩ := x
  have kp : ∀ q o', h.get? q = some o' → (h.push o).get? q = some o' := fun _ _ z => Heap.get?_push_of_some _ z
  exact ⟨fun b o' z => kp _ _ (h1 b o' z), h2, Heap.FunFrames.of_keeps (fun b o' z _ => ⟨o', kp _ _ z, rfl⟩) h3, oe, vs, T, oT, ts, kp _ _ e1, e2, e3, e4, e5, e6, kp _ _ e7, e8, e9⟩
def wD2 (K : PySem.W.Frag) (cs : List Value) (i : Nat) (ts : Addr → TS) (D : Ends) : WX := fun cls' d σ H => PySem.W.exmAny K cls' cs = some true ∧ ∀ a, H a = none → ts a { nx := fun σ' H' => H' a = none → D.nx (σ'.set i none) (upd H' a (ExD cls' d a)), rt := D.rt, bk := fun σ' H' => D.bk (σ'.set i none) H', ct := fun σ' H' => D.ct (σ'.set i none) H' } (σ.set i (some (.ref a))) H
theorem ps_try_asT2 {X : Cx} {x y n : Str} {c c2 : Value} {kk : Nat} {np2 tpos : Pos} {i : Nat} {body suite : List Stmt} {b₀ : Stmt} {np pos pos' : Pos} {tb : WX → TS} {ts : Addr → TS} (hs : X.stack = X.env :: X.outer) (hf : X.env.frame = some X.env.locals) (hN : X.N.Nodup) (hi : X.N[i]? = some n) (hln : X.env.kindOf n = some NameKind.local) (hg : Gl X x) (hdb : (x == ("__debug__" : Str)) = false) (hmg : X.mg x = some c) (hg2 : Gl X y) (hdb2 : (y == ("__debug__" : Str)) = false) (hmg2 : X.mg y = some c2) (hex : X.ex = [])
    (hb : ∀ (W : WX) (pn : List (Addr × Obj)) (xe : Value → Shared → Prop), Takes (X.tr pn xe) W → PassesOwn (model X.prog X.w) X.A X.env xe → PSs (X.tr pn xe) body (tb W))
    (hsu : ∀ (a : Addr) (oe : Obj) (cls : Value) (d : Option Addr) (pn : List (Addr × Obj)), Zc cls d oe → (∃ vs, oe.data = Data.fields vs) → PSs (X.suite a ((a, oe) :: pn)) (b₀ :: suite) (ts a)) :
    PS X (.Try body [.ExceptHandler (some (.Tuple [.Name x np, .Name y np2] kk tpos)) (some n) (b₀ :: suite) pos'] [] [] pos) (fun D σ H => tb (wD2 X.K [c, c2] i ts D) D σ H) := by
  refine ⟨fun pins s σ H D I h => ?_⟩
  have ok := I.ok
  have hfr : X.A.frames = some (X.env :: X.outer) := by rw [ok.frames, hs]
  refine wpAny_Try_except (wpAny_mono ((hb (wD2 X.K [c, c2] i ts D) (X.pn ++ pins) _ ?_ PassesOwn.looking).run [] s σ H D (Inv.toTry I _) h) ?_ fun e s1 he => he)
  · rintro u s' ⟨a, B, sI, pins', σ', H', cls', d, rfl, J', nb, up, sky, na, os, ag, hm, hy⟩
    have J := Inv.ofTry J' ok
    have sky' : Sky B (X.env :: X.outer) a (Zc cls' d) X.env.locals s'.heap := by rw [← hs]; exact sky
    refine Sky.land Zc.steady hfr hf sky' fun h3 fl3 up3 => ?_
    have J3 := Inv.landed (s' := { s' with heap := h3 }) J nb fl3.1 (up.trans up3) os ag
    obtain ⟨oe3, vs3, he3, hz3, hd3⟩ := HandSPX.FlyingZ.there fl3
    have nfr : a ∉ List.filterMap (fun x => x.frame) (X.env :: X.outer) := fun hm' => by
      obtain ⟨_, o', e', hnf⟩ := Heap.FunFrames.mem fl3.2.2.1 hm'
      rw [he3] at e'
      cases e'
      exact hnf vs3 hd3
    have nL : a ≠ X.env.locals := fun z => nfr (List.mem_filterMap.mpr ⟨X.env, List.mem_cons_self, by rw [hf, z]⟩)
    have nF : a ∉ X.fs := fun hm' => by
      obtain ⟨e, he, q⟩ := List.mem_filterMap.mp hm'
      exact nfr (List.mem_filterMap.mpr ⟨e, List.mem_cons_of_mem _ he, q⟩)
    have S3 := Inv.suite J3 he3 hd3 na nL nF
    have aB : B.get? a = none := fl3.2.1
    have fra : a ∉ frs X.stack := by rw [hs]; exact nfr
    have aI : sI.heap.get? a = none := by
      cases e : sI.heap.get? a with
      | none => rfl
      | some o => rw [nb a o e fra] at aB; cases aB
    have h0 : X.s_0.heap.get? a = none := by
      cases e : X.s_0.heap.get? a with
      | none => rfl
      | some o =>
        by_cases hx : a ∈ X.ex
        · rw [hex] at hx; cases hx
        · obtain ⟨o', e'⟩ := J.base.there a o e hx
          rw [aI] at e'
          cases e'
    have hne : ∀ p ∈ X.pn ++ pins, p.1 ≠ a := fun p hp z => by
      have := (J.pin p hp).1
      rw [z, aI] at this
      cases this
    refine wpAny_handleBy_cons (codeAny_handlers_test ?_) (by intro z; cases z)
    have kp : ∀ q o, h3.get? q = some o → (h3.push { cls := .type "tuple", data := .seq [c, c2].toArray }).get? q = some o := fun _ _ z => Heap.get?_push_of_some _ z
    have fl5 := flyingZ_push (o := { cls := .type "tuple", data := .seq [c, c2].toArray }) fl3
    have up5 : h3.UpToSlots (h3.push { cls := .type "tuple", data := .seq [c, c2].toArray }) := fun b o e _ => ⟨o.slots, kp _ _ e⟩
    refine wpAny_Tuple ?_
    refine wpAny_items_cons (ld_glob (X := X.suite a ((a, oe3) :: (X.pn ++ pins))) S3 hg hmg ?_ hdb)
    refine wpAny_items_cons (ld_glob (X := X.suite a ((a, oe3) :: (X.pn ++ pins))) S3 hg2 hmg2 ?_ hdb2)
    refine wpAny_items_nil ⟨by size_fits, ?_⟩
    have LT : PySem.W.Looks (model X.prog X.w) (h3.push { cls := .type "tuple", data := .seq [c, c2].toArray }) (typeOf (.ref a)) cls' := fun A Q E s hk hq => by
      refine wpAny_typeOf_ref (hk a oe3 (kp _ _ he3)) ?_
      rw [hz3.1]
      exact hq
    refine (PySem.W.exm_tup2 (PySem.W.Frag.In.keeps S3.kIn kp) LT (Heap.get?_push_size h3 rfl) hm).here ?_
    refine codeAny_handlers_suite_as (HandSPX.lands_againZ fl5 fun h4 fl4 up4 => ?_)
    have J4 := Inv.landed (s' := { s' with heap := h4 }) J nb fl4.1 (((up.trans up3).trans up5).trans up4) os ag
    obtain ⟨oe4, vs4, he4, hz4, hd4⟩ := HandSPX.FlyingZ.there fl4
    have S4 := Inv.suite J4 he4 hd4 na nL nF
    refine store_ok (X := X.suite a ((a, oe4) :: (X.pn ++ pins))) (v := .ref a) S4 hN hi (Or.inl hln) rfl (fun s5 S5 => ?_) (Or.inr hln)
    refine wpAny_mono ((hsu a oe4 cls' d (X.pn ++ pins) hz4 ⟨vs4, hd4⟩).run [] s5 _ H' _ S5 (hy a na)) ?_ fun e s he => he.elim
    intro f s6 hsp
    cases f with
    | next =>
      obtain ⟨σ6, H6, S6, hq⟩ := hsp
      have S6' := unsuite2 S6 ok
      refine gone_ok S6' hN hi hln fun s7 S7 => ⟨_, _, trackD S7 h0 hz4 hd4 hne, hq ?_⟩
      exact (S7.pin (a, oe4) (List.mem_append_right _ List.mem_cons_self)).2.1
    | brk =>
      obtain ⟨σ6, H6, S6, hq⟩ := hsp
      exact gone_ok (Inv.unsuite S6 ok) hN hi hln fun s7 S7 => ⟨_, _, S7, hq⟩
    | cont =>
      obtain ⟨σ6, H6, S6, hq⟩ := hsp
      exact gone_ok (Inv.unsuite S6 ok) hN hi hln fun s7 S7 => ⟨_, _, S7, hq⟩
    | ret v =>
      obtain ⟨v', σ6, H6, S6, r, hq⟩ := hsp
      exact gone_ok (Inv.unsuite S6 ok) hN hi hln fun s7 S7 => ⟨v', _, _, S7, r, hq⟩
  · intro f s1 hsp
    cases f with
    | next =>
      obtain ⟨σ', H', J', q⟩ := hsp
      exact wpAny_execs_nil ⟨σ', H', Inv.ofTry J' ok, q⟩
    | brk =>
      obtain ⟨σ', H', J', q⟩ := hsp
      exact ⟨σ', H', Inv.ofTry J' ok, q⟩
    | cont =>
      obtain ⟨σ', H', J', q⟩ := hsp
      exact ⟨σ', H', Inv.ofTry J' ok, q⟩
    | ret v =>
      obtain ⟨v', σ', H', J', r, q⟩ := hsp
      exact ⟨v', σ', H', Inv.ofTry J' ok, r, q⟩
end My

/-! x[k] = v and x op= y of own classes, that may raise -/
namespace My
open PySem L2
section
variable {X : Cx} {CX : CXT} {k : Nat} {C : Addr} {ps : List Str} {sp : Sp} {E : L2.St → XK}
def gSetO (C : Addr) (sp : Sp) (E : L2.St → XK) (to ti : TE) : TG := fun v σ H Q => to σ H fun o H1 => ti σ H1 fun i H2 => ∃ a dx fs, o = .ref a ∧ H2 a = some (.ins C dx fs) ∧ sp [o, i, v] H2 (fun _ H3 => Q σ H3) (E σ)
theorem pg_setO {o i : Expr} {to ti : TE} {pos : Pos} (O : OCal X.prog X.w X.K X.mg X.base CX k C "__setitem__" ps sp) (oc : OCls X.K C) (hr : Room k X.A) (hx : PassS CX X E) (ho : PE X o to) (hi : PE X i ti)
    (ha : ∀ v, assign (.Subscript o i pos) X.env v = (do
      let ov ← holding [v] (eval o X.env)
      let iv ← holding [v, ov] (eval i X.env)
      standAt pos
      holding [v, ov, iv] (setItem ov iv v)
      release [v, ov, iv] []) := by intro _; rfl) : PG X (.Subscript o i pos) (gSetO C sp E to ti) := by
  refine ⟨fun pins s σ H v u Q I r h => ?_⟩
  rw [ha]
  refine wpAny_bind (wpAny_holding (thn (ho.run pins s σ H _ I h) fun ov s1 ⟨x, H1, I1, r1, q1⟩ => ?_))
  refine wpAny_bind (wpAny_holding (thn (hi.run pins s1 σ H1 _ I1 q1) fun iv s2 ⟨y, H2, I2, r2, q2⟩ => ?_))
  obtain ⟨p, dx, fs, rfl, e1, q2⟩ := q2
  cases r1
  obtain ⟨f, fd, F, hs, hf, hk, hfn, hb⟩ := O.ex
  obtain ⟨mA, J, _⟩ := ins_get I2.hok e1
  obtain ⟨od, J, _⟩ := J.look
  obtain ⟨m, hF⟩ := I2.fr
  refine wpAny_bind (wpAny_standAt (wpAny_bind (wpAny_holding (PySem.W.ksp_setItem hF I2.ok.mod.kin J oc.ns hs hf ?_))))
  refine wpAny_mono (run_at F hr rfl hb (fun e s' c => hx pins σ H2 s2 e s' I2 c) I2 (vs := [.ref p, y, v]) (.cons rfl (.cons r2 (.cons r .nil))) q2) (fun u s' q => ?_) fun _ _ z => z
  obtain ⟨z, H3, I3, _, q3⟩ := q
  exact wpAny_release ⟨σ, H3, I3, q3⟩
theorem r_setO {to ti : TE} {v : V} {σ : L2.St} {H : Hp} {Q : L2.St → Hp → Prop} (h : to σ H fun o H1 => ti σ H1 fun i H2 => ∃ a dx fs, o = .ref a ∧ H2 a = some (.ins C dx fs) ∧ sp [o, i, v] H2 (fun _ H3 => Q σ H3) (E σ)) : gSetO C sp E to ti v σ H Q := h
/-- name op= e -/
def tAugO (i : Nat) (C : Addr) (sp : Sp) (E : L2.St → XK) (te : TE) : TS := fun D σ H => ∃ x, σ[i]? = some (some x) ∧ te σ H fun y H1 => ∃ a dx fs, x = .ref a ∧ H1 a = some (.ins C dx fs) ∧ sp [x, y] H1 (fun z H2 => D.nx (σ.set i (some z)) H2) (E σ)
theorem ps_augO {op : Operator} {i : Nat} {x : Str} {e : Expr} {te : TE} {pos pos' : Pos} (O : OCal X.prog X.w X.K X.mg X.base CX k C (dunderI op.info.2) ps sp) (oc : OCls X.K C) (hr : Room k X.A) (hps : PassS CX X E) (hN : X.N.Nodup) (hi : X.N[i]? = some x) (hx : Loc X.env.scope x) (he : PE X e te) (hf : X.fn x = true ∨ X.env.scope.names.lookup x = some .local := by first | exact .inl rfl | exact .inr rfl | assumption) :
    PS X (.AugAssign (.Name x pos') op e pos) (tAugO i C sp E te) := by
  refine ⟨fun pins s σ H D I h => ?_⟩
  obtain ⟨v, e1, h⟩ := h
  obtain ⟨m, hn, hl⟩ := I.loc
  have vis : Vis X.env.scope x := by rcases hx with k | k; exact .inl k; exact .inr (.inl k)
  obtain ⟨u, r, l⟩ := hl i x v hi e1 vis
  refine wpAny_AugAssign_Name ?_
  have go : wpAny (model X.prog X.w) X.A (eval e X.env) (fun w s₂ => wpAny (model X.prog X.w) X.A (inplaceOp op u w) (fun r s₃ => wpAny (model X.prog X.w) X.A (storeName X.env x r) (fun _ => SP X pins D .next) X.xe s₃) X.xe s₂) X.xe s := by
    refine thn (he.run pins s σ H _ I h) fun w s1 ⟨y, H1, I1, r1, q1⟩ => ?_
    obtain ⟨a, dx, fs, rfl, ea, q1⟩ := q1
    cases r
    obtain ⟨f, fd, F, hs, hf2, hk, hfn, hb⟩ := O.ex
    obtain ⟨mA, J, _⟩ := ins_get I1.hok ea
    obtain ⟨od, J, _⟩ := J.look
    obtain ⟨m, hF⟩ := I1.fr
    refine PySem.W.ksp_inplace hF I1.ok.mod.kin J oc.sf hs hf2 ?_
    refine wpAny_mono (run_at F hr rfl hb (fun e s' c => hps pins σ H1 s1 e s' I1 c) I1 (vs := [.ref a, y]) (.cons rfl (.cons r1 .nil)) q1) (fun u s' q => cmpBack q fun z => ?_) fun _ _ z => z
    obtain ⟨zv, H2, I2, r2, q2⟩ := z
    exact store_ok I2 hN hi hx r2 (fun s3 I3 => ⟨_, H2, I3, q2⟩) hf
  rcases l with ⟨hk, hm⟩ | ⟨hk, c, hc, hcell⟩
  · exact wpAny_loadName_local I.ok.kind hk hn hm go
  · rcases hk with hk | hk
    · exact wpAny_loadName_cell I.ok.kind hk hc hcell go
    · rcases hx with k | k
      · have : X.env.scope.names.lookup x = some .free := hk
        rw [k] at this; cases this
      · have : X.env.scope.names.lookup x = some .free := hk
        rw [k] at this; cases this
end
end My

/-! try: .. except A as e: .. except B as f: ..; the error with its dict is tracked behind the suite -/
namespace My
open PySem PySem.Spec PyProof.Rows L2
/-- behind a suite the error's name is gone and the error stands at a -/
def endsD (cls : Value) (d : Option Addr) (a : Addr) (i : Nat) (D : Ends) : Ends := { nx := fun σ' H' => H' a = none → D.nx (σ'.set i none) (upd H' a (ExD cls d a)), rt := D.rt, bk := fun σ' H' => D.bk (σ'.set i none) H', ct := fun σ' H' => D.ct (σ'.set i none) H' }
def w12 (K : PySem.W.Frag) (c c2 : Value) (i i2 : Nat) (ts ts2 : Addr → TS) (D : Ends) : WX := fun cls d σ H =>
  (PySem.W.exmOne K cls c = some true ∧ ∀ a, H a = none → ts a (endsD cls d a i D) (σ.set i (some (.ref a))) H) ∨
  (PySem.W.exmOne K cls c = some false ∧ PySem.W.exmOne K cls c2 = some true ∧ ∀ a, H a = none → ts2 a (endsD cls d a i2 D) (σ.set i2 (some (.ref a))) H)
theorem ps_try_as12 {X : Cx} {x y n n2 : Str} {c c2 : Value} {i i2 : Nat} {body suite suite2 : List Stmt} {b₀ b2 : Stmt} {np np2 pos pos' pos2 : Pos} {tb : WX → TS} {ts ts2 : Addr → TS} (hs : X.stack = X.env :: X.outer) (hf : X.env.frame = some X.env.locals) (hN : X.N.Nodup) (hi : X.N[i]? = some n) (hln : X.env.kindOf n = some NameKind.local) (hi2 : X.N[i2]? = some n2) (hln2 : X.env.kindOf n2 = some NameKind.local)
    (hg : Gl X x) (hdb : (x == ("__debug__" : Str)) = false) (hmg : X.mg x = some c) (hg2 : Gl X y) (hdb2 : (y == ("__debug__" : Str)) = false) (hmg2 : X.mg y = some c2) (hex : X.ex = [])
    (hb : ∀ (W : WX) (pn : List (Addr × Obj)) (xe : Value → Shared → Prop), Takes (X.tr pn xe) W → PassesOwn (model X.prog X.w) X.A X.env xe → PSs (X.tr pn xe) body (tb W))
    (hsu : ∀ (a : Addr) (oe : Obj) (cls : Value) (d : Option Addr) (pn : List (Addr × Obj)), Zc cls d oe → (∃ vs, oe.data = Data.fields vs) → PSs (X.suite a ((a, oe) :: pn)) (b₀ :: suite) (ts a))
    (hsu2 : ∀ (a : Addr) (oe : Obj) (cls : Value) (d : Option Addr) (pn : List (Addr × Obj)), Zc cls d oe → (∃ vs, oe.data = Data.fields vs) → PSs (X.suite a ((a, oe) :: pn)) (b2 :: suite2) (ts2 a)) :
    PS X (.Try body [.ExceptHandler (some (.Name x np)) (some n) (b₀ :: suite) pos', .ExceptHandler (some (.Name y np2)) (some n2) (b2 :: suite2) pos2] [] [] pos) (fun D σ H => tb (w12 X.K c c2 i i2 ts ts2 D) D σ H) := by
  refine ⟨fun pins s σ H D I h => ?_⟩
  have ok := I.ok
  have hfr : X.A.frames = some (X.env :: X.outer) := by rw [ok.frames, hs]
  refine wpAny_Try_except (wpAny_mono ((hb (w12 X.K c c2 i i2 ts ts2 D) (X.pn ++ pins) _ ?_ PassesOwn.looking).run [] s σ H D (Inv.toTry I _) h) ?_ fun e s1 he => he)
  · rintro u s' ⟨a, B, sI, pins', σ', H', cls', d, rfl, J', nb, up, sky, na, os, ag, hy⟩
    have J := Inv.ofTry J' ok
    have sky' : Sky B (X.env :: X.outer) a (Zc cls' d) X.env.locals s'.heap := by rw [← hs]; exact sky
    refine Sky.land Zc.steady hfr hf sky' fun h3 fl3 up3 => ?_
    have J3 := Inv.landed (s' := { s' with heap := h3 }) J nb fl3.1 (up.trans up3) os ag
    obtain ⟨oe3, vs3, he3, hz3, hd3⟩ := HandSPX.FlyingZ.there fl3
    have nfr : a ∉ List.filterMap (fun x => x.frame) (X.env :: X.outer) := fun hm' => by
      obtain ⟨_, o', e', hnf⟩ := Heap.FunFrames.mem fl3.2.2.1 hm'
      rw [he3] at e'
      cases e'
      exact hnf vs3 hd3
    have nL : a ≠ X.env.locals := fun z => nfr (List.mem_filterMap.mpr ⟨X.env, List.mem_cons_self, by rw [hf, z]⟩)
    have nF : a ∉ X.fs := fun hm' => by
      obtain ⟨e, he, q⟩ := List.mem_filterMap.mp hm'
      exact nfr (List.mem_filterMap.mpr ⟨e, List.mem_cons_of_mem _ he, q⟩)
    have S3 := Inv.suite J3 he3 hd3 na nL nF
    have aB : B.get? a = none := fl3.2.1
    have fra : a ∉ frs X.stack := by rw [hs]; exact nfr
    have aI : sI.heap.get? a = none := by
      cases e : sI.heap.get? a with
      | none => rfl
      | some o => rw [nb a o e fra] at aB; cases aB
    have h0 : X.s_0.heap.get? a = none := by
      cases e : X.s_0.heap.get? a with
      | none => rfl
      | some o =>
        by_cases hx : a ∈ X.ex
        · rw [hex] at hx; cases hx
        · obtain ⟨o', e'⟩ := J.base.there a o e hx
          rw [aI] at e'
          cases e'
    have hne : ∀ p ∈ X.pn ++ pins, p.1 ≠ a := fun p hp z => by
      have := (J.pin p hp).1
      rw [z, aI] at this
      cases this
    have LT : PySem.W.Looks (model X.prog X.w) h3 (typeOf (.ref a)) cls' := fun A Q E s hk hq => by
      refine wpAny_typeOf_ref (hk a oe3 he3) ?_
      rw [hz3.1]
      exact hq
    rcases hy with ⟨hm, hy⟩ | ⟨hm1, hm, hy⟩
    · refine wpAny_handleBy_cons (codeAny_handlers_test ?_) (by intro z; cases z)
      refine ld_glob (X := X.suite a ((a, oe3) :: (X.pn ++ pins))) S3 hg hmg ?_ hdb
      refine PySem.W.Looks.here (PySem.W.exm_one S3.kIn LT hm) ?_
      refine codeAny_handlers_suite_as (HandSPX.lands_againZ fl3 fun h4 fl4 up4 => ?_)
      have J4 := Inv.landed (s' := { s' with heap := h4 }) J nb fl4.1 ((up.trans up3).trans up4) os ag
      obtain ⟨oe4, vs4, he4, hz4, hd4⟩ := HandSPX.FlyingZ.there fl4
      have S4 := Inv.suite J4 he4 hd4 na nL nF
      refine store_ok (X := X.suite a ((a, oe4) :: (X.pn ++ pins))) (v := .ref a) S4 hN hi (Or.inl hln) rfl (fun s5 S5 => ?_) (Or.inr hln)
      refine wpAny_mono ((hsu a oe4 cls' d (X.pn ++ pins) hz4 ⟨vs4, hd4⟩).run [] s5 _ H' _ S5 (hy a na)) ?_ fun e s he => he.elim
      intro f s6 hsp
      cases f with
      | next =>
        obtain ⟨σ6, H6, S6, hq⟩ := hsp
        have S6' := unsuite2 S6 ok
        refine gone_ok S6' hN hi hln fun s7 S7 => ⟨_, _, trackD S7 h0 hz4 hd4 hne, hq ?_⟩
        exact (S7.pin (a, oe4) (List.mem_append_right _ List.mem_cons_self)).2.1
      | brk =>
        obtain ⟨σ6, H6, S6, hq⟩ := hsp
        exact gone_ok (Inv.unsuite S6 ok) hN hi hln fun s7 S7 => ⟨_, _, S7, hq⟩
      | cont =>
        obtain ⟨σ6, H6, S6, hq⟩ := hsp
        exact gone_ok (Inv.unsuite S6 ok) hN hi hln fun s7 S7 => ⟨_, _, S7, hq⟩
      | ret v =>
        obtain ⟨v', σ6, H6, S6, r, hq⟩ := hsp
        exact gone_ok (Inv.unsuite S6 ok) hN hi hln fun s7 S7 => ⟨v', _, _, S7, r, hq⟩
    · refine wpAny_handleBy_cons (codeAny_handlers_test ?_) (by intro z; cases z)
      refine ld_glob (X := X.suite a ((a, oe3) :: (X.pn ++ pins))) S3 hg hmg ?_ hdb
      refine PySem.W.Looks.here (PySem.W.exm_one S3.kIn LT hm1) ?_
      show wpAny _ X.A (handleBy (.ref a) X.env _) _ _ _
      refine wpAny_handleBy_cons (codeAny_handlers_test ?_) (by intro z; cases z)
      refine ld_glob (X := X.suite a ((a, oe3) :: (X.pn ++ pins))) S3 hg2 hmg2 ?_ hdb2
      refine PySem.W.Looks.here (PySem.W.exm_one S3.kIn LT hm) ?_
      refine codeAny_handlers_suite_as (HandSPX.lands_againZ fl3 fun h4 fl4 up4 => ?_)
      have J4 := Inv.landed (s' := { s' with heap := h4 }) J nb fl4.1 ((up.trans up3).trans up4) os ag
      obtain ⟨oe4, vs4, he4, hz4, hd4⟩ := HandSPX.FlyingZ.there fl4
      have S4 := Inv.suite J4 he4 hd4 na nL nF
      refine store_ok (X := X.suite a ((a, oe4) :: (X.pn ++ pins))) (v := .ref a) S4 hN hi2 (Or.inl hln2) rfl (fun s5 S5 => ?_) (Or.inr hln2)
      refine wpAny_mono ((hsu2 a oe4 cls' d (X.pn ++ pins) hz4 ⟨vs4, hd4⟩).run [] s5 _ H' _ S5 (hy a na)) ?_ fun e s he => he.elim
      intro f s6 hsp
      cases f with
      | next =>
        obtain ⟨σ6, H6, S6, hq⟩ := hsp
        have S6' := unsuite2 S6 ok
        refine gone_ok S6' hN hi2 hln2 fun s7 S7 => ⟨_, _, trackD S7 h0 hz4 hd4 hne, hq ?_⟩
        exact (S7.pin (a, oe4) (List.mem_append_right _ List.mem_cons_self)).2.1
      | brk =>
        obtain ⟨σ6, H6, S6, hq⟩ := hsp
        exact gone_ok (Inv.unsuite S6 ok) hN hi2 hln2 fun s7 S7 => ⟨_, _, S7, hq⟩
      | cont =>
        obtain ⟨σ6, H6, S6, hq⟩ := hsp
        exact gone_ok (Inv.unsuite S6 ok) hN hi2 hln2 fun s7 S7 => ⟨_, _, S7, hq⟩
      | ret v =>
        obtain ⟨v', σ6, H6, S6, r, hq⟩ := hsp
        exact gone_ok (Inv.unsuite S6 ok) hN hi2 hln2 fun s7 S7 => ⟨v', _, _, S7, r, hq⟩
  · intro f s1 hsp
    cases f with
    | next =>
      obtain ⟨σ', H', J', q⟩ := hsp
      exact wpAny_execs_nil ⟨σ', H', Inv.ofTry J' ok, q⟩
    | brk =>
      obtain ⟨σ', H', J', q⟩ := hsp
      exact ⟨σ', H', Inv.ofTry J' ok, q⟩
    | cont =>
      obtain ⟨σ', H', J', q⟩ := hsp
      exact ⟨σ', H', Inv.ofTry J' ok, q⟩
    | ret v =>
      obtain ⟨v', σ', H', J', r, q⟩ := hsp
      exact ⟨v', σ', H', Inv.ofTry J' ok, r, q⟩
end My

/-! C(k = e, ..), whose __init__ raises -/
namespace My
open PySem L2 PyProof.Rows
section
variable {X : Cx} {CX : CXT} {k n : Nat} {f C : Addr} {fd : FuncData} {ps ks : List Str} {sp : Sp} {E : L2.St → XK} {x : Str} {p pos : Pos} {kws : List Keyword} {t tk : TA} {g : List Value → List Value → List Value} {gV : List V → List V → List V}
def tMakeSK (C : Addr) (n m : Nat) (sp : Sp) (gV : List V → List V → List V) (E : L2.St → XK) (t tk : TA) : TE := fun σ H Q => t σ H fun vs H1 => tk σ H1 fun zs H2 => vs.length = n ∧ zs.length = m ∧ ∀ x dx, H2 x = none → H2 dx = none → dx ≠ x →
  sp (gV (.ref x :: vs) zs) (upd (upd H2 dx (.own x)) x (.ins C dx [])) (fun v H3 => v = .non ∧ Q (.ref x) H3) (E σ)
theorem run_makeSK {pins : List (Addr × Obj)} {σ : L2.St} {H : Hp} {s : Shared} {Q : VK} {us ws : List Value} {vs zs : List V} (M : Mk X.K C f) (F : FnOk X.prog X.w X.K X.mg X.base CX k f fd ps sp) (hr : Room (k + 1) X.A) (hb : KBn X.K fd ps (n + 1) ks g gV) (hx : PassS CX X E)
    (I : Inv X pins σ H s) (r : Vals vs us) (rz : Vals zs ws) (l1 : vs.length = n) (l2 : zs.length = ks.length)
    (h : ∀ x dx, H x = none → H dx = none → dx ≠ x → sp (gV (.ref x :: vs) zs) (upd (upd H dx (.own x)) x (.ins C dx [])) (fun v H2 => v = .non ∧ Q (.ref x) H2) (E σ)) :
    wpAny (model X.prog X.w) X.A (call (.ref C) us (ks.zip ws)) (EP X pins σ Q) X.xe s := by
  have hq := h (s.heap.objs.size + 1) s.heap.objs.size (I.hok.fresh (Nat.le_succ _)) (I.hok.fresh (Nat.le_refl _)) (Nat.ne_of_lt (Nat.lt_succ_self _))
  have I2 := Inv.made (C := C) I
  have r1 : Vals (V.ref (s.heap.objs.size + 1) :: vs) (Value.ref (s.heap.objs.size + 1) :: us) := .cons rfl r
  have r2 := hb.rel r1 rz
  have n1 : (Value.ref (s.heap.objs.size + 1) :: us).length = n + 1 := by
    rw [List.length_cons, ← r.length, l1]
  refine wpAny_call (make_map (f := f) I.kIn M.makes M.init (beq_iff_eq.mp M.fn) (codeAny_mono (F.run _ X.stack _ _ ⟨Value.ref (s.heap.objs.size + 1) :: us, ks.zip ws⟩ (g (Value.ref (s.heap.objs.size + 1) :: us) ws) _ _ (E σ) (hr.make C us (ks.zip ws))
    (I2.env0.make C us (ks.zip ws)) (hb.to _ (Value.ref (s.heap.objs.size + 1) :: us) ws I2.kIn n1 (rz.length.symm.trans l2)) r2 hq) fun r s' hq' => ?_))
  cases r with
  | error e => exact hx pins σ _ _ e s' I2 hq'
  | ok fl =>
    cases fl with
    | ret u =>
      obtain ⟨v, H', I3, rv, ev, q3⟩ := I2.after hq'
      subst ev
      exact ⟨rv, ⟨V.ref (s.heap.objs.size + 1), H', I3, rfl, q3⟩⟩
    | next => exact False.elim hq'
    | brk => exact False.elim hq'
    | cont => exact False.elim hq'
theorem pe_makeSK (O : OMkK X.prog X.w X.K X.mg X.base CX k C x ps ks gV sp) (hr : Room (k + 1) X.A) (hx : PassS CX X E) (hkw : PK X kws tk) (hg : Gl X x := by rfl)
    (hall : (backToKw pos (keywordEach kws X.env)).all (·.1.isSome) = true := by rfl) (hks : (backToKw pos (keywordEach kws X.env)).filterMap (·.1) = ks := by rfl) (hdb : (x == ("__debug__" : Str)) = false := by decide)
    (hpl : ((backTo pos (starEach [] X.env)).any (·.1) || (backToKw pos (keywordEach kws X.env)).any (·.1.isNone)) = false := by rfl) :
    PE X (.Call (.Name x p) [] kws pos) (tMakeSK C 0 ks.length sp gV E tNil tk) := by
  obtain ⟨f, fd, g, M, F, hm, B⟩ := O.ex
  refine ⟨fun pins s σ H Q I h => ?_⟩
  refine wpAny_Call_Name_kw (ld_glob I hg hm ?_ hdb)
  refine PySem.W.callWith_KW0 (h₀ := X.base) I.ok.mod.kin M.kp hall ?_ hpl
  refine thn (hkw.run pos pins s σ H _ I h) fun ws s2 ⟨zs, H2, I2, rz, l1, l2, q2⟩ => ⟨I2.kIn, ?_⟩
  rw [hks]
  exact run_makeSK (us := []) (vs := []) M F hr B hx I2 .nil rz rfl l2 q2
theorem r_mkSK {n m : Nat} {σ : L2.St} {H : Hp} {Q : VK} (h : t σ H fun vs H1 => tk σ H1 fun zs H2 => vs.length = n ∧ zs.length = m ∧ ∀ x dx, H2 x = none → H2 dx = none → dx ≠ x →
  sp (gV (.ref x :: vs) zs) (L2.upd (L2.upd H2 dx (.own x)) x (.ins C dx [])) (fun v H3 => v = .non ∧ Q (.ref x) H3) (E σ)) : tMakeSK C n m sp gV E t tk σ H Q := h
end
end My

namespace My
open PySem L2
/-! sets of texts made of a list of texts -/
theorem find_some {P : Program} {w : World} {ks : List Str} {k : Str} {es : List (Int × Value)} (hv : Vals (ks.map V.str) (es.map (·.2))) (hk : k ∈ ks) : ∃ j, List.findIdx? (fun e => (mixKind P w).is (Sum.inr k) e.2) es = some j := by
  cases h : List.findIdx? (fun e => (mixKind P w).is (Sum.inr k) e.2) es with
  | some j => exact ⟨j, rfl⟩
  | none =>
    rw [List.findIdx?_eq_none_iff] at h
    exfalso
    induction ks generalizing es with
    | nil => cases hk
    | cons y r ih =>
      cases es with
      | nil => cases hv
      | cons e es =>
        cases hv with
        | cons h1 h2 =>
          rcases List.mem_cons.mp hk with z | z
          · obtain ⟨tk, ht⟩ := h1
            have q := h e List.mem_cons_self
            replace q : Value.isStrOf k e.2 = false := q
            replace ht : e.2 = Value.str y tk := ht
            rw [ht] at q
            replace q : (y == k) = false := q
            rw [z, beq_self_eq_true] at q
            cases q
          · exact ih h2 z fun x hx => h x (List.mem_cons_of_mem _ hx)
theorem setS_old {P : Program} {w : World} {A : Around} {E : Value → Shared → Prop} {s : Shared} {a : Addr} {L : List Str} {k : Str} {tk : Tok} {Q : Bool → Shared → Prop} (R : SetSR P w s.heap a L) (hk : k ∈ L)
    (hQ : Q false s) : wpAny (model P w) A (setAddHashed a (.str k tk) ((mixKind P w).hash (Sum.inr k))) Q E s := by
  obtain ⟨o, es, ep, t, ks, ho, hex, hd, hel, hv, hp, hb, hf, hr, hl⟩ := R
  have hkey : (mixKind P w).is (Sum.inr k) (Value.str k tk) = true := by show (k == k) = true; exact beq_self_eq_true k
  have hsc : (Value.str k tk).scannable = true := rfl
  have hk' : k ∈ ks := hp.mem_iff.mpr hk
  show wpAny (model P w) A (holding [Value.str k tk] do setAddHashedIn a (.str k tk) ((mixKind P w).hash (Sum.inr k)) (99999 + 1)) Q E s
  rw [setAddHashedIn_succ]
  refine wpAny_holding (wpAny_bind (wpAny_setState_of ho hd hf ?_))
  show wpAny (model P w) _ (if byScan (Value.str k tk) es = true then _ else _) _ _ _
  rw [if_pos (byScan_of hsc hb hel)]
  refine wpAny_bind ?_
  unfold setAddByScan
  refine wpAny_bind (wpAny_rule ?_)
  refine wpAny_bind (wpAny_setScan_of (knd := mixKind P w) (k := Sum.inr k) hkey ho hd hf hel ?_)
  obtain ⟨j, hj⟩ := find_some (P := P) (w := w) hv hk'
  rw [hj]
  exact wpAny_pure (wpAny_pure hQ)
theorem SetSR.nil {P : Program} {w : World} {s : Shared} {a : Addr} (ho : s.heap.get? a = some { cls := .type "set", dict := none, data := .set #[] 0 (.fresh 0 0 (!w.params.followText "set-order")) }) : SetSR P w s.heap a [] :=
  SetTR.to_s (s := s) (setTR_fresh ho)
theorem SetSR.at_ {P : Program} {w : World} {h h' : Heap} {a : Addr} {L : List Str} (R : SetSR P w h a L) (k : ∀ o, h.get? a = some o → h'.get? a = some o) : SetSR P w h' a L := by
  obtain ⟨o, es, ep, t, ks, ho, r⟩ := R
  exact ⟨o, es, ep, t, ks, k o ho, r⟩
theorem nodup_sub_len {α : Type} [DecidableEq α] : ∀ {l m : List α}, l.Nodup → (∀ x ∈ l, x ∈ m) → l.length ≤ m.length
  | [], _, _, _ => Nat.zero_le _
  | x :: l, m, h, s => by
    have hx := s x List.mem_cons_self
    have h2 := nodup_sub_len (m := m.erase x) (List.nodup_cons.mp h).2 fun y hy => by
      refine (List.mem_erase_of_ne (fun e : y = x => (List.nodup_cons.mp h).1 (by rw [← e]; exact hy))).mpr (s y (List.mem_cons_of_mem _ hy))
    rw [List.length_erase_of_mem hx] at h2
    have := List.length_pos_of_mem hx
    rw [List.length_cons]
    omega
/-- what of xs is taken up to i: no text twice -/
structure GotS (xs : List Str) (i : Nat) (L : List Str) : Prop where
  nd : L.Nodup
  me : ∀ k, k ∈ L ↔ k ∈ xs.take i
theorem GotS.zero (xs : List Str) : GotS xs 0 [] := ⟨List.nodup_nil, fun k => by rw [List.take_zero]⟩
theorem GotS.same {xs : List Str} {i : Nat} {L : List Str} {k : Str} (g : GotS xs i L) (hk : xs[i]? = some k) (h : k ∈ L) : GotS xs (i + 1) L := ⟨g.nd, fun j => by
  rw [List.take_add_one, hk, List.mem_append, ← g.me j]
  refine ⟨.inl, fun z => z.elim id fun z => ?_⟩
  rw [List.mem_singleton.mp z]
  exact h⟩
theorem GotS.more {xs : List Str} {i : Nat} {L : List Str} {k : Str} (g : GotS xs i L) (hk : xs[i]? = some k) (h : k ∉ L) : GotS xs (i + 1) (k :: L) := ⟨List.nodup_cons.mpr ⟨h, g.nd⟩, fun j => by
  rw [List.take_add_one, hk, List.mem_append, ← g.me j, List.mem_cons]
  exact ⟨fun z => z.elim (fun z => .inr (by rw [z]; exact List.mem_singleton_self _)) .inl, fun z => z.elim .inr fun z => .inl (List.mem_singleton.mp z)⟩⟩
theorem GotS.len {xs : List Str} {i : Nat} {L : List Str} (g : GotS xs i L) : L.length ≤ xs.length := by
  have h := nodup_sub_len g.nd fun k hk => (g.me k).mp hk
  rw [List.length_take] at h
  omega
section
open PySem.Spec PyProof.Rows
variable {P : Program} {w : World} {A : Around} {E : Value → Shared → Prop} {s : Shared}
theorem set_update_strs {I : Addr} {fp wr : List Addr} {G : Array GenState → Array GenState → Prop} {n : Nat} {Pv : Nat → Value → Prop} {St : Nat → Shared → Prop} {R : Result → Shared → Prop}
    (W : WalksS P w A.in1 I fp wr G n Pv St) (S : Addr) (hSf : S ∉ fp) (ks : List Str) (hn : n = ks.length) (hfew : ks.length < 64) (hval : ∀ i v, Pv i v → ∃ k t, ks[i]? = some k ∧ v = .str k t) :
    ∀ (k i : Nat) (s : Shared), n - i = k → i ≤ n → St i s → (∃ L, SetSR P w s.heap S L ∧ GotS ks i L) →
      (∀ s' L, Moved (S :: wr) G s s' → SetSR P w s'.heap S L → GotS ks n L → R (.ok (.ret .none)) s') →
      codeAny (model P w) A (.builtin "set.update.loop" ⟨[.ref S, .ref I], []⟩) R s := by
  have hSw : S ∉ wr := fun h => hSf (W.sub _ h)
  have hsub : ∀ b ∈ wr, b ∈ S :: wr := fun b hb => List.mem_cons_of_mem _ hb
  intro k
  induction k with
  | zero =>
    intro i s hk' hi hst ⟨L, hS, g⟩ hR
    have hin : i = n := by omega
    subst hin
    refine codeAny_builtin PyProof.Rows.F.entry_set_update_loop ?_
    rw [Around.under_plainId PyProof.Rows.F.plain_set_update_loop _]
    show wpAny _ A.in1 (pyNext (.ref I) >>= _) _ _ s
    refine wpAny_bind (W.done s _ _ hst fun s' hm => ?_)
    show wpAny _ A.in1 (ret Value.none) _ _ s'
    exact wpAny_pure (hR s' L (hm.mono hsub) (hS.at_ fun o e => hm.heap S o hSw e) g)
  | succ k ih =>
    intro i s hk' hi hst ⟨L, hS, g⟩ hR
    have hlt : i < n := by omega
    refine codeAny_builtin PyProof.Rows.F.entry_set_update_loop ?_
    rw [Around.under_plainId PyProof.Rows.F.plain_set_update_loop _]
    show wpAny _ A.in1 (pyNext (.ref I) >>= _) _ _ s
    refine wpAny_bind (W.item i s _ _ hlt hst fun v s' hP hst' hm => ?_)
    obtain ⟨p, t, hp, rfl⟩ := hval i v hP
    have hS' : SetSR P w s'.heap S L := hS.at_ fun o e => hm.heap S o hSw e
    show wpAny _ A.in1 (holding [Value.str p t] (setAdd S (.str p t)) >>= _) _ _ s'
    refine wpAny_bind (wpAny_holding ?_)
    unfold setAdd
    refine wpAny_holding ?_
    refine wpAny_bind ((mixKind P w).pyHash (k := Sum.inr p) (show (p == p) = true from beq_self_eq_true p) ?_)
    have room := g.len
    by_cases c : p ∈ L
    · refine setS_old (s := { s' with toks := s'.toks + 1 }) hS' c ?_
      refine wpAny_pure ⟨plainId_quiet PyProof.Rows.F.plain_set_update_loop _, ih (i + 1) _ (by omega) hlt (W.frame _ s' _ _ hst' (Nat.le_succ _) fun b hb o e => e) ⟨L, hS', g.same hp c⟩ fun s'' L2 hm'' hS'' g'' => ?_⟩
      exact hR s'' L2 (Moved.trans W.gtrans ((hm.mono hsub).then_heap (Nat.le_succ _) fun b o hb e => e) hm'') hS'' g''
    · refine setS_add (s := { s' with toks := s'.toks + 1 }) hS' c (by unfold scanBound; omega) fun h' hsb R' => ?_
      refine wpAny_pure ⟨plainId_quiet PyProof.Rows.F.plain_set_update_loop _, ih (i + 1) _ (by omega) hlt (W.frame _ s' _ _ hst' (Nat.le_succ _) fun b hb o e => ?_) ⟨_, R', g.more hp c⟩ fun s'' L2 hm'' hS'' g'' => ?_⟩
      · rw [hsb.2 b (fun h : b = S => hSf (by rw [← h]; exact hb))]; exact e
      · refine hR s'' L2 (Moved.trans W.gtrans ((hm.mono hsub).then_heap (Nat.le_succ _) fun b o hb e => ?_) hm'') hS'' g''
        rw [hsb.2 b (fun h : b = S => hb (by rw [h]; exact List.mem_cons_self))]; exact e

set_option maxHeartbeats 3200000 in
/-- set(xs) -/
theorem call_set_strs {l : Addr} {items : Array Value} (ks : List Str) {Q : Value → Shared → Prop} (hh : A.handled = none) (hl : s.heap.IsList l items) (hit : StrsAre items.toList ks) (hfew : ks.length < 64)
    (h : ∀ (h' : Heap) (tk : Nat) L, SetSR P w h' s.heap.objs.size L → GotS ks ks.length L → (∀ b o, s.heap.get? b = some o → h'.get? b = some o) → Q (.ref s.heap.objs.size) { s with heap := h', toks := tk }) :
    wpAny (model P w) A (call (.type "set") [.ref l]) Q E s := by
  have hisz : items.size = ks.length := by rw [← StrsAre.len_eq hit, Array.length_toList]
  obtain ⟨c, tl, hmro⟩ := PySem.F.called_set.mro
  have hmade := PySem.F.called_set.made
  have hsub := PySem.F.called_set.sub
  refine wpAny_call (codeAny_of_tree ?_)
  show wpAny _ _ (callAny (.type "set") _) _ _ _
  refine wpAny_pure ⟨Code.quiet_builtin _ (by decide +kernel), codeAny_builtin PySem.F.entry_type_call ?_⟩
  rw [Around.under_plain (weight_type_call_type "set" [.ref l] []) rfl]
  have h1 := PySem.F.called_set.notType
  have h2 := PySem.F.called_set.canCreate
  have hct := PySem.F.typeCall_set_1 (.ref l)
  repeat (any_goals (first | assumption | wp_step))

  refine codeAny_mono (code_set_led1 (.ref l) (E := E) (Q₁ := fun obj s₁ => obj = .ref s.heap.objs.size ∧ s₁ = { s with heap := s.heap.push { cls := .type "set", dict := none, data := .set #[] 0 (.fresh 0 0 (!w.params.followText "set-order")) } }) ⟨rfl, rfl⟩) fun r s₁ hr => ?_
  cases r with
  | error e => exact hr
  | ok fl =>
    cases fl with
    | ret obj =>
      obtain ⟨rfl, rfl⟩ := hr
      have hS : (s.heap.push { cls := .type "set", dict := none, data := .set #[] 0 (.fresh 0 0 (!w.params.followText "set-order")) }).get? s.heap.objs.size = some { cls := .type "set", dict := none, data := .set #[] 0 (.fresh 0 0 (!w.params.followText "set-order")) } := Heap.get?_push_size _ rfl
      have hT : Shared.TypeIs { s with heap := s.heap.push { cls := .type "set", dict := none, data := .set #[] 0 (.fresh 0 0 (!w.params.followText "set-order")) } } (.ref s.heap.objs.size) "set" := ⟨_, hS, rfl⟩
      have hli := PySem.F.called_set.init.lookup
      have hbi := PySem.F.called_set.init.bind (.ref s.heap.objs.size)
      repeat (any_goals (first | assumption | wp_step))

      refine codeAny_mono (codeAny_call_builtin (R := wants (fun r s₂ => r = .none ∧ ∃ h' tk L, s₂ = { s with heap := h', toks := tk } ∧ SetSR P w h' s.heap.objs.size L ∧ GotS ks ks.length L ∧
          (∀ b o, s.heap.get? b = some o → h'.get? b = some o)) E) PySem.F.called_set.init.plain PySem.F.entry_set_init (check_set_init_1 hT ?_)) fun r₂ s₂ hr₂ => ?_
      · obtain ⟨ol, hol, hcl, nl, hdl⟩ := hl
        obtain ⟨ocls, odict, odata, oslots⟩ := ol
        simp only at hcl hdl
        subst hcl; subst hdl
        have hol' : (s.heap.push { cls := .type "set", dict := none, data := .set #[] 0 (.fresh 0 0 (!w.params.followText "set-order")) }).get? l = some { cls := .type "list", dict := odict, data := .seq items nl, slots := oslots } := Heap.get?_push_of_some _ hol
        have hsls := PySem.F.sub_list_set
        have hslf := PySem.F.sub_list_frozenset
        have hne : (Value.type "list" == Value.type "dict") = false := by decide
        have hl1 : (s.heap.push { cls := .type "set", dict := none, data := .set #[] 0 (.fresh 0 0 (!w.params.followText "set-order")) }).IsList l items := ⟨_, hol', rfl, nl, rfl⟩
        unfold Builtin.«set.__init__» noKeywords Builtin.Frozenset.updateFrom
        generalize hPI : pyIter = PI
        wp_walk
        subst hPI

        refine wpAny_pyIter_list hl1 ?_
        refine wpAny_bind (wpAny_runValue ?_)
        have hlS : l < s.heap.objs.size := Heap.lt_size hol
        have hh3 : A.in1.in1.in1.handled = none := by simp [hh]
        have hneI : l ≠ (s.heap.push { cls := .type "set", dict := none, data := .set #[] 0 (.fresh 0 0 (!w.params.followText "set-order")) }).objs.size := by
          rw [Heap.size_push]; exact Nat.ne_of_lt (Nat.lt_succ_of_lt hlS)
        have hSf : s.heap.objs.size ∉ [(s.heap.push { cls := .type "set", dict := none, data := .set #[] 0 (.fresh 0 0 (!w.params.followText "set-order")) }).objs.size, l] := by
          rw [Heap.size_push]; simp only [List.mem_cons, List.mem_singleton, List.not_mem_nil, or_false, not_or]
          exact ⟨Nat.ne_of_lt (Nat.lt_succ_self _), Nat.ne_of_gt hlS⟩
        have hval : ∀ (i : Nat) (v : Value), items[i]? = some v → ∃ k t, ks[i]? = some k ∧ v = .str k t := fun i v hv => by
          obtain ⟨t, ht⟩ := SS.strs_at hit i v (by rw [Array.getElem?_toList]; exact hv)
          have hlt : i < ks.length := by
            rw [← hisz]
            exact (Array.getElem?_eq_some_iff.mp hv).1
          refine ⟨_, t, List.getElem?_eq_getElem hlt, ?_⟩
          rw [ht, List.getD_eq_getElem?_getD, List.getElem?_eq_getElem hlt]
          rfl
        refine set_update_strs ((Walks.list hh3 _ l hneI items).toS) s.heap.objs.size
          hSf ks hisz hfew hval (items.size - 0) 0 _ (by omega) (Nat.zero_le _)
          ⟨⟨_, Heap.get?_push_size _ rfl, rfl, rfl⟩, (hl1.push _)⟩ ?hS0 ?hR
        case hS0 =>
          refine ⟨[], ?_, GotS.zero ks⟩
          exact SetSR.at_ (SetSR.nil (s := { s with heap := s.heap.push { cls := .type "set", dict := none, data := .set #[] 0 (.fresh 0 0 (!w.params.followText "set-order")) } }) hS) fun o e => Heap.get?_push_of_some _ e
        case hR =>
          intro s' L hm hS' g'
          obtain ⟨h', g2, d', tk', os'⟩ := s'
          have eg : g2 = s.gens := hm.gens
          have ed : d' = s.drawn := hm.drawn
          have eo : os' = s.os := hm.os
          subst eg; subst ed; subst eo
          show wpAny _ _ _ _ _ _
          refine wpAny_pure ?_
          show wpAny _ _ (ret Value.none) _ _ _
          rw [hisz] at g'
          refine wpAny_pure ⟨rfl, h', tk', L, rfl, hS', g', fun b o e => ?_⟩
          have hb := Heap.lt_size e
          have hb1 : b ≠ s.heap.objs.size := Nat.ne_of_lt hb
          have hb2 : b ≠ (s.heap.push { cls := .type "set", dict := none, data := .set #[] 0 (.fresh 0 0 (!w.params.followText "set-order")) }).objs.size := by
            rw [Heap.size_push]; exact Nat.ne_of_lt (Nat.lt_succ_of_lt hb)
          exact hm.heap b o (by simp only [List.mem_cons, List.mem_singleton, List.not_mem_nil, or_false, not_or]; exact ⟨hb1, hb2⟩) (Heap.get?_push_of_some _ (Heap.get?_push_of_some _ e))

      · cases r₂ with
        | error e => exact hr₂
        | ok fl₂ =>
          cases fl₂ with
          | ret r =>
            obtain ⟨rfl, h', tk, L, rfl, hS', g', hk'⟩ := hr₂
            repeat (any_goals (first | assumption | wp_step))
            exact h _ _ _ hS' g' hk'
          | _ => exact hr₂.elim
    | _ => exact hr.elim
end
def rSetL (K : PySem.W.Frag) (P : Program) (w : World) : List V → Hp → VK → Prop := fun xs H Q => ∃ (l : Addr) (ks : List Str), xs = [V.ref l] ∧ SqL K H l (ks.map V.str) ∧ ks.length < 64 ∧
  ∀ a L, H a = none → L.Nodup → (∀ k, k ∈ L ↔ k ∈ ks) → Q (.ref a) (upd H a (SetSO P w a L))
theorem strs_of_vals : ∀ {ks : List Str} {us : List Value}, Vals (ks.map V.str) us → PyProof.Rows.StrsAre us ks
  | [], _, .nil => .nil
  | _ :: _, _, .cons ⟨t, e⟩ r => by
    subst e
    exact .cons _ t (strs_of_vals r)
/-- set(xs), xs a list of texts -/
theorem cr_setL {X : Cx} (hc : X.calm = true) : CallR X (.type "set") (rSetL X.K X.prog X.w) := by
  intro pins s σ H xs us Q I r h
  obtain ⟨l, ks, rfl, hl, hf, q⟩ := h
  obtain ⟨u, rfl, ru⟩ := vals1 r
  cases ru
  obtain ⟨its, rv, pl, hz⟩ := I.list hl
  have hn : H s.heap.objs.size = none := I.hok.fresh (Nat.le_refl _)
  refine call_set_strs (P := X.prog) (w := X.w) ks (I.ok.hd hc) pl.isList (by simpa using strs_of_vals rv) hf fun h' tk L R g k => ?_
  refine ⟨.ref s.heap.objs.size, upd H s.heap.objs.size (SetSO X.prog X.w s.heap.objs.size L), I.laid (t' := tk) k (Nat.le_refl _) (setSO_new R), rfl, q _ L hn g.nd fun j => ?_⟩
  rw [g.me j, List.take_length]
end My

namespace My
open PySem L2
/-! xs[lo::2] -/
/-- the items at 0, 2, 4 .. -/
def evs {α : Type} : List α → List α
  | [] => []
  | [a] => [a]
  | a :: _ :: r => a :: evs r
theorem evs_map {α β : Type} (f : α → β) : ∀ xs : List α, evs (xs.map f) = (evs xs).map f
  | [] => rfl
  | [_] => rfl
  | a :: _ :: r => by show f a :: evs (r.map f) = f a :: (evs r).map f; rw [evs_map f r]
theorem evs_len {α : Type} : ∀ xs : List α, (evs xs).length = (xs.length + 1) / 2
  | [] => by simp [evs]
  | [_] => by simp [evs]
  | a :: _ :: r => by show (evs r).length + 1 = (r.length + 1 + 1 + 1) / 2; rw [evs_len r]; omega
theorem evs_at {α : Type} : ∀ (xs : List α) (i : Nat), (evs xs)[i]? = xs[2 * i]?
  | [], i => by simp [evs]
  | [a], 0 => rfl
  | [a], i + 1 => by simp [evs]
  | a :: b :: r, 0 => rfl
  | a :: b :: r, i + 1 => by
    show (evs r)[i]? = _
    rw [evs_at r i, show 2 * (i + 1) = 2 * i + 1 + 1 from by omega]
    rfl
theorem pick2 {α : Type} (xs : Array α) (a n : Nat) (h : xs.size ≤ a + 2 * n) : ((List.range n).map (fun k => a + 2 * k)).filterMap (xs[·]?) = evs (xs.toList.drop a) := by
  rw [List.filterMap_map]
  have key : ∀ m : Nat, (List.range m).filterMap ((fun x => xs[x]?) ∘ fun k => a + 2 * k) = (evs (xs.toList.drop a)).take m := by
    intro m
    induction m with
    | zero => simp
    | succ m ih =>
      rw [List.range_succ, List.filterMap_append, ih, List.take_add_one]
      congr 1
      rw [evs_at, List.getElem?_drop, Array.getElem?_toList]
      show (List.filterMap _ [m]) = _
      simp only [List.filterMap_cons, List.filterMap_nil, Function.comp]
      cases xs[a + 2 * m]? <;> rfl
  rw [key n]
  refine List.take_of_length_le ?_
  rw [evs_len, List.length_drop, Array.length_toList]
  omega
theorem slicePick_two (its : List Value) (a : Nat) (lo : Option Int) (hlo : lo = none ∧ a = 0 ∨ lo = some (a : Int)) : slicePick its.toArray lo none (some 2) = (evs (its.drop a)).toArray := by
  have e : ∃ b : Nat, sliceBounds lo none (some 2) its.toArray.size = ((b : Int), (its.length : Int), 2) ∧ its.drop b = its.drop a := by
    rcases hlo with ⟨rfl, rfl⟩ | rfl
    · exact ⟨0, rfl, rfl⟩
    · refine ⟨min a its.length, ?_, ?_⟩
      · simp only [sliceBounds, Option.getD_some]
        have h1 : ¬ ((a : Int) < 0) := by omega
        simp only [h1, if_false, show (2 : Int) > 0 by decide, if_true, List.size_toArray]
        congr 1
        omega
      · by_cases c : a ≤ its.length
        · rw [Nat.min_eq_left c]
        · rw [Nat.min_eq_right (by omega), List.drop_length, List.drop_of_length_le (by omega)]
  obtain ⟨b, e, ed⟩ := e
  unfold slicePick
  rw [e, ← ed]
  have er : sliceRange (b : Int) (its.length : Int) 2 = (List.range ((its.length - b + 1) / 2)).map fun k => b + 2 * k := by
    unfold sliceRange
    by_cases h : (b : Int) < its.length
    · simp only [show (2 : Int) > 0 by decide, if_true, h]
      have e2 : (((its.length : Int) - b + 2 - 1) / 2).toNat = (its.length - b + 1) / 2 := by omega
      rw [e2]
      exact List.map_congr_left fun k _ => by omega
    · have e2 : (its.length - b + 1) / 2 = 0 := by omega
      simp [h, e2]
  show (((sliceRange (b : Int) (its.length : Int) 2).filterMap (its.toArray[·]?))).toArray = _
  rw [er, pick2 _ _ _ (by rw [List.size_toArray]; omega)]
def tSl2 (K : PySem.W.Frag) (te : TE) (tl th ts : TO) : TE := fun σ H Q => te σ H fun x H1 => tl σ H1 fun l H2 => th σ H2 fun u H3 => ts σ H3 fun st H4 => u = none ∧ st = some 2 ∧ ∃ (p : Addr) (xs : List V) (a : Nat), x = .ref p ∧ (l = none ∧ a = 0 ∨ l = some (a : Int)) ∧ SqL K H4 p xs ∧ ∀ q, H4 q = none → Q (.ref q) (upd H4 q (.lst (evs (xs.drop a))))
theorem evs_rel : ∀ {xs : List V} {us : List Value}, Vals xs us → Vals (evs xs) (evs us)
  | _, _, .nil => .nil
  | _, _, .cons h .nil => .cons h .nil
  | _, _, .cons h (.cons _ r) => .cons h (evs_rel r)
theorem vals_drop : ∀ {xs : List V} {us : List Value} (a : Nat), Vals xs us → Vals (xs.drop a) (us.drop a)
  | _, _, 0, h => h
  | _, _, _ + 1, .nil => .nil
  | _, _, a + 1, .cons _ r => vals_drop a r
section
open PyProof.Rows PySem.Spec
variable {X : Cx} {e : Expr} {te : TE} {lo hi : Option Expr} {st : Expr} {tl th ts : TO} {pos p2 : Pos}
/-- xs[lo::2] of a list -/
theorem pe_slice2 (he : PE X e te) (hl : PO X lo tl) (hu : PO X hi th) (hs : PO X (some st) ts) : PE X (.Subscript e (.Slice lo hi (some st) p2) pos) (tSl2 X.K te tl th ts) := by
  refine ⟨fun pins s σ H Q I h => ?_⟩
  refine Subscript_ (thn (he.run pins s σ H _ I h) fun v s1 ⟨x, H1, I1, r1, q1⟩ => ?_)
  refine wpAny_Slice (thn (hl.run pins s1 σ H1 _ I1 q1) fun vl s2 ⟨l, H2, I2, pl, q2⟩ => thn (hu.run pins s2 σ H2 _ I2 q2) fun vu s3 ⟨u, H3, I3, pu, q3⟩ => thn (hs.run pins s3 σ H3 _ I3 q3) fun vs s4 ⟨t, H4, I4, ps, q4⟩ => ?_)
  obtain ⟨rfl, rfl, p, xs, a, rfl, hla, hx, q⟩ := q4
  have I5 : Inv X pins σ H4 { s4 with heap := s4.heap.push { cls := .type "slice", data := .fields #[vl, vu, vs] } } := I4.kept (t' := s4.toks) fun b ob q => Heap.get?_push_of_some _ q
  cases r1
  obtain ⟨its, r, ht, hz⟩ := I5.list hx
  have hlen := r.length
  show wpAny (model X.prog X.w) X.A (subscriptTail e (.Slice lo hi (some st) p2) (.ref p) (.ref s4.heap.objs.size)) (EP X pins σ Q) X.xe { s4 with heap := s4.heap.push { cls := .type "slice", data := .fields #[vl, vu, vs] } }
  refine tail_any (T := "list") (ops := [.ref p, .ref s4.heap.objs.size]) ht.isList.typeIs slot_list_getitem.lookup ?_ (by with_unfolding_all rfl)
  refine wpAny_getItem_list_slice ht.isList (Heap.IsSliceOf.new ..) pl pu ps (by simp) ?_ (by rw [List.size_toArray] <;> omega)
  rw [slicePick_two its a l hla]
  have hz2 : (evs (xs.drop a)).length ≤ sizeLine := by
    rw [evs_len, List.length_drop]
    omega
  exact ⟨.ref _, _, I5.laid (t' := s4.toks) (o := .lst (evs (xs.drop a))) (fun b ob q => Heap.get?_push_of_some _ q) (Nat.le_refl _) ⟨hz2, _, 0, evs_rel (vals_drop a r), Heap.get?_push_size _ rfl⟩, rfl, q _ (I5.hok.fresh (Nat.le_refl _))⟩
end
end My

/-! classmethods that raise: C.m(e), C.m(k = e); cls(..) of a local that holds a class -/
namespace My
open PySem L2 PyProof.Rows
/-- C.m is a classmethod, its def keeps sp -/
structure CCal (P : Program) (w : World) (K : PySem.W.Frag) (mg : Str → Option Value) (base : Heap) (CX : CXT) (k : Nat) (C : Addr) (m : Str) (ps ks : List Str) (sp : Sp) : Prop where
  ex : ∃ (f p : Addr) (fd : FuncData) (mc : Value), FnOk P w K mg base CX k f fd ps sp ∧ ClX.CRead K C mc ∧ ClX.CMet K C mc m p f ∧ Binds K fd ps [] ∧ KBinds K fd ps ks g1 g1
def tCmS (C : Addr) (sp : Sp) (E : L2.St → XK) (ta : TE) (t : TA) : TE := fun σ H Q => ta σ H fun x H1 => x = .ref C ∧ t σ H1 fun vs H2 => sp (.ref C :: vs) H2 Q (E σ)
def tCmSK (C : Addr) (sp : Sp) (E : L2.St → XK) (ta : TE) (tk : TA) : TE := fun σ H Q => ta σ H fun x H1 => x = .ref C ∧ tk σ H1 fun zs H2 => sp (g1 [.ref C] zs) H2 Q (E σ)
section
variable {X : Cx} {CX : CXT} {k : Nat} {C p g : Addr} {mc : Value} {ps ks : List Str} {sp : Sp} {E : L2.St → XK} {o e : Expr} {es : List Expr} {f m x : Str} {pos apos : Pos} {ta : TE} {t tk : TA} {pl : Sem Bool} {kws : List Keyword}
theorem run_cmS {pins : List (Addr × Obj)} {σ : L2.St} {H : Hp} {s : Shared} {fa q : Addr} {fd : FuncData} {Q : VK} {ws : List Value} {vs : List V} {args : Args} (F : FnOk X.prog X.w X.K X.mg X.base CX k fa fd ps sp) (hr : Room k X.A) (hx : PassS CX X E) (I : Inv X ((q, PySem.W.methodObj (.ref fa) (.ref C)) :: pins) σ H s)
    (hb : BindsTo s fd ⟨.ref C :: args.pos, args.kw⟩ (ps.zip ws)) (r : Vals vs ws) (h : sp vs H Q (E σ)) : wpAny (model X.prog X.w) X.A (call (.ref q) args.pos args.kw) (EP X pins σ Q) X.xe s := by
  have z : wpAny (model X.prog X.w) X.A (call (.ref q) args.pos args.kw) (EP X ((q, PySem.W.methodObj (.ref fa) (.ref C)) :: pins) σ Q) X.xe s := by
    refine wpAny_call (PySem.W.method_call (ClX.pin_at I) (codeAny_mono (F.run X.A X.stack s H ⟨.ref C :: args.pos, args.kw⟩ ws vs Q (E σ) hr I.env0 hb r h) fun r s' hq => ?_))
    cases r with
    | error e => exact hx _ σ H s e s' I hq
    | ok fl =>
      cases fl with
      | ret u => exact I.after hq
      | next => exact False.elim hq
      | brk => exact False.elim hq
      | cont => exact False.elim hq
  exact thn z fun _ _ y => ClX.unpinE y
theorem pe_cmS (O : CCal X.prog X.w X.K X.mg X.base CX k C m ps ks sp) (hr : Room k X.A) (hx : PassS CX X E) (he : PE X o ta) (ha : PA X (e :: es) t)
    (hst : starEach (e :: es) X.env = (false, eval e X.env) :: starEach es X.env := by rfl) (hpl : (backTo pos (starEach es X.env)).any (·.1) = false := by rfl)
    (ht : eval (.Call (.Attribute o m apos) (e :: es) [] pos) X.env = (do
      let ov ← eval o X.env
      standAt apos.atName
      let (f, first) ← holding [ov] (getMethod ov m pl)
      callWith pos f first (backTo pos (starEach (e :: es) X.env)) (backToKw pos (keywordEach [] X.env))) := by with_unfolding_all rfl) :
    PE X (.Call (.Attribute o m apos) (e :: es) [] pos) (tCmS C sp E ta t) := by
  obtain ⟨f, p, fd, mc, F, r, c, B, _⟩ := O.ex
  refine ⟨fun pins s σ H Q I h => ?_⟩
  refine PySem.W.methodCall_KW (pl := pl) (thn (he.run pins s σ H _ I h) fun u s1 ⟨x, H1, I1, rx, ex, q⟩ => ?_) ht
  subst ex
  obtain rfl : u = Value.ref C := rx
  refine ClX.getmethcm_ok I1 r c fun s2 I2 => ?_
  refine ClX.callwith_cm I2 (ClX.base_none I1 (Nat.le_refl _)) c.fi (thn (ha.run pos _ s2 σ H1 _ I2 q) fun us s3 ⟨vs, H2, I3, rv, q2⟩ => ⟨⟨ClX.pin_at I3, I3.kIn⟩, ?_⟩) hst hpl
  have rv' : Vals (V.ref C :: vs) (Value.ref C :: us) := .cons rfl rv
  have b := B s3 (Value.ref C :: us) I3.kIn (by rw [List.append_nil, ← rv'.length]; exact F.len _ _ _ _ q2)
  rw [List.append_nil] at b
  exact run_cmS (args := ⟨us, []⟩) F hr hx I3 b rv' q2
theorem pe_cmSK (O : CCal X.prog X.w X.K X.mg X.base CX k C m ps ks sp) (hr : Room k X.A) (hx : PassS CX X E) (he : PE X o ta) (hkw : PK X kws tk)
    (hall : (backToKw pos (keywordEach kws X.env)).all (·.1.isSome) = true := by rfl) (hks : (backToKw pos (keywordEach kws X.env)).filterMap (·.1) = ks := by rfl)
    (hpl : ((backTo pos (starEach [] X.env)).any (·.1) || (backToKw pos (keywordEach kws X.env)).any (·.1.isNone)) = false := by rfl)
    (ht : eval (.Call (.Attribute o m apos) [] kws pos) X.env = (do
      let ov ← eval o X.env
      standAt apos.atName
      let (f, first) ← holding [ov] (getMethod ov m pl)
      callWith pos f first (backTo pos (starEach [] X.env)) (backToKw pos (keywordEach kws X.env))) := by with_unfolding_all rfl) :
    PE X (.Call (.Attribute o m apos) [] kws pos) (tCmSK C sp E ta tk) := by
  obtain ⟨f, p, fd, mc, F, r, c, _, B⟩ := O.ex
  refine ⟨fun pins s σ H Q I h => ?_⟩
  refine PySem.W.methodCall_KW (pl := pl) (thn (he.run pins s σ H _ I h) fun u s1 ⟨x, H1, I1, rx, ex, q⟩ => ?_) ht
  subst ex
  obtain rfl : u = Value.ref C := rx
  refine ClX.getmethcm_ok I1 r c fun s2 I2 => ?_
  refine PySem.W.callWith_of (P := fun h => PySem.W.MethP X.K s1.heap.objs.size f (.ref C) h) hpl (PySem.W.keeps_M c.fi) (evalArgs_kw2_nil hall ?_)
  refine thn (hkw.run pos _ s2 σ H1 _ I2 q) fun ws s3 ⟨zs, H2, I3, rz, q2⟩ => ⟨⟨ClX.pin_at I3, I3.kIn⟩, ?_⟩
  rw [hks]
  have r1 : Vals [V.ref C] [Value.ref C] := .cons rfl .nil
  have r2 := B.rel r1 rz
  have hl : (g1 [Value.ref C] ws).length = ps.length := by rw [← r2.length]; exact F.len _ _ _ _ q2
  exact run_cmS (args := ⟨[], ks.zip ws⟩) F hr hx I3 (B.to s3 [.ref C] ws I3.kIn hl) r2 q2
/-- cls(e), cls() of a local that holds the class at C -/
def tMkV (i : Nat) (C : Addr) (sp : Sp) (E : XK) (t : TA) : TE := fun σ H Q => σ[i]? = some (some (.ref C)) ∧ tMk C sp E t σ H Q
structure OMkD (P : Program) (w : World) (K : PySem.W.Frag) (mg : Str → Option Value) (base : Heap) (CX : CXT) (k : Nat) (C : Addr) (ps : List Str) (dvs : List V) (sp : Sp) : Prop where
  ex : ∃ (f : Addr) (fd : FuncData) (ds : List Value), Mk K C f ∧ FnOk P w K mg base CX k f fd ps sp ∧ Binds K fd ps ds ∧ Vals dvs ds
theorem pe_makeV {i : Nat} {E : XK} (O : OMk X.prog X.w X.K X.mg X.base CX k C f ps sp) (hr : Room (k + 1) X.A) (hx : Passes CX X E) (hN : X.N[i]? = some x) (hv : Vis X.env.scope x) (ha : PA X (e :: es) t)
    (hd : (x == ("__debug__" : Str)) = false := by decide) (hcd : (x == ("__classdict__" : Str)) = false := by decide)
    (he : starEach (e :: es) X.env = (false, eval e X.env) :: starEach es X.env := by rfl) (hpl : (backTo pos (starEach es X.env)).any (·.1) = false := by rfl) :
    PE X (.Call (.Name x apos) (e :: es) [] pos) (tMkV i C sp E t) := by
  obtain ⟨fa, fd, M, F, _, hb⟩ := O.ex
  refine ⟨fun pins s σ H Q I ⟨hs, h⟩ => ?_⟩
  refine wpAny_Call_Name_kw (thn ((pe_var (pos := apos) hN hv hd hcd).run pins s σ H (fun v H1 => v = .ref C ∧ H1 = H) I ⟨.ref C, hs, rfl, rfl⟩) fun u s1 ⟨v, H1, I1, r1, q1⟩ => ?_)
  obtain ⟨rfl, rfl⟩ := q1
  cases r1
  refine PySem.W.callWith_K (h₀ := X.base) I1.ok.mod.kin M.kp (thn (ha.run pos pins s1 σ _ _ I1 h) fun us s2 ⟨vs, H2, I2, r, q⟩ => ⟨I2.kIn, ?_⟩) he hpl
  exact run_make M F hr hb .nil hx I2 r (by rw [List.append_nil]; exact q)
theorem pe_makeV0 {i : Nat} {E : XK} {dvs : List V} (O : OMkD X.prog X.w X.K X.mg X.base CX k C ps dvs sp) (hr : Room (k + 1) X.A) (hx : Passes CX X E) (hN : X.N[i]? = some x) (hv : Vis X.env.scope x)
    (hd : (x == ("__debug__" : Str)) = false := by decide) (hcd : (x == ("__classdict__" : Str)) = false := by decide) :
    PE X (.Call (.Name x apos) [] [] pos) (tMkV i C (fun vs => sp (vs ++ dvs)) E tNil) := by
  obtain ⟨fa, fd, ds, M, F, hb, hds⟩ := O.ex
  refine ⟨fun pins s σ H Q I ⟨hs, h⟩ => ?_⟩
  refine wpAny_Call_Name_kw (thn ((pe_var (pos := apos) hN hv hd hcd).run pins s σ H (fun v H1 => v = .ref C ∧ H1 = H) I ⟨.ref C, hs, rfl, rfl⟩) fun u s1 ⟨v, H1, I1, r1, q1⟩ => ?_)
  obtain ⟨rfl, rfl⟩ := q1
  cases r1
  exact PySem.W.callWith_K0 I1.kIn M.kp (run_make (us := []) M F hr hb hds hx I1 .nil h)
end
theorem r_cmS {σ : L2.St} {H : Hp} {Q : VK} {C : Addr} {sp : Sp} {E : L2.St → XK} {ta : TE} {t : TA} (h : ta σ H fun x H1 => x = .ref C ∧ t σ H1 fun vs H2 => sp (.ref C :: vs) H2 Q (E σ)) : tCmS C sp E ta t σ H Q := h
theorem r_cmSK {σ : L2.St} {H : Hp} {Q : VK} {C : Addr} {sp : Sp} {E : L2.St → XK} {ta : TE} {tk : TA} (h : ta σ H fun x H1 => x = .ref C ∧ tk σ H1 fun zs H2 => sp (g1 [.ref C] zs) H2 Q (E σ)) : tCmSK C sp E ta tk σ H Q := h
end My

set_option exponentiation.threshold 2000
/-! lots as texts: words, numbers, kinds -/
namespace My
open PySem L2
def ods {α : Type} (xs : List α) : List α := evs (xs.drop 1)
theorem ods_len {α : Type} (xs : List α) : (ods xs).length = xs.length / 2 := by
  unfold ods
  rw [evs_len, List.length_drop]
  omega
theorem ods_at {α : Type} (xs : List α) (i : Nat) : (ods xs)[i]? = xs[2 * i + 1]? := by
  unfold ods
  rw [evs_at, List.getElem?_drop, Nat.add_comm]
/-- a number as a Lot's text has it -/
def ManyS (s : Str) : Prop := 1 ≤ (cds s).length ∧ (cds s).length ≤ 300 ∧ (cds s)[0]? ≠ some 48 ∧ NumText.AllDigits (cds s)
def num (s : Str) : Int := ((NumText.digitsVal (cds s) : Nat) : Int)
def sp1 : Str := Str.ofString " "
def words (z : Str) : List Str := Txt.split z sp1
structure OkW (ws : List Str) : Prop where
  ev : ws.length % 2 = 0
  nu : ∀ c ∈ evs ws, ManyS c
  ki : ∀ k ∈ ods ws, KindS k
  up : (ods ws).Pairwise fun a b => cds a < cds b
def qsOf (ws : List Str) : AL := (ods ws).zip ((evs ws).map num)
def dash : Str := Str.ofString "-"
/-- what a line gives: none where it is no Lot's text -/
structure Reads (z : Str) (qs : AL) : Prop where
  ex : z = dash ∧ qs = [] ∨ z ≠ dash ∧ OkW (words z) ∧ qs = qsOf (words z)
def Bad (z : Str) : Prop := z ≠ dash ∧ ¬ OkW (words z)
theorem reads_or (z : Str) : (∃ qs, Reads z qs) ∨ Bad z := by
  by_cases h : z = dash
  · exact .inl ⟨[], ⟨.inl ⟨h, rfl⟩⟩⟩
  · by_cases c : OkW (words z)
    · exact .inl ⟨_, ⟨.inr ⟨h, c, rfl⟩⟩⟩
    · exact .inr ⟨h, c⟩
theorem Reads.not_bad {z : Str} {qs : AL} (r : Reads z qs) : ¬ Bad z := fun ⟨b1, b2⟩ => r.ex.elim (fun h => b1 h.1) fun h => b2 h.2.1
theorem Reads.uniq {z : Str} {q r : AL} (h : Reads z q) (g : Reads z r) : q = r := by
  rcases h.ex with ⟨e, rfl⟩ | ⟨e, _, rfl⟩ <;> rcases g.ex with ⟨e', rfl⟩ | ⟨e', _, rfl⟩
  · rfl
  · exact absurd e e'
  · exact absurd e' e
  · rfl
/-- the digits' worth, back -/
theorem val_snoc (cs : List Nat) (c : Nat) : NumText.digitsVal (cs ++ [c]) = NumText.digitsVal cs * 10 + (c - 48) := by
  unfold NumText.digitsVal
  rw [List.foldl_append]
  rfl
theorem snocRec {P : List Nat → Prop} (h0 : P []) (h : ∀ cs c, P cs → P (cs ++ [c])) (cs : List Nat) : P cs := by
  have : ∀ l : List Nat, P l.reverse := fun l => by
    induction l with
    | nil => exact h0
    | cons a l ih => rw [List.reverse_cons]; exact h _ _ ih
  have := this cs.reverse
  rwa [List.reverse_reverse] at this
theorem head_num : ∀ k : Nat, 0 < k → (TL.numL k)[0]? ≠ some 48 := by
  intro k
  induction k using Nat.strongRecOn with
  | _ k ih =>
    intro h
    by_cases c : k < 10
    · rw [TL.numL_lt c]
      intro e
      have := Option.some.inj e
      omega
    · rw [TL.numL_step (by omega)]
      have l := TL.numL_ne (k / 10)
      rw [List.getElem?_append_left (List.length_pos_iff.mpr l)]
      exact ih (k / 10) (by omega) (by omega)
theorem val_pos : ∀ (cs : List Nat), NumText.AllDigits cs → cs ≠ [] → cs[0]? ≠ some 48 → 0 < NumText.digitsVal cs := by
  intro cs
  induction cs using snocRec with
  | h0 => intro _ h; exact absurd rfl h
  | h cs c ih =>
    intro h _ h0
    rw [val_snoc]
    by_cases e : cs = []
    · subst e
      have hc := h c (by simp)
      have : c ≠ 48 := fun z => h0 (by rw [z]; rfl)
      omega
    · have := ih (fun d hd => h d (List.mem_append_left _ hd)) e (by
        rw [List.getElem?_append_left (by cases cs; exact absurd rfl e; simp)] at h0
        exact h0)
      omega
theorem numL_back : ∀ (cs : List Nat), NumText.AllDigits cs → cs ≠ [] → cs[0]? ≠ some 48 → TL.numL (NumText.digitsVal cs) = cs := by
  intro cs
  induction cs using snocRec with
  | h0 => intro _ h; exact absurd rfl h
  | h cs c ih =>
    intro h _ h0
    have hc := h c (by simp)
    have hcs : NumText.AllDigits cs := fun d hd => h d (List.mem_append_left _ hd)
    rw [val_snoc]
    by_cases e : cs = []
    · subst e
      show TL.numL (0 * 10 + (c - 48)) = [c]
      rw [TL.numL_lt (by omega)]
      congr 1
      omega
    · have h0' : cs[0]? ≠ some 48 := by
        rw [List.getElem?_append_left (by cases cs; exact absurd rfl e; simp)] at h0
        exact h0
      have p := val_pos cs hcs e h0'
      rw [TL.numL_step (by omega)]
      have e1 : (NumText.digitsVal cs * 10 + (c - 48)) / 10 = NumText.digitsVal cs := by omega
      have e2 : 48 + (NumText.digitsVal cs * 10 + (c - 48)) % 10 = c := by omega
      rw [e1, e2, ih hcs e h0']
theorem val_lt : ∀ (cs : List Nat), NumText.AllDigits cs → NumText.digitsVal cs < 10 ^ cs.length := by
  intro cs
  induction cs using snocRec with
  | h0 => intro _; show 0 < 10 ^ 0; decide
  | h cs c ih =>
    intro h
    have hc := h c (by simp)
    have := ih fun d hd => h d (List.mem_append_left _ hd)
    rw [val_snoc, List.length_append]
    show _ < 10 ^ (cs.length + 1)
    rw [Nat.pow_succ]
    omega
theorem ManyS.ne {s : Str} (h : ManyS s) : cds s ≠ [] := fun e => by have := h.1; rw [e] at this; exact absurd this (by decide)
theorem ManyS.pos {s : Str} (h : ManyS s) : 0 < num s := by
  have := val_pos _ h.2.2.2 h.ne h.2.2.1
  unfold num
  omega
theorem ManyS.lt {s : Str} (h : ManyS s) : (num s).natAbs < 2 ^ 1000 := by
  have h1 := val_lt _ h.2.2.2
  have h2 : (10 : Nat) ^ (cds s).length ≤ 10 ^ 300 := Nat.pow_le_pow_right (by decide) h.2.1
  have h3 : (10 : Nat) ^ 300 < 2 ^ 1000 := by decide +kernel
  unfold num
  rw [Int.natAbs_natCast]
  omega
theorem ManyS.reads {s : Str} (h : ManyS s) : intText? s = some (num s) := by
  refine intText_digits h.2.2.2 h.ne ?_
  rw [len_cds]
  have := h.2.1
  omega
theorem ManyS.text {s : Str} (h : ManyS s) : ((toString (num s) : String) : Str) = s := by
  refine TL.ext_tl ?_
  show TL.tl (Str.ofString (toString (num s))) = cds s
  unfold num
  rw [TL.tl_num]
  exact numL_back _ h.2.2.2 h.ne h.2.2.1
theorem many_num {n : Int} (h0 : 0 < n) (h1 : n < 10 ^ 20) : ManyS (Str.ofString (toString n)) ∧ num (Str.ofString (toString n)) = n := by
  obtain ⟨k, rfl⟩ : ∃ k : Nat, n = (k : Int) := ⟨n.toNat, by omega⟩
  have e : cds (Str.ofString (toString ((k : Nat) : Int))) = TL.numL k := TL.tl_num k
  have hk : k < 10 ^ 20 := by omega
  have ev : NumText.digitsVal (TL.numL k) = k := TL.numL_val k
  have hne := TL.numL_ne k
  refine ⟨⟨?_, ?_, ?_, ?_⟩, ?_⟩
  · rw [e]; exact List.length_pos_iff.mpr hne
  · rw [e]; exact Nat.le_trans (TL.numL_len (by decide) hk) (by decide)
  · rw [e]
    exact head_num k (by omega)
  · rw [e]; exact TL.numL_digits k
  · unfold num
    rw [e, ev]
end My

/-! lines: their words, how long, and back -/
namespace My
open PySem L2
theorem pre32 (c : Nat) (r : List Nat) : TL.pre [32] (c :: r) = (c == 32) := by
  show ([c] == [32]) = _
  by_cases h : c = 32
  · subst h; rfl
  · have : (c == 32) = false := beq_eq_false_iff_ne.mpr h
    rw [this]
    exact beq_eq_false_iff_ne.mpr fun z => h (by injection z)
theorem spl_len : ∀ (l acc : List Nat), (TL.spl [32] 0 acc l).length = l.count 32 + 1
  | [], _ => rfl
  | c :: r, acc => by
    by_cases h : c = 32
    · subst h
      rw [TL.spl_hit (by rw [pre32]; rfl), List.length_cons, List.count_cons_self]
      show (TL.spl [32] 0 [] r).length + 1 = _
      rw [spl_len r []]
    · rw [TL.spl_miss (by rw [pre32]; exact beq_eq_false_iff_ne.mpr h), spl_len r, List.count_cons_of_ne h]
theorem spl_sum : ∀ (l acc : List Nat), ((TL.spl [32] 0 acc l).map List.length).sum + l.count 32 = acc.length + l.length
  | [], acc => rfl
  | c :: r, acc => by
    by_cases h : c = 32
    · subst h
      rw [TL.spl_hit (by rw [pre32]; rfl), List.map_cons, List.sum_cons, List.count_cons_self]
      have := spl_sum r []
      show acc.length + ((TL.spl [32] 0 [] r).map List.length).sum + _ = _
      rw [List.length_nil] at this
      rw [List.length_cons]
      omega
    · rw [TL.spl_miss (by rw [pre32]; exact beq_eq_false_iff_ne.mpr h), List.count_cons_of_ne h, spl_sum r, List.length_append, List.length_cons, List.length_cons, List.length_nil]; omega
theorem spl_free : ∀ (l acc : List Nat), 32 ∉ acc → ∀ w ∈ TL.spl [32] 0 acc l, 32 ∉ w
  | [], acc, h, w, hw => by
    have : w = acc := List.mem_singleton.mp hw
    rw [this]; exact h
  | c :: r, acc, h, w, hw => by
    by_cases e : c = 32
    · subst e
      rw [TL.spl_hit (by rw [pre32]; rfl)] at hw
      rcases List.mem_cons.mp hw with z | z
      · rw [z]; exact h
      · exact spl_free r [] (by simp) w z
    · rw [TL.spl_miss (by rw [pre32]; exact beq_eq_false_iff_ne.mpr e)] at hw
      refine spl_free r _ (fun z => ?_) w hw
      rcases List.mem_append.mp z with z | z
      · exact h z
      · exact e (List.mem_singleton.mp z).symm
theorem tl_sp1 : TL.tl sp1 = [32] := by decide +kernel
theorem words_cds (z : Str) : (words z).map cds = TL.spl [32] 0 [] (cds z) := by
  have := TL.split_spl z sp1 (by rw [tl_sp1]; simp) (TL.kind_ok (by decide +kernel))
  rw [tl_sp1] at this
  exact this
theorem words_len (z : Str) : (words z).length = (cds z).count 32 + 1 := by
  have := congrArg List.length (words_cds z)
  rw [List.length_map, spl_len] at this
  exact this
theorem words_free {z w : Str} (h : w ∈ words z) : 32 ∉ cds w := by
  have : cds w ∈ (words z).map cds := List.mem_map.mpr ⟨w, h, rfl⟩
  rw [words_cds] at this
  exact spl_free _ _ (by simp) _ this
theorem words_sum (z : Str) : ((words z).map (·.length)).sum + (cds z).count 32 = z.length := by
  have h := spl_sum (cds z) []
  rw [← words_cds, List.map_map, List.length_nil, Nat.zero_add, ← len_cds] at h
  rw [← h]
  congr 2
/-- a line: its length, its blanks -/
structure Ln (z : Str) (a b : Nat) : Prop where
  le : (cds z).length ≤ a
  bl : (cds z).count 32 ≤ b
theorem joinL_count : ∀ (ps : List (List Nat)), (∀ p ∈ ps, 32 ∉ p) → ps ≠ [] → (TL.joinL [32] ps).count 32 + 1 = ps.length ∧ (TL.joinL [32] ps).length + 1 = (ps.map List.length).sum + ps.length
  | [], _, h => absurd rfl h
  | [p], h, _ => by
    have h1 : (TL.joinL [32] [p]) = p := rfl
    rw [h1, List.count_eq_zero.mpr (h p List.mem_cons_self)]
    simp
  | p :: q :: r, h, _ => by
    obtain ⟨i1, i2⟩ := joinL_count (q :: r) (fun x hx => h x (List.mem_cons_of_mem _ hx)) (by simp)
    have h1 : TL.joinL [32] (p :: q :: r) = p ++ ([32] ++ TL.joinL [32] (q :: r)) := rfl
    rw [h1]
    generalize TL.joinL [32] (q :: r) = J at i1 i2 ⊢
    rw [List.count_append, List.count_append, List.count_eq_zero.mpr (h p List.mem_cons_self), List.length_append, List.length_append, List.map_cons, List.sum_cons, List.length_cons]
    generalize ((q :: r).map List.length).sum = S at i2 ⊢
    generalize (q :: r).length = n at i1 i2 ⊢
    have : [32].count 32 = 1 := rfl
    have e1 : [32].length = 1 := rfl
    rw [this, e1]
    omega
theorem cds_joinw (ps : List Str) : cds (Txt.join sp1 ps) = TL.joinL [32] (ps.map cds) := by
  have e := TL.tl_join sp1 ps
  rw [tl_sp1] at e
  rw [TL.join_eq]
  exact e
theorem join_ln {ps : List Str} (h : ∀ p ∈ ps, 32 ∉ cds p) (hn : ps ≠ []) : (cds (Txt.join sp1 ps)).count 32 + 1 = ps.length ∧ (cds (Txt.join sp1 ps)).length + 1 = (ps.map (·.length)).sum + ps.length := by
  rw [cds_joinw]
  have := joinL_count (ps.map cds) (fun p hp => by obtain ⟨q, hq, rfl⟩ := List.mem_map.mp hp; exact h q hq) (by simpa using hn)
  rw [List.length_map, List.map_map] at this
  exact this
/-! ### the way back -/
def lw (p : Str × Int) : Str := (Str.ofString (toString p.2) ++ sp1) ++ p.1
def flat : AL → List Str
  | [] => []
  | p :: r => Str.ofString (toString p.2) :: p.1 :: flat r
def ltx (qs : AL) : Str := Txt.join sp1 (qs.map lw)
theorem flat2_len : ∀ qs : AL, (flat qs).length = 2 * qs.length
  | [] => rfl
  | p :: r => by show (flat r).length + 1 + 1 = 2 * (r.length + 1); rw [flat2_len r]; omega
theorem evs_flat : ∀ qs : AL, evs (flat qs) = qs.map fun p => Str.ofString (toString p.2)
  | [] => rfl
  | p :: r => by show _ :: evs (flat r) = _; rw [evs_flat r]; rfl
theorem ods_flat (qs : AL) : ods (flat qs) = keys qs := by
  refine List.ext_getElem? fun i => ?_
  rw [ods_at]
  unfold keys
  induction qs generalizing i with
  | nil => simp [flat]
  | cons p r ih =>
    cases i with
    | zero => rfl
    | succ i =>
      show (flat r)[2 * i + 1]? = _
      rw [ih i]
      rfl
theorem lw_cds (p : Str × Int) : cds (lw p) = cds (Str.ofString (toString p.2)) ++ ([32] ++ cds p.1) := by
  unfold lw
  rw [cds_app, cds_app, show cds sp1 = [32] from tl_sp1, List.append_assoc]
theorem flat_join : ∀ qs : AL, qs ≠ [] → TL.joinL [32] ((qs.map lw).map cds) = TL.joinL [32] ((flat qs).map cds)
  | [], h => absurd rfl h
  | [p], _ => lw_cds p
  | p :: q :: r, _ => by
    have ih := flat_join (q :: r) (by simp)
    show cds (lw p) ++ ([32] ++ TL.joinL [32] (((q :: r).map lw).map cds)) = cds (Str.ofString (toString p.2)) ++ ([32] ++ (cds p.1 ++ ([32] ++ TL.joinL [32] ((flat (q :: r)).map cds))))
    rw [ih, lw_cds, List.append_assoc, List.append_assoc]
theorem ltx_flat {qs : AL} (h : qs ≠ []) : ltx qs = Txt.join sp1 (flat qs) := by
  refine TL.ext_tl ?_
  show cds _ = cds _
  unfold ltx
  rw [cds_joinw, cds_joinw, flat_join qs h]
theorem flat_free {qs : AL} (h : ∀ p ∈ qs, 0 < p.2) (hk : ∀ p ∈ qs, KindS p.1) : ∀ w ∈ flat qs, 32 ∉ cds w := by
  induction qs with
  | nil => intro w hw; cases hw
  | cons p r ih =>
    intro w hw
    rcases List.mem_cons.mp hw with rfl | hw
    · have h0 := h p List.mem_cons_self
      obtain ⟨k, hk0⟩ : ∃ k : Nat, p.2 = (k : Int) := ⟨p.2.toNat, by omega⟩
      rw [hk0]
      show 32 ∉ TL.tl (Str.ofString (toString ((k : Nat) : Int)))
      rw [TL.tl_num]
      exact TL.numL_free (.inl (by decide))
    · rcases List.mem_cons.mp hw with rfl | hw
      · intro z
        have := (hk p List.mem_cons_self).2.2 _ z
        omega
      · exact ih (fun q hq => h q (List.mem_cons_of_mem _ hq)) (fun q hq => hk q (List.mem_cons_of_mem _ hq)) w hw
theorem words_ltx {qs : AL} (hne : qs ≠ []) (h : ∀ p ∈ qs, 0 < p.2) (hk : ∀ p ∈ qs, KindS p.1) : words (ltx qs) = flat qs := by
  rw [ltx_flat hne]
  exact TL.split_join (s := 32) (S := []) tl_sp1 (by decide +kernel) (fun e => hne (List.length_eq_zero_iff.mp (by have := congrArg List.length e; rw [flat2_len] at this; replace this : 2 * qs.length = 0 := this; omega))) (flat_free h hk)
theorem reads_ltx {qs : AL} (hne : qs ≠ []) (h : ∀ p ∈ qs, 0 < p.2 ∧ p.2 < 10 ^ 20) (hk : ∀ p ∈ qs, KindS p.1) (up : (keys qs).Pairwise fun a b => cds a < cds b) : Reads (ltx qs) qs := by
  have hw := words_ltx hne (fun p hp => (h p hp).1) hk
  have l1 : 0 < qs.length := List.length_pos_iff.mpr hne
  refine ⟨.inr ⟨fun e => ?_, ?_, ?_⟩⟩
  · rw [e] at hw
    have l2 := congrArg List.length hw
    rw [flat2_len, words_len, show (cds dash).count 32 = 0 by decide +kernel] at l2
    omega
  · rw [hw]
    refine ⟨by rw [flat2_len]; omega, fun c hc => ?_, fun k hk' => ?_, ?_⟩
    · rw [evs_flat] at hc
      obtain ⟨p, hp, rfl⟩ := List.mem_map.mp hc
      exact (many_num (h p hp).1 (h p hp).2).1
    · rw [ods_flat] at hk'
      obtain ⟨p, hp, rfl⟩ := List.mem_map.mp hk'
      exact hk p hp
    · rw [ods_flat]; exact up
  · rw [hw]
    unfold qsOf
    rw [ods_flat, evs_flat, List.map_map]
    unfold keys
    have : qs.map (num ∘ fun p : Str × Int => Str.ofString (toString p.2)) = qs.map (·.2) := List.map_congr_left fun p hp => (many_num (h p hp).1 (h p hp).2).2
    rw [this]
    exact (List.zip_unzip qs).symm.trans (by rw [List.unzip_eq_map])
end My

/-! a list of kinds against its own set, sorted -/
namespace My
open PySem L2
theorem cds_inj {a b : Str} (h : cds a = cds b) : a = b := TL.ext_tl h
theorem sle_lt {a b : Str} (h : sle a b = true) (n : a ≠ b) : cds a < cds b := by
  have h1 : ¬ cds b < cds a := by
    unfold sle at h
    simpa using h
  rcases Classical.em (cds a < cds b) with c | c
  · exact c
  · exact absurd (cds_inj (List.le_antisymm (List.not_lt.mp h1) (List.not_lt.mp c))) n
theorem lt_sle {a b : Str} (h : cds a < cds b) : sle a b = true := by
  unfold sle
  simpa using List.lt_asymm h
theorem asc_iff {ks ys L : List Str} (nd : L.Nodup) (me : ∀ k, k ∈ L ↔ k ∈ ks) (hp : ys.Perm L) (hs : PyProof.Rows.sortedS ys = true) : ks = ys ↔ ks.Pairwise fun a b => cds a < cds b := by
  have sy := sorted_sle hs
  have ny : ys.Nodup := hp.nodup_iff.mpr nd
  constructor
  · rintro rfl
    exact (List.Pairwise.and sy ny).imp fun {a b} z => sle_lt z.1 z.2
  · intro up
    have nk : ks.Nodup := up.imp fun {a b} z e => by rw [e] at z; exact List.lt_irrefl _ z
    have sk : ks.Pairwise fun a b => sle a b = true := up.imp fun {a b} z => lt_sle z
    have pm : ks.Perm ys := (List.perm_ext_iff_of_nodup nk ny).mpr fun k => by rw [hp.mem_iff, me]
    exact pm.eq_of_pairwise (fun a b _ _ => sle_anti) sk sy
def sd (ks : List Str) : PyData := .list (ks.map .str)
theorem dp_strs {K : PySem.W.Frag} {H : Hp} : ∀ (ks : List Str), DpAll K H (ks.map V.str) (ks.map .str)
  | [] => .nil
  | k :: r => .cons (.str _) (dp_strs r)
theorem can_sd {qs : List Str} (h : ∀ p ∈ qs, KindS p) : (sd qs).canLay0 = true := by
  unfold sd
  unfold PyData.canLay0
  induction qs with
  | nil => rfl
  | cons p r ih =>
    rw [List.map_cons]
    show (PyData.strOk p && PyData.canLayAll0 (List.map PyData.str r)) = true
    rw [ih fun q hq => h q (List.mem_cons_of_mem _ hq), Bool.and_true]
    exact strOk_kind (h p List.mem_cons_self)
theorem depth_strs : ∀ ks : List Str, PyData.depthAll (ks.map PyData.str) ≤ 1
  | [] => by decide
  | k :: r => by
    have := depth_strs r
    show max (PyData.depth (.str k)) (PyData.depthAll (r.map PyData.str)) ≤ 1
    have : PyData.depth (.str k) ≤ 1 := by simp [PyData.depth]
    omega
theorem shaped_sd {qs : List Str} (h : ∀ p ∈ qs, KindS p) : SeqAt.shaped (sd qs) = true := by
  unfold SeqAt.shaped
  rw [can_sd h, Bool.true_and]
  refine decide_eq_true ?_
  have := depth_strs qs
  show PyData.depthAll (qs.map PyData.str) + 1 ≤ 64
  omega
theorem eqv_strs : ∀ a b : List Str, PyData.eqvAll (a.map .str) (b.map .str) = decide (a = b)
  | [], [] => rfl
  | [], y :: s => by
    symm
    exact decide_eq_false (by simp)
  | x :: r, [] => by
    symm
    exact decide_eq_false (by simp)
  | x :: r, y :: s => by
    show ((x == y) && PyData.eqvAll (r.map .str) (s.map .str)) = _
    rw [eqv_strs r s]
    by_cases h : x = y
    · subst h
      rw [beq_self_eq_true, Bool.true_and]
      by_cases g : r = s
      · subst g; rw [decide_eq_true rfl, decide_eq_true rfl]
      · rw [decide_eq_false g, decide_eq_false (by simpa using g)]
    · rw [beq_eq_false_iff_ne.mpr h, Bool.false_and, decide_eq_false (by simp [h])]
theorem eqv_sd (a b : List Str) : (sd a).eqv (sd b) = decide (a = b) := eqv_strs a b
theorem keys_qsOf {ws : List Str} (h : ws.length % 2 = 0) : keys (qsOf ws) = ods ws := by
  unfold keys qsOf
  refine List.map_fst_zip ?_
  rw [List.length_map, ods_len, evs_len]
  omega
theorem qsOf_at {ws : List Str} {i : Nat} {c k : Str} (hc : (evs ws)[i]? = some c) (hk : (ods ws)[i]? = some k) : (qsOf ws)[i]? = some (k, num c) := by
  unfold qsOf
  rw [List.getElem?_zip_eq_some]
  refine ⟨hk, ?_⟩
  rw [List.getElem?_map, hc]
  rfl
theorem qsOf_len {ws : List Str} (h : ws.length % 2 = 0) : (qsOf ws).length = ws.length / 2 := by
  unfold qsOf
  rw [List.length_zip, List.length_map, ods_len, evs_len]
  omega
theorem qsOf_pos {ws : List Str} (ok : OkW ws) : ∀ p ∈ qsOf ws, 0 < p.2 ∧ KindS p.1 ∧ p.2.natAbs < 2 ^ 1000 := by
  intro p hp
  have h1 := (List.of_mem_zip (show (p.1, p.2) ∈ (ods ws).zip ((evs ws).map num) from hp))
  obtain ⟨c, hc, e⟩ := List.mem_map.mp h1.2
  have m := ok.nu c hc
  rw [← e]
  exact ⟨m.pos, ok.ki _ h1.1, m.lt⟩
theorem qsOf_nodup {ws : List Str} (ok : OkW ws) : (keys (qsOf ws)).Nodup := by
  rw [keys_qsOf ok.ev]
  exact ok.up.imp fun {a b} z e => by rw [e] at z; exact List.lt_irrefl _ z
theorem qsOf_up {ws : List Str} (ok : OkW ws) : (qsOf ws).Pairwise fun a b => ple a b = true := by
  have h := ok.up
  rw [← keys_qsOf ok.ev] at h
  unfold keys at h
  rw [List.pairwise_map] at h
  refine h.imp fun {a b} z => ?_
  have n : a.1 ≠ b.1 := fun e => by rw [e] at z; exact List.lt_irrefl _ z
  show (if a.1 = b.1 then _ else sle a.1 b.1) = true
  rw [if_neg n]
  exact lt_sle z
theorem cn_tot {m qs : AL} (nd : (keys m).Nodup) (qn : (keys qs).Nodup) (qp : ∀ p ∈ qs, 0 < p.2) (up : qs.Pairwise fun a b => ple a b = true) (hg : ∀ k, get m k = tot qs k) : Cn m qs := by
  have h := pos_perm nd qn fun k _ => (hg k).trans (tot_nodup k qn)
  rw [pos_all qp] at h
  exact ⟨h.symm, up⟩
end My

/-! text * number; which lines are a Lot's texts, by computing -/
namespace My
open PySem L2
def rMulS : R2 := fun x y H Q => ∃ (z : Str) (n : Int), x = .str z ∧ y = .int n ∧ MulOk z n ∧ Q (.str (Txt.mul z n)) H
theorem op_mulS {X : Cx} : OpR X (binaryOp .Mult) rMulS := by
  intro pins s σ H x y v u Q I rx ry h
  obtain ⟨z, n, rfl, rfl, ok, q⟩ := h
  obtain ⟨t, rfl⟩ := rx
  obtain ⟨t', rfl⟩ := ry
  exact SB.mul ok fun t2 k => ⟨.str _, H, I.tok k, ⟨_, rfl⟩, q⟩
instance (z : Str) : Decidable (ManyS z) := by unfold ManyS NumText.AllDigits; exact inferInstance
instance (z : Str) : Decidable (KindS z) := by unfold KindS AllL; exact inferInstance
instance (ws : List Str) : Decidable (OkW ws) :=
  decidable_of_iff (ws.length % 2 = 0 ∧ (∀ c ∈ evs ws, ManyS c) ∧ (∀ k ∈ ods ws, KindS k) ∧ (ods ws).Pairwise fun a b => cds a < cds b) ⟨fun ⟨a, b, c, d⟩ => ⟨a, b, c, d⟩, fun h => ⟨h.1, h.2, h.3, h.4⟩⟩
instance (z : Str) : Decidable (Bad z) := by unfold Bad; exact inferInstance
def badTexts : List Str := [Str.ofString "", Str.ofString " ", Str.ofString "- ", Str.ofString "0 a", Str.ofString "1", Str.ofString "1 a 1 a", Str.ofString "1\ta", Str.ofString "1 a\n", Str.ofString "a 1", Str.ofString "2 b 1 a"]
theorem bad_all : ∀ z ∈ badTexts, Bad z := by decide +kernel
theorem bad_long : Bad (Str.ofString "1 abcdefghi") := by decide +kernel
theorem reads_eight : Reads (Str.ofString "1 abcdefgh") [(Str.ofString "abcdefgh", 1)] := ⟨.inr (by decide +kernel)⟩
theorem reads_dash : Reads (Str.ofString "-") [] := ⟨.inl (by decide +kernel)⟩
theorem reads_two : Reads (Str.ofString "2 a 7 c") [(Str.ofString "a", 2), (Str.ofString "c", 7)] := ⟨.inr (by decide +kernel)⟩
def nines : Str := Txt.mul (Str.ofString "9") 300
theorem nines_ok : MulOk (Str.ofString "9") 300 := by unfold MulOk; decide +kernel
theorem nines_cds : cds nines = List.replicate 300 57 := by decide +kernel
theorem bad_nines : Bad (nines ++ Str.ofString "9 a") := by decide +kernel
theorem ok_nines : nines ++ Str.ofString " a" ≠ dash ∧ OkW (words (nines ++ Str.ofString " a")) := by decide +kernel
theorem words_nines : words (nines ++ Str.ofString " a") = [nines, Str.ofString "a"] := by decide +kernel
theorem nines_many : ManyS nines := by
  have := ok_nines.2.nu nines (by rw [words_nines]; exact List.mem_cons_self)
  exact this
theorem reads_nines : Reads (nines ++ Str.ofString " a") [(Str.ofString "a", num nines)] := ⟨.inr ⟨ok_nines.1, ok_nines.2, by rw [words_nines]; rfl⟩⟩
theorem ltx_nines : ltx [(Str.ofString "a", num nines)] = nines ++ Str.ofString " a" := by
  refine cds_inj ?_
  have e : cds (ltx [(Str.ofString "a", num nines)]) = cds (lw (Str.ofString "a", num nines)) := by
    unfold ltx
    rw [cds_joinw]
    rfl
  rw [e, lw_cds, cds_app]
  have h := nines_many.text
  replace h : Str.ofString (toString (num nines)) = nines := h
  rw [h]
  have e2 : cds (Str.ofString " a") = [32] ++ cds (Str.ofString "a") := by decide +kernel
  rw [e2]
end My

/-! what the heads of the proofs have in common: how classes, errors and defs read -/
namespace My
open PySem L2
/-- how an error class reads -/
structure EF (K : PySem.W.Frag) (e : Addr) : Prop where
  hg : PySem.W.findIn K (.ref e) "__getattribute__" = some (some (.builtin "BaseException.__getattribute__"))
  hk : PySem.W.findIn K (.ref e) "__getattr__" = some none
  ha : PySem.W.findIn K (.ref e) "__class__" = some (some (.builtin "object.__class__"))
  sa : PySem.W.findIn K (.ref e) "__setattr__" = some (some (.builtin "object.__setattr__"))
  ty : PySem.W.typeIn K (.ref e) = some (.type "type")
  kp : PySem.W.keepIn K (.ref e) = true
  n1 : PySem.W.findIn K (.ref e) "kind" = some none
  n2 : PySem.W.findIn K (.ref e) "many" = some none
  n3 : PySem.W.findIn K (.ref e) "lacking" = some none
  n4 : PySem.W.findIn K (.ref e) "ring" = some none
  n5 : PySem.W.findIn K (.ref e) "number" = some none
/-- the class object -/
structure LK (K : PySem.W.Frag) (e : Addr) (bm : List Value) (new : String) : Prop where
  ex : ∃ nm q N bs sn sub ab col dd k0 k1 k2 k3 k5, K.lookup e = some (excClassObj nm q e N bs bm true sn sub ab col dd k0 k1 k2 k3 k5 new)
theorem lk_mk {K : PySem.W.Frag} {e : Addr} {bm : List Value} {new : String} {nm q : Str} {N : Addr} {bs : List Value} {sn : List Str} {sub : List Value} {ab : Bool} {col : Option Bool} {dd : Option Addr} {k0 k1 k2 k3 k5 : Option Value} (x : K.lookup e = some (excClassObj nm q e N bs bm true sn sub ab col dd k0 k1 k2 k3 k5 new)) : LK K e bm new := ⟨⟨nm, q, N, bs, sn, sub, ab, col, dd, k0, k1, k2, k3, k5, x⟩⟩
theorem LK.cls {K : PySem.W.Frag} {e : Addr} {bm : List Value} {new : String} (h : LK K e bm new) : ∃ cd, PySem.W.clsIn K e = some cd ∧ cd.mro = .ref e :: bm ∧ cd.hasDict = true := by
  obtain ⟨nm, q, N, bs, sn, sub, ab, col, dd, k0, k1, k2, k3, k5, x⟩ := h.ex
  refine ⟨{ name := nm, bases := bs, mro := .ref e :: bm, ns := N, qualname := q, hasDict := true, slotNames := sn, subclasses := sub, abstract := ab, collection := col, hasDel := false }, ?_, rfl, rfl⟩
  unfold PySem.W.clsIn
  rw [x] <;> rfl
theorem LK.mro {K : PySem.W.Frag} {e : Addr} {bm : List Value} {new : String} (h : LK K e bm new) (X : Value) : PySem.W.mroIn K e X = some ((Value.ref e :: bm).contains X) := by
  obtain ⟨cd, h1, h2, h3⟩ := h.cls
  unfold PySem.W.mroIn
  rw [h1, Option.bind_some, h2]
  rfl
theorem LK.sub {K : PySem.W.Frag} {e : Addr} {bm : List Value} {new : String} (h : LK K e bm new) (X : Value) : PySem.W.subIn K (.ref e) X = some ((Value.ref e :: bm).contains X) := h.mro X
theorem LK.dict {K : PySem.W.Frag} {e : Addr} {bm : List Value} {new : String} (h : LK K e bm new) : PySem.W.hasDictIn K e = true := by
  obtain ⟨cd, h1, h2, h3⟩ := h.cls
  unfold PySem.W.hasDictIn
  rw [h1]
  exact h3
theorem ref_type (e : Addr) (T : String) : (Value.type T == Value.ref e) = false := by
  cases q : (Value.type T == Value.ref e) with
  | false => rfl
  | true => exact absurd (eq_of_beq q) (by intro z; cases z)
theorem type_ref (e : Addr) (T : String) : (Value.ref e == Value.type T) = false := by
  cases q : (Value.ref e == Value.type T) with
  | false => rfl
  | true => exact absurd (eq_of_beq q) (by intro z; cases z)
theorem con_type (e : Addr) (bm : List Value) (T : String) : (Value.ref e :: bm).contains (.type T) = bm.contains (.type T) := by
  rw [List.contains_cons, ref_type, Bool.false_or]
theorem con_ref (e d : Addr) (bm : List Value) (h : bm.all (fun v => match v with | .type _ => true | _ => false) = true) : (Value.ref e :: bm).contains (.ref d) = decide (e = d) := by
  have h0 : bm.contains (.ref d) = false := by
    cases q : bm.contains (Value.ref d) with
    | false => rfl
    | true =>
      have := List.all_eq_true.mp h _ (List.contains_iff_mem.mp q)
      cases this
  rw [List.contains_cons, h0, Bool.or_false]
  by_cases z : e = d
  · rw [z, decide_eq_true rfl]
    exact beq_self_eq_true _
  · rw [decide_eq_false z]
    cases q : (Value.ref d == Value.ref e) with
    | false => rfl
    | true => exact absurd (Value.ref.inj (eq_of_beq q)).symm z
theorem exC_mk {K : PySem.W.Frag} {e : Addr} {bm : List Value} {new : String} (F : EF K e) (h : LK K e bm new) (hn : PySem.W.specialIn K (.builtin "object.__class__") "__get__" = some (some (.builtin "getset_descriptor.__get__"))) (ht : PySem.W.takesIn K (.builtin "object.__class__") = some true) (hB : bm.contains (.type "BaseException") = true) (hO : bm.contains (.type "object") = true) : ExcC K e :=
  ⟨F.hg, F.hk, by rw [h.sub, con_type, hB], h.dict, F.ha, hn, ht, by rw [h.mro, con_type, hO]⟩
theorem xfC_mk {K : PySem.W.Frag} {e : Addr} {bm : List Value} {new : String} (F : EF K e) (h : LK K e bm new) (hB : bm.contains (.type "BaseException") = true) : XfC K e := ⟨F.hg, F.hk, by rw [h.sub, con_type, hB], h.dict⟩
theorem kit_type {K : PySem.W.Frag} {e : Addr} {bm : List Value} {new : String} (h : LK K e bm new) {T : String} (hm : PySem.W.kitMeta T = true) : PySem.W.kitOne K (.ref e) (.type T) = some (bm.contains (.type T)) := by
  unfold PySem.W.kitOne
  rw [type_ref]
  show (if PySem.W.kitMeta T = true then PySem.W.subIn K (.ref e) (.type T) else none) = _
  rw [if_pos hm, h.sub, con_type]
theorem kit_ref {K : PySem.W.Frag} {e d : Addr} {bm bm2 : List Value} {new new2 : String} (h : LK K e bm new) (h2 : LK K d bm2 new2) (F2 : EF K d) (hb : bm.all (fun v => match v with | .type _ => true | _ => false) = true) : PySem.W.kitOne K (.ref e) (.ref d) = some (decide (e = d)) := by
  unfold PySem.W.kitOne
  by_cases z : e = d
  · rw [z, decide_eq_true rfl, if_pos (beq_self_eq_true _)]
  · have q : (Value.ref e == Value.ref d) = false := by
      cases q : (Value.ref e == Value.ref d) with
      | false => rfl
      | true => exact absurd (Value.ref.inj (eq_of_beq q)) z
    rw [q]
    obtain ⟨cd, hc, _⟩ := h2.cls
    show (if ((PySem.W.clsIn K d).isSome && PySem.W.typeIn K (.ref d) == some (.type "type")) = true then PySem.W.subIn K (.ref e) (.ref d) else none) = _
    have e2 : ((PySem.W.clsIn K d).isSome && PySem.W.typeIn K (.ref d) == some (.type "type")) = true := by rw [hc, F2.ty]; exact beq_self_eq_true _
    rw [if_pos e2, h.sub, con_ref e d bm hb]
theorem oex_mk {K : PySem.W.Frag} {e : Addr} (F : EF K e) (h : LK K e [.type "ValueError", .type "Exception", .type "BaseException", .type "object"] "ValueError.__new__") : OexC K e := by
  obtain ⟨nm, q, N, bs, sn, sub, ab, col, dd, k0, k1, k2, k3, k5, x⟩ := h.ex
  exact ⟨⟨nm, q, N, bs, [.type "ValueError", .type "Exception", .type "BaseException", .type "object"], sn, sub, ab, col, dd, k0, k1, k2, k3, k5, x, by decide +kernel⟩, F.sa, by rw [h.sub, con_type]; decide +kernel, F.ty, F.kp⟩
theorem vals_rev : ∀ {vs : List V} {us : List Value}, Vals vs us → Vals vs.reverse us.reverse
  | _, _, .nil => .nil
  | _, _, .cons h r => by
    rw [List.reverse_cons, List.reverse_cons]
    exact (vals_rev r).append (.cons h .nil)
theorem kbn_mk {K : PySem.W.Frag} {x qual : Str} {st : Stmt} {f : Addr} {fd : FuncData} {ps ks : List Str} {n : Nat} {g : List Value → List Value → List Value} {gV : List V → List V → List V} (F : Fun K x qual st f fd)
    (rel : ∀ {vs : List V} {us : List Value} {zs : List V} {ws : List Value}, Vals vs us → Vals zs ws → Vals (gV vs zs) (g us ws))
    (h : ∀ (kV doc pm : Value) (an : Option Addr) (cdv ct : Value) (us ws : List Value), us.length = n → ws.length = ks.length → bindArgs (PySem.W.fnOf x qual (defArgs st) (defBody st) (defScope st) .none kV doc pm an cdv ct) ⟨us, ks.zip ws⟩ = pure (ps.zip (g us ws))) : KBn K fd ps n ks g gV := by
  obtain ⟨oc, od, kV, doc, pm, an, cdv, ct, osl, rfl, lk, hcd⟩ := F.ex
  exact ⟨fun s us ws X l1 l2 => .of_eq (h kV doc pm an cdv ct us ws l1 l2), rel⟩
abbrev bmV : List Value := [.type "ValueError", .type "Exception", .type "BaseException", .type "object"]
theorem oex_mkB {K : PySem.W.Frag} {e : Addr} (F : EF K e) (h : LK K e bmV "ValueError.__new__") : OexC K e := oex_mk F h
theorem funF {K : PySem.W.Frag} {x qual : Str} {st : Stmt} {f : Addr} {oc : Value} {od an : Option Addr} {osl : Array (Option Value)} {kV doc pm cdv ct : Value} (l : K.lookup f = some ⟨oc, od, .func (PySem.W.fnOf x qual (defArgs st) (defBody st) (defScope st) .none kV doc pm an cdv ct), osl⟩)
    (c : PySem.W.codeIn K cdv qual = true) (k : PySem.W.keepIn K (.ref f) = true) : ∃ fd, Fun K x qual st f fd := ⟨_, fun_mk l c k⟩
theorem funDF {K : PySem.W.Frag} {x qual : Str} {st : Stmt} {f tD t0 : Addr} {oc ocT : Value} {od an odT : Option Addr} {osl slT : Array (Option Value)} {kV doc pm cdv ct : Value} {nT : Nat} (l : K.lookup f = some ⟨oc, od, .func (PySem.W.fnOf x qual (defArgs st) (defBody st) (defScope st) (.ref tD) kV doc pm an cdv ct), osl⟩)
    (c : PySem.W.codeIn K cdv qual = true) (lT : K.lookup tD = some ⟨ocT, odT, .seq #[.ref t0] nT, slT⟩) (k : PySem.W.keepIn K (.ref f) = true) : ∃ fd, FunD K x qual (defArgs st) (defBody st) (defScope st) [.ref t0] [] f fd :=
  ⟨_, ⟨⟨_, _, _, _, _, _, _, _, _, _, rfl, l, c, Or.inr ⟨by simp, tD, _, [.ref t0], nT, rfl, lT, rfl, .cons rfl .nil⟩, Or.inl rfl⟩, k⟩⟩
theorem sq0 {K : PySem.W.Frag} {t0 : Addr} {od : Option Addr} {n : Nat} {sl : Array (Option Value)} (l : K.lookup t0 = some ⟨.type "tuple", od, .seq #[] n, sl⟩) : ∀ H, SqT K H t0 [] := fun H => .inr ⟨_, #[], n, l, rfl, rfl, Nat.zero_le _, .nil⟩
theorem kb_mk {K : PySem.W.Frag} {x qual : Str} {st : Stmt} {f : Addr} {fd : FuncData} {a b : Str} (F : Fun K x qual st f fd)
    (h : ∀ (kV doc pm : Value) (an : Option Addr) (cdv ct : Value) (u v : Value), bindArgs (PySem.W.fnOf x qual (defArgs st) (defBody st) (defScope st) .none kV doc pm an cdv ct) ⟨[u], [b].zip [v]⟩ = pure ([a, b].zip [u, v])) : KBinds K fd [a, b] [b] g1 g1 := by
  obtain ⟨oc, od, kV, doc, pm, an, cdv, ct, osl, rfl, lk, hcd⟩ := F.ex
  refine ⟨fun s us ws X l => ?_, g1_rel⟩
  match us, ws, l with
  | [u], [v], _ => exact .of_eq (h kV doc pm an cdv ct u v)
  | [], _, l => cases l
  | [_], [], l => cases l
  | [_], _ :: _ :: _, l => cases l
  | _ :: _ :: _, _, l => cases l
/-- how a class of the program reads -/
structure CC (K : PySem.W.Frag) (C : Addr) : Prop where
  pg : PySem.W.plainGet K C Str.empty = true
  hd : PySem.W.hasDictIn K C = true
  po : PySem.W.plainOver K C = true
  sa : PySem.W.findIn K (.ref C) "__setattr__" = some (some (.builtin "object.__setattr__"))
  mC : PySem.W.makesIn K C = true
  kc : PySem.W.keepIn K (.ref C) = true
  sf : PySem.W.selfFirst K C = true
  ns : PySem.W.noSeq K C = true
  si : PySem.W.subIn K (.type "int") (.ref C) = some false
  st : PySem.W.subIn K (.type "tuple") (.ref C) = some false
  ss : PySem.W.subIn K (.type "str") (.ref C) = some false
  sl : PySem.W.subIn K (.type "list") (.ref C) = some false
  ty : PySem.W.typeIn K (.ref C) = some (.type "type")
  ha : PySem.W.findIn K (.ref C) "__class__" = some (some (.builtin "object.__class__"))
  hm : PySem.W.mroIn K C (.type "object") = some true
  ic : PySem.W.isClsIn K C = true
theorem CC.cls {K : PySem.W.Frag} {C : Addr} (c : CC K C) : Cls K C := ⟨c.pg, c.hd, c.po, c.sa⟩
theorem CC.oc {K : PySem.W.Frag} {C : Addr} (c : CC K C) : OCls K C := ⟨c.cls, c.sf, c.ns, c.si⟩
theorem kit_cls {K : PySem.W.Frag} {C : Addr} {t : Value} (ic : PySem.W.isClsIn K C = true) (ty : PySem.W.typeIn K (.ref C) = some (.type "type")) (ne : (t == Value.ref C) = false) (st : PySem.W.subIn K t (.ref C) = some false) : PySem.W.kitOne K t (.ref C) = some false := by
  unfold PySem.W.kitOne
  rw [ne]
  show (if ((PySem.W.clsIn K C).isSome && PySem.W.typeIn K (.ref C) == some (.type "type")) = true then PySem.W.subIn K t (.ref C) else none) = _
  have e2 : ((PySem.W.clsIn K C).isSome && PySem.W.typeIn K (.ref C) == some (.type "type")) = true := by
    unfold PySem.W.isClsIn at ic
    rw [ic, ty]
    exact beq_self_eq_true _
  rw [if_pos e2, st]
theorem nf_cls {K : PySem.W.Frag} {C : Addr} {t : Value} (st : PySem.W.subIn K t (.ref C) = some false) : PySem.W.notFirst K C t = true := by
  unfold PySem.W.notFirst
  rw [st]
  simp
theorem bindsD {K : PySem.W.Frag} {x qual : Str} {params : Arguments} {body : List Stmt} {scope : PySem.Scope} {t0 : Addr} {f : Addr} {fd : FuncData} {p q : Str} (F : FunD K x qual params body scope [.ref t0] [] f fd)
    (h : ∀ (T : Addr) (kV doc pm : Value) (an : Option Addr) (cdv ct : Value) (u v : Value), ∃ k, bindArgs (PySem.W.fnOf x qual params body scope (.ref T) kV doc pm an cdv ct) ⟨[u], []⟩ = seqItems? (.ref T) >>= k ∧ k (some #[v]) = pure ([p, q].zip [u, v])) : ∃ ds, Vals [.ref t0] ds ∧ Binds K fd [p, q] ds :=
  F.binds1 1 0 (by simp) rfl fun T kV doc pm an cdv ct us its l1 l2 => match us, its, l1, l2 with | [u], [v], _, _ => h T kV doc pm an cdv ct u v
end My

namespace My
open PySem L2
local macro_rules | `(tactic| walk_at "bx1") => `(tactic| first | with_reducible assumption | ((with_reducible refine' Bx.upd ?h1 ?h2); (case h1 => walk_at "bx1"); (case h2 => walk_at "ne")) | ((with_reducible refine' Bx.same ?h1 (by with_reducible assumption)); (case h1 => walk_at "bx1")))
local macro_rules | `(tactic| walk_at "bx") => `(tactic| (refine' Bx.mono ?h1 ?h2; (case h1 => walk_at "bx1"); (case h2 => omega)))
local macro_rules | `(tactic| walk_at "ne") => `(tactic| first | with_reducible assumption | exact Ne.symm (by with_reducible assumption) | ((with_reducible refine' ne_of_none ?h1 (by with_reducible assumption)); (case h1 => walk_at "hp")) | ((with_reducible refine' Ne.symm (ne_of_none ?h1 (by with_reducible assumption))); (case h1 => walk_at "hp")) | ((with_reducible refine' Bx.ne ?h1 (by with_reducible assumption)); (case h1 => walk_at "bx1")) | ((with_reducible refine' Ne.symm (Bx.ne ?h1 (by with_reducible assumption))); (case h1 => walk_at "bx1")))
local macro_rules | `(tactic| walk_at "hp") => `(tactic| first | with_reducible assumption | ((with_reducible refine' (upd_same.trans ?h1)); (case h1 => rfl)) | ((with_reducible refine' My.upd_at ?h1 ?h2); (case h1 => walk_at "hp"); (case h2 => walk_at "ne")) | ((with_reducible refine' My.Kp.at (by with_reducible assumption) ?h1 ?h2); (case h1 => walk_at "hp"); (case h2 => walk_at "ne")) | ((with_reducible refine' My.Same.at (by with_reducible assumption) ?h1); (case h1 => walk_at "hp")))
local macro_rules | `(tactic| walk_at "sq") => `(tactic| first | with_reducible assumption | exact SqL.of (by walk_at "hp") | exact SqT.of (by walk_at "hp") | ((with_reducible refine' My.SqT.upd ?h1 (by with_reducible assumption)); (case h1 => walk_at "sq")) | ((with_reducible refine' My.SqL.upd ?h1 (by with_reducible assumption)); (case h1 => walk_at "sq")) | ((with_reducible refine' Same.seq (by with_reducible assumption) ?h1); (case h1 => walk_at "sq")) | ((with_reducible refine' My.SqT.same ?h1 (by with_reducible assumption)); (case h1 => walk_at "sq")) | ((with_reducible refine' My.SqT.kp ?h1 (by with_reducible assumption) ?h2); (case h1 => walk_at "sq"); (case h2 => walk_at "bx1")) | ((with_reducible refine' My.SqL.kp ?h1 (by with_reducible assumption) ?h2); (case h1 => walk_at "sq"); (case h2 => walk_at "ne")))
local macro_rules | `(tactic| walk_at "sd") => `(tactic| first | assumption | omega | decide | (refine ⟨?_, ?_⟩ <;> (first | omega | decide)) | (refine Or.inl ⟨?_, ?_⟩ <;> (first | omega | decide)) | (refine Or.inr ⟨?_, ?_⟩ <;> (first | omega | decide)) | (refine ⟨?_, ?_, ?_⟩ <;> (first | omega | decide)))
local macro_rules | `(tactic| walk_at "ps") => `(tactic| first
  | with_reducible refine r_seq ?_ | with_reducible refine r_asg ?_ | with_reducible refine r_op ?_ | with_reducible refine r_cons ?_ | with_reducible refine r_nil ?_ | with_reducible refine r_c ?_
  | with_reducible refine' r_var rfl ?_ | with_reducible refine r_gname ?_ | with_reducible refine r_cb ?_ | with_reducible refine r_I0 ?_ | with_reducible refine r_ret ?_ | with_reducible refine r_ifS ?_ | with_reducible refine r_test ?_ | with_reducible refine r_B ?_
  | with_reducible refine r_next ?_ | with_reducible refine r_drop ?_ | with_reducible refine r_if ?_ | with_reducible refine r_un ?_ | with_reducible refine r_U ?_ | with_reducible refine r_gsub ?_ | with_reducible refine r_tup ?_ | with_reducible refine r_lst ?_ | with_reducible refine r_bm ?_
  | with_reducible refine r_cal ?_ | with_reducible refine r_not ?_ | with_reducible refine r_and ?_ | with_reducible refine r_or ?_ | with_reducible refine r_andV ?_ | with_reducible refine r_orV ?_ | with_reducible refine r_notV ?_
  | with_reducible refine r_abs ?_ | with_reducible refine r_intI ?_ | with_reducible refine r_intB ?_ | with_reducible refine r_m1 ?_ | with_reducible refine r_slice ?_ | with_reducible refine r_part ?_ | with_reducible refine r_nopart ?_
  | with_reducible refine r_gcons ?_ | with_reducible refine r_gnil ?_
  | with_reducible refine r_par ?_ | with_reducible refine r_par3 ?_ | with_reducible refine r_ex2 ?_ | with_reducible refine r_ex3 ?_
  | with_reducible refine r_isN ?_ | with_reducible refine r_notN ?_
  | with_reducible refine r_iZipA ?_
  | with_reducible refine r_dget ?_ | with_reducible refine r_dget2 ?_ | with_reducible refine r_iKeys ?_ | with_reducible refine r_dput ?_
  | with_reducible refine r_for ?_ | with_reducible refine r_lc ?_ | with_reducible refine r_iList ?_ | with_reducible refine r_iTup ?_ | with_reducible refine r_iRng1 ?_ | with_reducible refine r_iEnum ?_ | with_reducible refine r_orT ?_ | with_reducible refine r_yes ?_ | with_reducible refine r_ixSl ?_)
local macro_rules | `(tactic| walk_at "st") => `(tactic| first
  | walk_at "ps"
  | ((with_reducible refine' r_ixL ?h1 ?h2 ?_); (case h1 => walk_at "sq"); (case h2 => rfl))
  | ((with_reducible refine' r_setL ?h1 ?h2 ?_); (case h1 => walk_at "hp"); (case h2 => rfl))
  | ((with_reducible refine' r_I ?h1 ?_); (case h1 => walk_at "sd"))
  | ((with_reducible refine' r_eq ?h1 ?_); (case h1 => rfl)) | ((with_reducible refine' r_ne ?h1 ?_); (case h1 => rfl))
  | ((with_reducible refine' r_lenL ?h1 ?_); (case h1 => walk_at "sq")) | ((with_reducible refine' r_lenT ?h1 ?_); (case h1 => walk_at "sq")) | ((with_reducible refine' r_lenD ?h1 ?_); (case h1 => walk_at "hp"))
  | ((with_reducible refine' r_slL ?h1 ?_); (case h1 => walk_at "sq"); intro _ _)
  | ((with_reducible refine' r_append ?h1 ?h2 ?_); (case h1 => walk_at "hp"); (case h2 => exact szl (by first | omega | (simp; omega))))
  | ((with_reducible refine' r_gtup ?h1 ?h2 ?_); (case h1 => walk_at "sq"); (case h2 => rfl))
  | ((with_reducible refine' r_cat ?h1 ?h2 ?h3 ?_); (case h1 => walk_at "hp"); (case h2 => walk_at "hp"); (case h3 => exact sz (by first | omega | (simp; omega))); intro _ _)
  | ((with_reducible refine' r_wLst ?h1 ?_); (case h1 => walk_at "sq")) | ((with_reducible refine' r_wTup ?h1 ?_); (case h1 => walk_at "sq"))
  | ((with_reducible refine' r_wRng ?h1 ?_); (case h1 => walk_at "sd"))
  | ((with_reducible refine' r_truL ?h1 ?_); (case h1 => walk_at "sq"))
  | ((with_reducible refine' r_list (Or.inl ?h1) ?_); (case h1 => walk_at "sq"); intro _ _) | ((with_reducible refine' r_list (Or.inr ?h1) ?_); (case h1 => walk_at "sq"); intro _ _)
  | ((with_reducible refine' r_tupL ?h1 ?_); (case h1 => walk_at "sq"); intro _ _) | ((with_reducible refine' r_tupT ?h1 ?_); (case h1 => walk_at "sq"))
  | ((with_reducible refine' r_disp ?h1 ?_); (case h1 => exact Nat.le_of_ble_eq_true rfl); intro _ _)
  | ((with_reducible refine r_dnewK ?_); intro _ _)
  | ((with_reducible refine' r_tyL ?h1 ?_); (case h1 => walk_at "sq")) | with_reducible refine r_strV ?_
  | with_reducible refine r_exb ?_ | with_reducible refine r_exi ?_ | with_reducible refine r_exr ?_ | with_reducible refine r_exs ?_ | with_reducible refine r_exli ?_)
local macro_rules | `(tactic| walk_at "go") => `(tactic| repeat walk_at "st")
local macro_rules | `(tactic| walk_at "in") => `(tactic| dsimp only [noxK, cxK, L2.start, List.map_cons, List.map_nil, List.length_cons, List.length_nil, Nat.reduceAdd, Nat.reduceSub, List.replicate, List.cons_append, List.nil_append])

def top (i : Nat) : Stmt := PySem.Challenge.pw_onceopened_k02_lots_as_texts.main.body.getD i (.Pass ⟨0, 0, 0, 0⟩)
structure Txt (K : PySem.W.Frag) (mg : Str → Option Value) : Prop where
  int : mg "int" = none
  len : mg "len" = none
  abs : mg "abs" = none
  list : mg "list" = none
  tuple : mg "tuple" = none
  range : mg "range" = none
  enumerate : mg "enumerate" = none
  isinstance : mg "isinstance" = none
  all : mg "all" = none
  zip : mg "zip" = none
  dict : mg "dict" = none
  bool : mg "bool" = none
  str : mg "str" = none
  set : mg "set" = none
  sorted : mg "sorted" = none
  min : mg "min" = none
  sum : mg "sum" = none
section
variable {P : Program} {w : World} {K : PySem.W.Frag} {mg : Str → Option Value} {base : Heap}
abbrev sTake : Stmt := top 17
theorem scTake : FnScope ["_law_box_here", "_law_below", "_law_once", "_law_far", "_law_twice", "_law_drawn"] ["_law_box_here", "_law_below"] (defScope sTake) := ⟨rfl, rfl, rfl, by decide +kernel, rfl, by decide +kernel, by decide +kernel⟩
def spTake : Sp := fun vs H Q _ => ∃ (a : Addr) (b : Nat) (n : Int), vs = [.ref a, .int n] ∧ Bx H a (b + 1) ∧ 0 < n ∧ n < 2 ^ 100 ∧
  ∀ (d : Int) H', 0 ≤ d → d < n → Bx H' a b → Kp a H H' → Q (.int d) H'
theorem ok_take {f : Addr} {fd : FuncData} (F : Fun K "_law_take" "_law_take" sTake f fd) (T : Txt K mg) : FnOk P w K mg base CX0 1 f fd ["_law_box_here", "_law_below"] spTake := by
  refine F.ok scTake (fun vs H Q E h => ?_) (fun cdv A outer s H vs Q E hr h => ?_)
  · obtain ⟨a, b, n, rfl, _⟩ := h
    rfl
  · obtain ⟨a, b, n, rfl, ⟨x, y, z, hx, x0, y0, y1, z0, z1⟩, n0, n1, k⟩ := h
    refine ⟨_, (pss_cons (ps_if (pt_cmpR op_gt (pe_ix ix_list (pv 0) pe_int (fun _ _ => rfl)) pe_int (nomark _))
  (pss_cons (ps_set (i := 5) scTake.nd rfl (Or.inl rfl) (pe_op op_mod (pe_callTy c_int (by rfl) T.int (by decide +kernel) (pa_cons (pe_ix ix_list (pv 0) pe_int (fun _ _ => rfl)) pa_nil)) (pv 1)))
  (pss_cons (ps_asg (pe_op op_fdivW (pe_ix ix_list (pv 0) pe_int (fun _ _ => rfl)) (pv 1)) (pg_sub (pv 0) pe_int set_list))
  (pss_one (ps_ret (pv 5)))))
  pss_nil)
  (pss_cons (ps_asg (pe_op op_add (pe_ix ix_list (pv 0) pe_int (fun _ _ => rfl)) pe_int) (pg_sub (pv 0) pe_int set_list))
  (pss_cons (ps_set (i := 2) scTake.nd rfl (Or.inl rfl) (pe_op op_mod (pe_callTy c_int (by rfl) T.int (by decide +kernel) (pa_cons (pe_op op_mul (pe_op op_add (pe_ix ix_list (pv 0) pe_int (fun _ _ => rfl)) (pe_op op_mul pe_int (pe_ix ix_list (pv 0) pe_int (fun _ _ => rfl)))) (pe_op op_add pe_int (pe_ix ix_list (pv 0) pe_int (fun _ _ => rfl)))) pa_nil)) pe_int))
  (pss_cons (ps_set (i := 3) scTake.nd rfl (Or.inl rfl) (pe_op op_add (pe_op op_mod (pe_callTy c_int (by rfl) T.int (by decide +kernel) (pa_cons (pv 2) pa_nil)) pe_int) pe_int))
  (pss_cons (ps_set (i := 4) scTake.nd rfl (Or.inl rfl) (pe_op op_mod (pe_callTy c_int (by rfl) T.int (by decide +kernel) (pa_cons (pe_op op_mul (pe_op op_add (pe_op op_add (pv 2) (pe_ix ix_list (pv 0) pe_int (fun _ _ => rfl))) (pe_op op_fdiv (pe_ix ix_list (pv 0) pe_int (fun _ _ => rfl)) pe_int)) (pv 3)) pa_nil)) pe_int))
  (pss_one (ps_ret (pe_op op_mod (pe_callTy c_int (by rfl) T.int (by decide +kernel) (pa_cons (pe_op op_fdiv (pe_op op_mod (pe_callTy c_int (by rfl) T.int (by decide +kernel) (pa_cons (pe_op op_add (pe_op op_mul (pv 4) pe_int) (pv 2)) pa_nil)) pe_int) pe_int) pa_nil)) (pv 1))))))))), ?_⟩
    walk_at "in"
    walk_at "go"
    refine ite_d (fun c => ?_) (fun c => ?_)
    · walk_at "go"
      refine r_I (wide_div n0 (b := 100) (by omega) (by decide) (by decide)) ?_
      walk_at "go"
      exact k _ _ (Int.emod_nonneg _ (by omega)) (Int.emod_lt_of_pos _ n0) ⟨_, y, z, upd_same, Int.ediv_nonneg x0 (by omega), y0, y1, z0, by omega⟩ fun c o e h => by walk_at "hp"
    walk_at "go"
    exact k _ _ (Int.emod_nonneg _ (by omega)) (Int.emod_lt_of_pos _ n0) ⟨x, y, z + 1, upd_same, x0, y0, y1, by omega, by omega⟩ fun c o e h => by walk_at "hp"
abbrev sBox : Stmt := top 16
theorem scBox : FnScope ["_law_script", "_law_k", "_law_cell"] ["_law_script", "_law_k"] (defScope sBox) := ⟨rfl, rfl, rfl, by decide +kernel, rfl, by decide +kernel, by decide +kernel⟩
def spBox (K : PySem.W.Frag) : Sp := fun vs H Q _ => ∃ (a : Addr) (ns : List Int) (k : Nat), vs = [.ref a, .int k] ∧ SqL K H a (ns.map V.int) ∧ k < ns.length ∧ ns.length ≤ 63 ∧
  ∀ p H', H p = none → Bx H' p 900000000 → Same H H' → Q (.ref p) H'
theorem ok_box {f : Addr} {fd : FuncData} (F : Fun K "_law_box" "_law_box" sBox f fd) (T : Txt K mg) : FnOk P w K mg base CX0 1 f fd ["_law_script", "_law_k"] (spBox K) := by
  refine F.ok scBox (fun vs H Q E h => ?_) (fun cdv A outer s H vs Q E hr h => ?_)
  · obtain ⟨a, ns, k, rfl, _⟩ := h
    rfl
  · obtain ⟨a, ns, k, rfl, hx, h1, h2, q⟩ := h
    refine ⟨_, (pss_cons (ps_set (i := 2) scBox.nd rfl (Or.inl rfl) (pe_ifExp (pt_cmpR op_lt (pv 1) (pe_callB c_lenL (by rfl) T.len (by decide +kernel) (pa_cons (pv 0) pa_nil)) (nomark _)) (pe_ix ix_list (pv 0) (pv 1) (fun _ _ => rfl)) pe_int))
  (pss_one (ps_ret (pe_lst (pa_cons (pe_op op_mul (pe_callB c_abs (by rfl) T.abs (by decide +kernel) (pa_cons (pv 2) pa_nil)) (pe_callTy c_int (by rfl) T.int (by decide +kernel) (pa_cons (pe_cmpR op_ge (pe_callB c_abs (by rfl) T.abs (by decide +kernel) (pa_cons (pv 2) pa_nil)) (pe_op op_pow pe_int pe_int) (nomark _)) pa_nil))) (pa_cons (pe_op op_add (pe_op op_add (pe_op op_mod (pe_callTy c_int (by rfl) T.int (by decide +kernel) (pa_cons (pv 2) pa_nil)) pe_int) (pe_op op_mul pe_int (pv 1))) pe_int) (pa_cons pe_int pa_nil))))))), ?_⟩
    walk_at "in"
    walk_at "go"
    refine ite_dT (by rw [List.length_map]; omega) ?_
    walk_at "go"
    refine r_ixL (by walk_at "sq") (atI_nat (map_get h1)) ?_
    generalize ns[k] = c
    walk_at "go"
    rename_i p hp
    refine q p _ hp ⟨_, _, 0, upd_same, ?_, ?_, ?_, by decide, by decide⟩ fun c o e => by walk_at "hp"
    · refine Int.mul_nonneg ?_ ?_
      · split <;> omega
      · exact ite01 _
    · have := Int.emod_nonneg c (show (2305843009213693951 : Int) ≠ 0 by decide)
      omega
    · have := Int.emod_lt_of_pos c (show (0 : Int) < 2305843009213693951 by decide)
      omega
abbrev sCells : Stmt := top 18
theorem scCells : FnScope ["_law_script", "_law_most_so", "_law_cells_here", "_law_k", "_law_cell", "_law_at_so"] ["_law_script", "_law_most_so"] (defScope sCells) := ⟨rfl, rfl, rfl, by decide +kernel, rfl, by decide +kernel, by decide +kernel⟩
def spCells (K : PySem.W.Frag) : Sp := fun vs H Q _ => ∃ (a : Addr) (ns : List Int), vs = [.ref a, .int 3] ∧ SqL K H a (ns.map V.int) ∧ ns.length ≤ 63 ∧
  ∀ (p : Addr) (ms : List Int) (H' : Hp), H p = none → 1 ≤ ms.length → ms.length ≤ 3 → H' p = some (.lst (ms.map V.int)) → Same H H' → Q (.ref p) H'
theorem ok_cells {f : Addr} {fd : FuncData} (F : Fun K "_law_cells" "_law_cells" sCells f fd) (T : Txt K mg) : FnOk P w K mg base CX0 1 f fd ["_law_script", "_law_most_so"] (spCells K) := by
  refine F.ok scCells (fun vs H Q E h => ?_) (fun cdv A outer s H vs Q E hr h => ?_)
  · obtain ⟨a, ns, rfl, _⟩ := h
    rfl
  · obtain ⟨a, ns, rfl, hx, h1, q⟩ := h
    refine ⟨_, (Evl.pss_cut (ps_set (i := 2) scCells.nd rfl (Or.inl rfl) (pe_orT (pe_callTy c_list (by rfl) T.list (by decide +kernel) (pa_cons (pe_slice sl_list (pv 0) po_none (po_some (pv 1))) pa_nil)) (pe_one (pe_lst (pa_cons pe_int pa_nil)))))
  (pss_cons (ps_for PassesOwn.never rfl (pi_enum (by rfl) T.enumerate (pa_cons (pe_slice sl_list (pv 0) (po_some (pv 1)) (po_some pe_int)) pa_nil)) (pg_tup rfl (pgs_cons (pg_name (i := 3) scCells.nd rfl (Or.inl rfl)) (pgs_cons (pg_name (i := 4) scCells.nd rfl (Or.inl rfl)) pgs_nil)))
  (pss_cons (ps_set (i := 5) scCells.nd rfl (Or.inl rfl) (pe_op op_mod (pe_callTy c_int (by rfl) T.int (by decide +kernel) (pa_cons (pv 3) pa_nil)) (pv 1)))
  (pss_one (ps_asg (pe_op op_add (pe_ix ix_list (pv 2) (pv 5) (fun _ _ => rfl)) (pe_op op_mul (pv 4) (pe_op op_add (pv 3) pe_int))) (pg_sub (pv 2) (pv 5) set_list)))))
  (pss_one (ps_ret (pv 2))))), ?_⟩
    walk_at "in"
    refine ⟨fun σ' H' => ∃ (l : Addr) (ms : List Int), σ' = [some (.ref a), some (.int 3), some (.ref l), none, none, none] ∧ H l = none ∧ 1 ≤ ms.length ∧ ms.length ≤ 3 ∧ (3 < ns.length → ms.length = 3) ∧ H' l = some (.lst (ms.map V.int)) ∧ Same H H', ?_, ?_⟩
    · walk_at "go"
      rename_i p hp l hl
      have e3 : cutV (ns.map V.int) none (some 3) = (ns.take 3).map V.int := by rw [List.map_take]; exact cutV_to _ 3
      rw [e3] at hl ⊢
      have s1 : Same H (upd (upd H p (.lst ((ns.take 3).map V.int))) l (.lst ((ns.take 3).map V.int))) := fun c o e => by walk_at "hp"
      cases e : ns with
      | nil =>
        rw [e] at s1
        refine iteF ?_
        walk_at "go"
        rename_i q2 hq2
        exact ⟨q2, [0], rfl, s1.free hq2, by decide, by decide, fun z => absurd z (by decide), upd_same, fun c o e => by walk_at "hp"⟩
      | cons n r =>
        rw [e] at s1 hl
        refine iteT ?_
        walk_at "go"
        have hl0 : H l = none := Same.free (fun c o e => by walk_at "hp") hl
        exact ⟨l, (n :: r).take 3, rfl, hl0, by rw [List.length_take, List.length_cons]; omega, by rw [List.length_take]; omega, fun z => by rw [List.length_take]; omega, upd_same, s1⟩
    rintro σ1 H1 ⟨l, ms, rfl, hl, m1, m2, m3, hms, s1⟩
    walk_at "go"
    refine ⟨_, _, rfl, by walk_at "sq", ?_⟩
    rename_i p hp
    have e3 : cutV (ns.map V.int) (some 3) (some 63) = ((ns.drop 3).take 60).map V.int := by rw [List.map_take, List.map_drop]; exact cutV_mid _ 3 63
    rw [e3]
    have npl : l ≠ p := ne_of_none hms hp
    refine for_it (walk_enum (xs := ((ns.drop 3).take 60).map V.int)) (fun i σ H' => ∃ (ms : List Int) (x1 x2 x3 : Option V), σ = [some (.ref a), some (.int 3), some (.ref l), x1, x2, x3] ∧ 1 ≤ ms.length ∧ ms.length ≤ 3 ∧ (3 < ns.length → ms.length = 3) ∧ H' l = some (.lst (ms.map V.int)) ∧ Same H H' ∧ H' p = some (.lst (((ns.drop 3).take 60).map V.int))) ?_ ?_ ?_ ?_
    · exact ⟨ms, none, none, none, rfl, m1, m2, m3, by walk_at "hp", fun c o e => by walk_at "hp", by walk_at "hp"⟩
    · rintro i σ H2 _ ⟨_, _, _, _, _, _, _, _, _, _, h⟩
      exact SqL.of h
    · rintro i x σ H2 H3 hi ⟨ms, x1, x2, x3, rfl, m1, m2, m3, hm, s2, hp2⟩ ⟨t, u, v, rfl, ht, rfl, hu, hv⟩
      obtain rfl : V.int (i : Nat) = u := Option.some.inj hu
      rw [List.length_map, List.length_take, List.length_drop] at hi
      have hm3 : ms.length = 3 := m3 (by omega)
      obtain ⟨c, rfl, _⟩ := map_some hv
      walk_at "go"
      obtain ⟨j, hj, hj3⟩ : ∃ j : Nat, ((i : Nat) : Int) % 3 = (j : Int) ∧ j < ms.length := ⟨i % 3, by omega, by omega⟩
      rw [hj]
      refine r_ixL (by walk_at "sq") (atI_nat (j := j) (map_get hj3)) ?_
      walk_at "go"
      refine r_setL (xs := ms.map V.int) (by walk_at "hp") (ixN_lt (by rw [List.length_map]; exact hj3)) ?_
      have npt : p ≠ t := ne_of_none hp2 ht
      have nlt : l ≠ t := ne_of_none hm ht
      refine ⟨ms.set j (ms[j] + c * ((i : Int) + 2)), _, _, _, rfl, by rw [List.length_set]; exact m1, by rw [List.length_set]; exact m2, fun _ => by rw [List.length_set]; exact hm3, by rw [List.map_set]; exact upd_same, fun c o e => ?_, by walk_at "hp"⟩
      have n1 : c ≠ l := ne_of_none e hl
      walk_at "hp"
    · rintro σ H2 ⟨ms, x1, x2, x3, rfl, m1, m2, m3, hm, s2, hp2⟩
      walk_at "go"
      exact q l ms H2 hl m1 m2 hm s2
abbrev sOf : Stmt := top 19
theorem scOf : FnScope ["_law_box_here", "_law_some"] ["_law_box_here", "_law_some"] (defScope sOf) := ⟨rfl, rfl, rfl, by decide +kernel, rfl, by decide +kernel, by decide +kernel⟩
def spOf : Sp := fun vs H Q _ => ∃ (a l : Addr) (b : Nat) (xs : List V), vs = [.ref a, .ref l] ∧ Bx H a (b + 1) ∧ H l = some (.lst xs) ∧ l ≠ a ∧ 0 < xs.length ∧ xs.length ≤ 1000 ∧
  ∀ (x : V) (i : Nat) (H' : Hp), xs[i]? = some x → Bx H' a b → Kp a H H' → Q x H'
theorem ok_of {f : Addr} {fd : FuncData} (F : Fun K "_law_of" "_law_of" sOf f fd) (T : Txt K mg) (Ct : Cal P w K mg base CX0 1 "_law_take" ["_law_box_here", "_law_below"] spTake) : FnOk P w K mg base CX0 2 f fd ["_law_box_here", "_law_some"] spOf := by
  refine F.ok scOf (fun vs H Q E h => ?_) (fun cdv A outer s H vs Q E hr h => ?_)
  · obtain ⟨a, l, b, xs, rfl, _⟩ := h
    rfl
  · obtain ⟨a, l, b, xs, rfl, hb, hl, nla, h0, h1, q⟩ := h
    refine ⟨_, (pss_one (ps_ret (pe_ix ix_list (pv 1) (pe_cal Ct hr pass0 (pa_cons (pv 0) (pa_cons (pe_callB c_lenL (by rfl) T.len (by decide +kernel) (pa_cons (pv 1) pa_nil)) pa_nil))) (fun _ _ => rfl)))), ?_⟩
    walk_at "in"
    walk_at "go"
    refine ⟨a, b, xs.length, rfl, by walk_at "bx", by omega, by omega, fun d H1 d0 d1 bx1 kp1 => ?_⟩
    obtain ⟨j, rfl⟩ : ∃ j : Nat, d = j := ⟨d.toNat, by omega⟩
    have hj : j < xs.length := by omega
    refine r_ixL (by walk_at "sq") (atI_nat (List.getElem?_eq_getElem hj)) ?_
    exact q _ j _ (List.getElem?_eq_getElem hj) bx1 kp1
abbrev sMixed : Stmt := top 22
theorem scMixed : FnScope ["_law_box_here", "_law_rows_so", "_law_turn", "_law_rest", "_law_done", "_law_at_so"] ["_law_box_here", "_law_rows_so"] (defScope sMixed) := ⟨rfl, rfl, rfl, by decide +kernel, rfl, by decide +kernel, by decide +kernel⟩
/-- a drawn order of a tuple's items -/
def spMixed (K : PySem.W.Frag) : Sp := fun vs H Q _ => ∃ (a l : Addr) (b : Nat) (xs : List V), vs = [.ref a, .ref l] ∧ Bx H a (b + xs.length) ∧ SqT K H l xs ∧ xs.length ≤ 1000 ∧
  ∀ (p : Addr) (ys : List V) (H' : Hp), H p = none → ys.Perm xs → H' p = some (.lst ys) → Bx H' a b → Kp a H H' → Q (.ref p) H'
theorem ok_mixed {f : Addr} {fd : FuncData} (F : Fun K "_law_mixed" "_law_mixed" sMixed f fd) (T : Txt K mg) (Ct : Cal P w K mg base CX0 1 "_law_take" ["_law_box_here", "_law_below"] spTake) : FnOk P w K mg base CX0 2 f fd ["_law_box_here", "_law_rows_so"] (spMixed K) := by
  refine F.ok scMixed (fun vs H Q E h => ?_) (fun cdv A outer s H vs Q E hr h => ?_)
  · obtain ⟨a, l, b, xs, rfl, _⟩ := h
    rfl
  · obtain ⟨a, l, b, xs, rfl, hb, hl, h1, q⟩ := h
    refine ⟨_, (pss_cons (ps_par (i := 3) (j := 4) rfl scMixed.nd rfl rfl (by decide) rfl rfl (pa_cons (pe_callTy c_list (by rfl) T.list (by decide +kernel) (pa_cons (pv 1) pa_nil)) (pa_cons (pe_lst pa_nil) pa_nil)) (by rfl))
  (pss_cons (ps_for PassesOwn.never rfl (pi_range1 rfl T.range (pa_cons (pe_callB c_lenT (by rfl) T.len (by decide +kernel) (pa_cons (pv 1) pa_nil)) pa_nil)) (pg_name (i := 2) scMixed.nd rfl (Or.inl rfl))
  (pss_cons (ps_set (i := 5) scMixed.nd rfl (Or.inl rfl) (pe_cal Ct hr pass0 (pa_cons (pv 0) (pa_cons (pe_callB c_lenL (by rfl) T.len (by decide +kernel) (pa_cons (pv 3) pa_nil)) pa_nil))))
  (pss_cons (ps_expr (pe_bm PySem.F.plainAttrs_list PySem.F.slot_list_append PySem.F.type_list_append mt_append (pv 4) (pa_cons (pe_ix ix_list (pv 3) (pv 5) (fun _ _ => rfl)) pa_nil)))
  (pss_one (ps_set (i := 3) scMixed.nd rfl (Or.inl rfl) (pe_op op_cat (pe_slice sl_list (pv 3) po_none (po_some (pv 5))) (pe_slice sl_list (pv 3) (po_some (pe_op op_add (pv 5) pe_int)) po_none)))))))
  (pss_one (ps_ret (pv 4))))), ?_⟩
    walk_at "in"
    walk_at "go"
    rename_i r0 hr0 p hp
    have npa : p ≠ a := by walk_at "ne"
    have nra : r0 ≠ a := by walk_at "ne"
    have npr : p ≠ r0 := by walk_at "ne"
    have hp0 : H p = none := by rw [upd_ne npr] at hp; exact hp
    refine for_it (walk_range (n := xs.length)) (fun i σ H' => ∃ (r : Addr) (rs ys : List V) (x2 x5 : Option V), σ = [some (.ref a), some (.ref l), x2, some (.ref r), some (.ref p), x5] ∧ (ys ++ rs).Perm xs ∧ ys.length = i ∧ H' r = some (.lst rs) ∧ H' p = some (.lst ys) ∧ r ≠ a ∧ p ≠ r ∧ Bx H' a (b + rs.length) ∧ Kp a H H') ?_ (fun _ _ _ _ _ => trivial) ?_ ?_
    · exact ⟨r0, xs, [], none, none, rfl, List.Perm.refl _, rfl, by walk_at "hp", by walk_at "hp", nra, npr, by walk_at "bx", fun c o e n => by walk_at "hp"⟩
    · rintro i x σ H2 _ hi ⟨r, rs, ys, x2, x5, rfl, pm, ly, hr2, hp2, nra2, npr2, bx2, kp2⟩ ⟨rfl, rfl⟩
      have hl2 : rs.length + i = xs.length := by have := pm.length_eq; rw [List.length_append] at this; omega
      walk_at "go"
      refine ⟨a, b + (rs.length - 1), rs.length, rfl, by rw [show b + (rs.length - 1) + 1 = b + rs.length by omega]; exact bx2, by omega, by omega, fun d H1 d0 d1 bx1 kp1 => ?_⟩
      obtain ⟨j, rfl⟩ : ∃ j : Nat, d = j := ⟨d.toNat, by omega⟩
      have hj : j < rs.length := by omega
      walk_at "go"
      refine r_ixL (by walk_at "sq") (atI_nat (List.getElem?_eq_getElem hj)) ?_
      walk_at "go"
      rename_i q1 hq1 q2 hq2
      have e1 : cutV rs none (some (j : Int)) = rs.take j := cutV_to rs j
      have e2 : cutV rs (some ((j : Int) + 1)) none = rs.drop (j + 1) := by rw [show ((j : Int) + 1) = ((j + 1 : Nat) : Int) by omega]; exact cutV_from rs (j + 1)
      rw [e1] at hq2 ⊢
      rw [e2]
      refine r_cat (by walk_at "hp") (by walk_at "hp") (sz (by rw [List.length_take, List.length_drop]; omega)) fun q3 hq3 => ?_
      have n1 : p ≠ q3 := by walk_at "ne"
      have n2 : q3 ≠ a := by walk_at "ne"
      refine ⟨q3, rs.take j ++ rs.drop (j + 1), ys ++ [rs[j]], _, _, rfl, (perm_out ys rs hj).trans pm, by rw [List.length_append, ly]; rfl, by walk_at "hp", by walk_at "hp", n2, n1, ?_, fun c o e n => ?_⟩
      · rw [show b + (rs.take j ++ rs.drop (j + 1)).length = b + (rs.length - 1) by rw [List.length_append, List.length_take, List.length_drop]; omega]
        walk_at "bx"
      · have n3 : c ≠ p := ne_of_none e hp0
        walk_at "hp"
    · rintro σ H2 ⟨r, rs, ys, x2, x5, rfl, pm, ly, hr2, hp2, nra2, npr2, bx2, kp2⟩
      have hl2 : rs = [] := List.eq_nil_of_length_eq_zero (by have := pm.length_eq; rw [List.length_append] at this; omega)
      subst hl2
      rw [List.append_nil] at pm
      walk_at "go"
      exact q p ys H2 hp0 pm hp2 bx2 kp2
end
end My

namespace My
open PySem L2
local macro_rules | `(tactic| walk_at "bx1") => `(tactic| first | with_reducible assumption | ((with_reducible refine' Bx.upd ?h1 ?h2); (case h1 => walk_at "bx1"); (case h2 => walk_at "ne")) | ((with_reducible refine' Bx.same ?h1 (by with_reducible assumption)); (case h1 => walk_at "bx1")))
local macro_rules | `(tactic| walk_at "bx") => `(tactic| (refine' Bx.mono ?h1 ?h2; (case h1 => walk_at "bx1"); (case h2 => omega)))
local macro_rules | `(tactic| walk_at "ne") => `(tactic| first | with_reducible assumption | exact Ne.symm (by with_reducible assumption) | ((with_reducible refine' ne_of_none ?h1 (by with_reducible assumption)); (case h1 => walk_at "hp")) | ((with_reducible refine' Ne.symm (ne_of_none ?h1 (by with_reducible assumption))); (case h1 => walk_at "hp")) | ((with_reducible refine' Bx.ne ?h1 (by with_reducible assumption)); (case h1 => walk_at "bx1")) | ((with_reducible refine' Ne.symm (Bx.ne ?h1 (by with_reducible assumption))); (case h1 => walk_at "bx1")))
local macro_rules | `(tactic| walk_at "hp") => `(tactic| first | with_reducible assumption | ((with_reducible refine' (upd_same.trans ?h1)); (case h1 => rfl)) | ((with_reducible refine' My.upd_at ?h1 ?h2); (case h1 => walk_at "hp"); (case h2 => walk_at "ne")) | ((with_reducible refine' My.Kp.at (by with_reducible assumption) ?h1 ?h2); (case h1 => walk_at "hp"); (case h2 => walk_at "ne")) | ((with_reducible refine' My.Same.at (by with_reducible assumption) ?h1); (case h1 => walk_at "hp")))
local macro_rules | `(tactic| walk_at "sq") => `(tactic| first | with_reducible assumption | exact SqL.of (by walk_at "hp") | exact SqT.of (by walk_at "hp") | ((with_reducible refine' My.SqT.upd ?h1 (by with_reducible assumption)); (case h1 => walk_at "sq")) | ((with_reducible refine' My.SqL.upd ?h1 (by with_reducible assumption)); (case h1 => walk_at "sq")) | ((with_reducible refine' Same.seq (by with_reducible assumption) ?h1); (case h1 => walk_at "sq")) | ((with_reducible refine' My.SqT.same ?h1 (by with_reducible assumption)); (case h1 => walk_at "sq")) | ((with_reducible refine' My.SqT.kp ?h1 (by with_reducible assumption) ?h2); (case h1 => walk_at "sq"); (case h2 => walk_at "bx1")) | ((with_reducible refine' My.SqL.kp ?h1 (by with_reducible assumption) ?h2); (case h1 => walk_at "sq"); (case h2 => walk_at "ne")))
local macro_rules | `(tactic| walk_at "sd") => `(tactic| first | assumption | omega | decide | (refine ⟨?_, ?_⟩ <;> (first | omega | decide)) | (refine Or.inl ⟨?_, ?_⟩ <;> (first | omega | decide)) | (refine Or.inr ⟨?_, ?_⟩ <;> (first | omega | decide)) | (refine ⟨?_, ?_, ?_⟩ <;> (first | omega | decide)))
local macro_rules | `(tactic| walk_at "ps") => `(tactic| first
  | with_reducible refine r_seq ?_ | with_reducible refine r_asg ?_ | with_reducible refine r_op ?_ | with_reducible refine r_cons ?_ | with_reducible refine r_nil ?_ | with_reducible refine r_c ?_
  | with_reducible refine' r_var rfl ?_ | with_reducible refine r_gname ?_ | with_reducible refine r_cb ?_ | with_reducible refine r_I0 ?_ | with_reducible refine r_ret ?_ | with_reducible refine r_ifS ?_ | with_reducible refine r_test ?_ | with_reducible refine r_B ?_
  | with_reducible refine r_next ?_ | with_reducible refine r_drop ?_ | with_reducible refine r_if ?_ | with_reducible refine r_un ?_ | with_reducible refine r_U ?_ | with_reducible refine r_gsub ?_ | with_reducible refine r_tup ?_ | with_reducible refine r_lst ?_ | with_reducible refine r_bm ?_
  | with_reducible refine r_cal ?_ | with_reducible refine r_not ?_ | with_reducible refine r_and ?_ | with_reducible refine r_or ?_ | with_reducible refine r_andV ?_ | with_reducible refine r_orV ?_ | with_reducible refine r_notV ?_
  | with_reducible refine r_abs ?_ | with_reducible refine r_intI ?_ | with_reducible refine r_intB ?_ | with_reducible refine r_m1 ?_ | with_reducible refine r_slice ?_ | with_reducible refine r_part ?_ | with_reducible refine r_nopart ?_
  | with_reducible refine r_gcons ?_ | with_reducible refine r_gnil ?_
  | with_reducible refine r_par ?_ | with_reducible refine r_par3 ?_ | with_reducible refine r_ex2 ?_ | with_reducible refine r_ex3 ?_
  | with_reducible refine r_isN ?_ | with_reducible refine r_notN ?_
  | with_reducible refine r_iZipA ?_
  | with_reducible refine r_dget ?_ | with_reducible refine r_dget2 ?_ | with_reducible refine r_iKeys ?_ | with_reducible refine r_dput ?_
  | with_reducible refine r_for ?_ | with_reducible refine r_lc ?_ | with_reducible refine r_iList ?_ | with_reducible refine r_iTup ?_ | with_reducible refine r_iRng1 ?_ | with_reducible refine r_iEnum ?_ | with_reducible refine r_orT ?_ | with_reducible refine r_yes ?_ | with_reducible refine r_ixSl ?_)
local macro_rules | `(tactic| walk_at "st") => `(tactic| first
  | walk_at "ps"
  | ((with_reducible refine' r_ixL ?h1 ?h2 ?_); (case h1 => walk_at "sq"); (case h2 => rfl))
  | ((with_reducible refine' r_setL ?h1 ?h2 ?_); (case h1 => walk_at "hp"); (case h2 => rfl))
  | ((with_reducible refine' r_I ?h1 ?_); (case h1 => walk_at "sd"))
  | ((with_reducible refine' r_eq ?h1 ?_); (case h1 => rfl)) | ((with_reducible refine' r_ne ?h1 ?_); (case h1 => rfl))
  | ((with_reducible refine' r_lenL ?h1 ?_); (case h1 => walk_at "sq")) | ((with_reducible refine' r_lenT ?h1 ?_); (case h1 => walk_at "sq")) | ((with_reducible refine' r_lenD ?h1 ?_); (case h1 => walk_at "hp"))
  | ((with_reducible refine' r_slL ?h1 ?_); (case h1 => walk_at "sq"); intro _ _)
  | ((with_reducible refine' r_append ?h1 ?h2 ?_); (case h1 => walk_at "hp"); (case h2 => exact szl (by first | omega | (simp; omega))))
  | ((with_reducible refine' r_gtup ?h1 ?h2 ?_); (case h1 => walk_at "sq"); (case h2 => rfl))
  | ((with_reducible refine' r_cat ?h1 ?h2 ?h3 ?_); (case h1 => walk_at "hp"); (case h2 => walk_at "hp"); (case h3 => exact sz (by first | omega | (simp; omega))); intro _ _)
  | ((with_reducible refine' r_wLst ?h1 ?_); (case h1 => walk_at "sq")) | ((with_reducible refine' r_wTup ?h1 ?_); (case h1 => walk_at "sq"))
  | ((with_reducible refine' r_wRng ?h1 ?_); (case h1 => walk_at "sd"))
  | ((with_reducible refine' r_truL ?h1 ?_); (case h1 => walk_at "sq"))
  | ((with_reducible refine' r_list (Or.inl ?h1) ?_); (case h1 => walk_at "sq"); intro _ _) | ((with_reducible refine' r_list (Or.inr ?h1) ?_); (case h1 => walk_at "sq"); intro _ _)
  | ((with_reducible refine' r_tupL ?h1 ?_); (case h1 => walk_at "sq"); intro _ _) | ((with_reducible refine' r_tupT ?h1 ?_); (case h1 => walk_at "sq"))
  | ((with_reducible refine' r_disp ?h1 ?_); (case h1 => exact Nat.le_of_ble_eq_true rfl); intro _ _)
  | ((with_reducible refine r_dnewK ?_); intro _ _)
  | ((with_reducible refine' r_tyL ?h1 ?_); (case h1 => walk_at "sq")) | with_reducible refine r_strV ?_
  | with_reducible refine r_exb ?_ | with_reducible refine r_exi ?_ | with_reducible refine r_exr ?_ | with_reducible refine r_exs ?_ | with_reducible refine r_exli ?_)
local macro_rules | `(tactic| walk_at "go") => `(tactic| repeat walk_at "st")
local macro_rules | `(tactic| walk_at "in") => `(tactic| dsimp only [noxK, cxK, L2.start, List.map_cons, List.map_nil, List.length_cons, List.length_nil, Nat.reduceAdd, Nat.reduceSub, List.replicate, List.cons_append, List.nil_append])

section
variable {P : Program} {w : World} {K : PySem.W.Frag} {mg : Str → Option Value} {base : Heap}
abbrev sNames : Stmt := top 23
theorem scNames : FnScope ["_law_box_here", "_law_some", "_law_letters", "_law_base", "_law_first_so", "_law_step", "_law_done", "_law_k", "_law_far", "_law_place", "_law_near", "_law_size_so", "_law_word", "_law_at_so", "_law_sign_so", "_law_turn"] ["_law_box_here", "_law_some"] (defScope sNames) := ⟨rfl, rfl, rfl, by decide +kernel, rfl, by decide +kernel, by decide +kernel⟩
def spNames : Sp := fun vs H Q _ => ∃ (a : Addr) (b n : Nat), vs = [.ref a, .int n] ∧ n ≤ 13 ∧ Bx H a (b + (13 + 9 * n)) ∧
  ∀ (p : Addr) (ws : List Str) (H' : Hp), H p = none → ws.length = n → ws.Nodup → (∀ s ∈ ws, KindS s) → H' p = some (.lst (ws.map V.str)) → Bx H' a b → Kp a H H' → Q (.ref p) H'
/-- [letters[take(box, 26)] for .. in range(m)] -/
theorem lc_letters {σ : L2.St} {H : Hp} {Q : VK} {j m b : Nat} {a : Addr} {wi : TI} (hwi : ∀ R : It → Hp → Prop, R (Itr 0 m) H → wi σ H R) (h2 : ∀ v, ((wipe σ [j]).set j v)[2]? = some (some (.str (Str.ofString "abcdefghijklmnopqrstuvwxyz")))) (h0 : ∀ v, ((wipe σ [j]).set j v)[0]? = some (some (.ref a)))
    (hw : ∀ v, wipe ((wipe σ [j]).set j v) [j] = wipe σ [j]) (bx : Bx H a (b + m)) (hm : m ≤ 100)
    (hd : ∀ D H' (acc : List Str), H D = none → H' D = some (.lst (acc.map V.str)) → acc.length = m → (∀ s ∈ acc, Lt1 s) → Bx H' a b → Kp a H H' → Q (.ref D) H') :
    tLc wi (gName j) tYes (tOp rIxS (tVar 2) (tCal spTake E0 (tCons (tVar 0) (tCons (tC (.int 26)) tNil)))) [j] σ H Q := by
  refine r_lc (hwi _ fun D hD => ?_)
  have nDa : a ≠ D := bx.ne hD
  refine lc_it (walk_range (n := m)) (fun i H' => ∃ acc : List Str, H' D = some (.lst (acc.map V.str)) ∧ acc.length = i ∧ (∀ s ∈ acc, Lt1 s) ∧ Bx H' a (b + (m - i)) ∧ Kp a H H') ?_ (fun _ _ _ _ => trivial) ?_ ?_
  · exact ⟨[], upd_same, rfl, fun s h => by simp at h, by walk_at "bx", fun c o e n => by walk_at "hp"⟩
  · rintro i x H1 _ hi ⟨acc, hD1, hl, hacc, bx1, kp1⟩ ⟨rfl, rfl⟩
    refine r_gname ⟨hw _, ?_⟩
    refine r_yes (iteT ?_)
    refine r_op (r_var (h2 _) (r_cal (r_cons (r_var (h0 _) (r_cons (r_c (r_nil ?_)))))))
    refine ⟨a, b + (m - (i + 1)), 26, rfl, by walk_at "bx", by decide, by decide, fun d H2 d0 d1 bx2 kp2 => ?_⟩
    obtain ⟨k, rfl⟩ : ∃ k : Nat, d = k := ⟨d.toNat, by omega⟩
    refine r_ixSl ⟨by omega, ?_⟩
    refine ⟨acc.map V.str, by walk_at "hp", szl (by rw [List.length_map]; omega), acc ++ [⟨#[97 + k]⟩], by rw [List.map_append]; exact upd_same, by rw [List.length_append, hl]; rfl, fun s hs => ?_, by walk_at "bx", fun c o e n => ?_⟩
    · rcases List.mem_append.mp hs with hs | hs
      · exact hacc s hs
      · have : s = ⟨#[97 + k]⟩ := by simpa using hs
        exact ⟨97 + k, this, by omega, by omega⟩
    · have n2 : c ≠ D := ne_of_none e hD
      walk_at "hp"
  · rintro H1 ⟨acc, hD1, hl, hacc, bx1, kp1⟩
    exact hd D H1 acc hD hD1 hl hacc (by walk_at "bx") kp1
theorem ok_names {f : Addr} {fd : FuncData} (F : Fun K "_law_names" "_law_names" sNames f fd) (T : Txt K mg) (Ct : Cal P w K mg base CX0 1 "_law_take" ["_law_box_here", "_law_below"] spTake) (Co : Cal P w K mg base CX0 2 "_law_of" ["_law_box_here", "_law_some"] spOf) : FnOk P w K mg base CX0 3 f fd ["_law_box_here", "_law_some"] spNames := by
  refine F.ok scNames (fun vs H Q E h => ?_) (fun cdv A outer s H vs Q E hr h => ?_)
  · obtain ⟨a, b, n, rfl, _⟩ := h
    rfl
  · obtain ⟨a, b, n, rfl, hn, hb, q⟩ := h
    have hr1 : Room 1 _ := hr.mono (by decide)
    refine ⟨_, (pss_cons (ps_set (i := 2) scNames.nd rfl (Or.inr rfl) pe_str)
  (Evl.pss_cut (ps_set (i := 3) scNames.nd rfl (Or.inl rfl) (pe_joinR pe_str (pe_lc (own := [("_law_k", 7)]) (g := gName 7) (tt := tYes) rfl scNames.nd (pi_range1 rfl T.range (pa_cons pe_int pa_nil)) (blkOk_by (N := ["_law_box_here", "_law_some", "_law_letters", "_law_base", "_law_first_so", "_law_step", "_law_done", "_law_k", "_law_far", "_law_place", "_law_near", "_law_size_so", "_law_word", "_law_at_so", "_law_sign_so", "_law_turn"]) (sc := defScope sNames) (by decide +kernel)) (fun _ _ _ _ _ => (pg_name (i := 7) scNames.nd rfl (Or.inl rfl))) (fun _ _ _ _ _ => pts_nil) (fun _ _ _ _ _ => (pe_ix ix_str (pv 2) (pe_cal Ct hr1 pass0 (pa_cons (pv 0) (pa_cons pe_int pa_nil))) (fun _ _ => rfl))))))
  (pss_cons (ps_par3 (i := 8) (j := 9) (l := 10) rfl scNames.nd rfl rfl rfl (by decide) (by decide) (by decide) rfl rfl rfl (pa_cons (pe_op op_add pe_int (pe_cal Ct hr1 pass0 (pa_cons (pv 0) (pa_cons pe_int pa_nil)))) (pa_cons (pe_cal Ct hr1 pass0 (pa_cons (pv 0) (pa_cons pe_int pa_nil))) (pa_cons (pe_cal Ct hr1 pass0 (pa_cons (pv 0) (pa_cons pe_int pa_nil))) pa_nil))) (by rfl))
  (pss_cons (ps_set (i := 4) scNames.nd rfl (Or.inl rfl) (pe_cal Ct hr1 pass0 (pa_cons (pv 0) (pa_cons pe_int pa_nil))))
  (pss_cons (ps_set (i := 5) scNames.nd rfl (Or.inl rfl) (pe_cal Co hr pass0 (pa_cons (pv 0) (pa_cons (pe_lst (pa_cons pe_int (pa_cons pe_int (pa_cons pe_int (pa_cons pe_int (pa_cons pe_int (pa_cons pe_int (pa_cons pe_int (pa_cons pe_int (pa_cons pe_int (pa_cons pe_int (pa_cons pe_int (pa_cons pe_int pa_nil))))))))))))) pa_nil))))
  (pss_cons (ps_set (i := 6) scNames.nd rfl (Or.inl rfl) (pe_lst pa_nil))
  (pss_cons (ps_for PassesOwn.never rfl (pi_range1 rfl T.range (pa_cons (pv 1) pa_nil)) (pg_name (i := 7) scNames.nd rfl (Or.inl rfl))
  (Evl.pss_cut (ps_set (i := 11) scNames.nd rfl (Or.inl rfl) (pe_ifExp (pt_cmpR op_eq (pv 10) pe_int (nomark _)) (pv 8) (pe_op op_add pe_int (pe_cal Ct hr1 pass0 (pa_cons (pv 0) (pa_cons pe_int pa_nil))))))
  (pss_cons (ps_set (i := 12) scNames.nd rfl (Or.inl rfl) (pe_slice sl_str (pv 3) po_none (po_some (pv 11))))
  (Evl.pss_cut (ps_if (pt_cmpR op_gt (pv 10) pe_int (nomark _))
  (pss_one (ps_set (i := 12) scNames.nd rfl (Or.inl rfl) (pe_joinR pe_str (pe_lc (own := [("_law_turn", 15)]) (g := gName 15) (tt := tYes) rfl scNames.nd (pi_range1 rfl T.range (pa_cons (pv 11) pa_nil)) (blkOk_by (N := ["_law_box_here", "_law_some", "_law_letters", "_law_base", "_law_first_so", "_law_step", "_law_done", "_law_k", "_law_far", "_law_place", "_law_near", "_law_size_so", "_law_word", "_law_at_so", "_law_sign_so", "_law_turn"]) (sc := defScope sNames) (by decide +kernel)) (fun _ _ _ _ _ => (pg_name (i := 15) scNames.nd rfl (Or.inl rfl))) (fun _ _ _ _ _ => pts_nil) (fun _ _ _ _ _ => (pe_ix ix_str (pv 2) (pe_cal Ct hr1 pass0 (pa_cons (pv 0) (pa_cons pe_int pa_nil))) (fun _ _ => rfl)))))))
  pss_nil)
  (pss_cons (ps_set (i := 13) scNames.nd rfl (Or.inl rfl) (pe_op op_mod (pe_callTy c_int (by rfl) T.int (by decide +kernel) (pa_cons (pv 9) pa_nil)) (pv 11)))
  (pss_cons (ps_set (i := 14) scNames.nd rfl (Or.inl rfl) (pe_ix ix_str (pv 2) (pe_op op_mod (pe_callTy c_int (by rfl) T.int (by decide +kernel) (pa_cons (pe_op op_add (pv 4) (pe_op op_mul (pv 5) (pv 7))) pa_nil)) pe_int) (fun _ _ => rfl)))
  (pss_one (ps_expr (pe_bm PySem.F.plainAttrs_list PySem.F.slot_list_append PySem.F.type_list_append mt_append (pv 6) (pa_cons (pe_op o_catS (pe_op o_catS (pe_slice sl_str (pv 12) po_none (po_some (pv 13))) (pv 14)) (pe_slice sl_str (pv 12) (po_some (pe_op op_add (pv 13) pe_int)) po_none)) pa_nil))))))))))
  (pss_one (ps_ret (pv 6)))))))))), ?_⟩
    walk_at "in"
    walk_at "go"
    refine ⟨fun σ' H' => ∃ (z : Str), σ' = [some (.ref a), some (.int n), some (.str (Str.ofString "abcdefghijklmnopqrstuvwxyz")), some (.str z), none, none, none, none, none, none, none, none, none, none, none, none] ∧ (cds z).length = 8 ∧ AllL (cds z) ∧ Bx H' a (b + (5 + 9 * n)) ∧ Kp a H H', ?_, ?_⟩
    · refine r_asg (r_m1 (r_c (r_strV ?_)))
      refine lc_letters (a := a) (m := 8) (b := b + (5 + 9 * n)) (fun R h => ?_) (fun v => rfl) (fun v => rfl) (fun v => rfl) (by walk_at "bx") (by decide) fun D H1 acc hD hD1 hl hacc bx1 kp1 => ?_
      · walk_at "go"
        exact h
      refine r_join (ys := acc) (by walk_at "sq") (by rw [sum_len acc hacc, hl, empty_len]; omega) ?_
      walk_at "go"
      exact ⟨_, rfl, by rw [cds_join, (flat_len acc hacc).1, hl], by rw [cds_join]; exact (flat_len acc hacc).2, bx1, kp1⟩
    · rintro σ1 H1 ⟨z, rfl, z1, z2, bx1, kp1⟩
      walk_at "go"
      refine ⟨a, b + (4 + 9 * n), 8, rfl, by walk_at "bx", by decide, by decide, fun far H2 f0 f1 bx2 kp2 => ?_⟩
      walk_at "go"
      refine ⟨a, b + (3 + 9 * n), 8, rfl, by walk_at "bx", by decide, by decide, fun place H3 p0 p1 bx3 kp3 => ?_⟩
      walk_at "go"
      refine ⟨a, b + (2 + 9 * n), 2, rfl, by walk_at "bx", by decide, by decide, fun near H4 n0 n1 bx4 kp4 => ?_⟩
      walk_at "go"
      refine ⟨a, b + (1 + 9 * n), 26, rfl, by walk_at "bx", by decide, by decide, fun first H5 g0 g1 bx5 kp5 => ?_⟩
      walk_at "go"
      rename_i pl hpl
      refine ⟨a, pl, b + 9 * n, steps.map (fun (s : Nat) => V.int (s : Int)), rfl, by walk_at "bx", by walk_at "hp", by walk_at "ne", by decide, by decide, fun x i H6 hx bx6 kp6 => ?_⟩
      obtain ⟨st, rfl, hst⟩ := map_some hx
      have hst : st ∈ steps := List.mem_of_getElem? hst
      obtain ⟨far, rfl⟩ : ∃ k : Nat, far = k := ⟨far.toNat, by omega⟩
      obtain ⟨place, rfl⟩ : ∃ k : Nat, place = k := ⟨place.toNat, by omega⟩
      obtain ⟨first, rfl⟩ : ∃ k : Nat, first = k := ⟨first.toNat, by omega⟩
      have kp : Kp a H H6 := fun c o e nc => by walk_at "hp"
      walk_at "go"
      rename_i pd hpd
      have npd : pd ≠ a := by walk_at "ne"
      have hpd0 : H pd = none := kp.free hpd npd
      refine for_it (walk_range (n := n)) (fun i σ H' => ∃ (ws : List Str) (x7 x11 x12 x13 x14 : Option V), σ = [some (.ref a), some (.int n), some (.str (Str.ofString "abcdefghijklmnopqrstuvwxyz")), some (.str z), some (.int first), some (.int st), some (.ref pd), x7, some (.int (1 + far)), some (.int place), some (.int near), x11, x12, x13, x14, none] ∧ ws.length = i ∧ (∀ (k : Nat) (w : Str), ws[k]? = some w → NameAt w place (97 + (first + st * k) % 26 : Nat)) ∧ H' pd = some (.lst (ws.map V.str)) ∧ Bx H' a (b + 9 * (n - i)) ∧ Kp a H H') ?_ (fun _ _ _ _ _ => trivial) ?_ ?_
      · exact ⟨[], none, none, none, none, none, rfl, rfl, fun k w h => by simp at h, by walk_at "hp", by walk_at "bx", fun c o e nc => by walk_at "hp"⟩
      · rintro i x σ H7 _ hi ⟨ws, x7, x11, x12, x13, x14, rfl, wl, hws, hp7, bx7, kp7⟩ ⟨rfl, rfl⟩
        walk_at "go"
        refine ⟨fun σ' H' => ∃ (sz : Nat), σ' = [some (.ref a), some (.int n), some (.str (Str.ofString "abcdefghijklmnopqrstuvwxyz")), some (.str z), some (.int first), some (.int st), some (.ref pd), some (.int (0 + (i : Int))), some (.int (1 + far)), some (.int place), some (.int near), some (.int sz), x12, x13, x14, none] ∧ 1 ≤ sz ∧ sz ≤ 8 ∧ H' pd = some (.lst (ws.map V.str)) ∧ Bx H' a (b + 9 * (n - i - 1) + 8) ∧ Kp a H H', ?_, ?_⟩
        · walk_at "go"
          refine ite_d (fun c => ?_) (fun c => ?_)
          · walk_at "go"
            exact ⟨1 + far, rfl, by omega, by omega, hp7, by walk_at "bx", kp7⟩
          · walk_at "go"
            refine ⟨a, b + 9 * (n - i - 1) + 8, 8, rfl, by walk_at "bx", by decide, by decide, fun d H8 d0 d1 bx8 kp8 => ?_⟩
            obtain ⟨d, rfl⟩ : ∃ k : Nat, d = k := ⟨d.toNat, by omega⟩
            walk_at "go"
            exact ⟨1 + d, rfl, by omega, by omega, by walk_at "hp", by walk_at "bx", kp7.trans kp8⟩
        · rintro σ8 H8 ⟨sz, rfl, s1, s8, hp8, bx8, kp8⟩
          walk_at "go"
          have hk : (sz : Int) ≤ 8 := by omega
          refine r_slS (My.sz (by rw [len_cds, z1]; decide)) ?_
          walk_at "go"
          refine ⟨fun σ' H' => ∃ (wd : Str), σ' = [some (.ref a), some (.int n), some (.str (Str.ofString "abcdefghijklmnopqrstuvwxyz")), some (.str z), some (.int first), some (.int st), some (.ref pd), some (.int (0 + (i : Int))), some (.int (1 + far)), some (.int place), some (.int near), some (.int sz), some (.str wd), x13, x14, none] ∧ (cds wd).length = sz ∧ AllL (cds wd) ∧ H' pd = some (.lst (ws.map V.str)) ∧ Bx H' a (b + 9 * (n - (i + 1))) ∧ Kp a H H', ?_, ?_⟩
          · walk_at "go"
            refine ite_d (fun c => ?_) (fun c => ?_)
            · refine r_asg (r_m1 (r_c (r_strV ?_)))
              refine lc_letters (a := a) (m := sz) (b := b + 9 * (n - (i + 1))) (fun R h => ?_) (fun v => rfl) (fun v => rfl) (fun v => rfl) (by walk_at "bx") (by omega) fun D H9 acc hD hD1 hl hacc bx9 kp9 => ?_
              · walk_at "go"
                exact h
              refine r_join (ys := acc) (by walk_at "sq") (by rw [sum_len acc hacc, hl, empty_len]; omega) ?_
              walk_at "go"
              exact ⟨_, rfl, by rw [cds_join, (flat_len acc hacc).1, hl], by rw [cds_join]; exact (flat_len acc hacc).2, by walk_at "hp", bx9, kp8.trans kp9⟩
            · walk_at "go"
              exact ⟨_, rfl, by rw [cds_to, List.length_take, z1]; omega, by rw [cds_to]; exact fun d hd => z2 d (List.mem_of_mem_take hd), hp8, by walk_at "bx", kp8⟩
          · rintro σ9 H9 ⟨wd, rfl, w1, w2, hp9, bx9, kp9⟩
            walk_at "go"
            have e1 : (((first : Int) + (st : Int) * (0 + (i : Int))) % 26) = (((first + st * i) % 26 : Nat) : Int) := by rw [Int.zero_add]; rfl
            rw [e1]
            refine r_ixSl ⟨Nat.mod_lt _ (by decide), ?_⟩
            walk_at "go"
            have e2 : ((place : Int) % (sz : Int)) = ((place % sz : Nat) : Int) := rfl
            have hp1 : place % sz < sz := Nat.mod_lt _ (by omega)
            refine r_slS (My.sz (by rw [len_cds, w1]; omega)) ?_
            walk_at "go"
            rw [e2]
            refine r_catS (My.sz (by rw [len_cds, cds_to, List.length_take, w1]; show min (place % sz) sz + 1 ≤ 100000; omega)) ?_
            walk_at "go"
            refine r_slS (My.sz (by rw [len_cds, w1]; omega)) ?_
            walk_at "go"
            have e3 : (((place % sz : Nat) : Int) + 1) = ((place % sz + 1 : Nat) : Int) := rfl
            rw [e3]
            have ew : cds (cutS wd none (some ((place % sz : Nat) : Int)) ++ (⟨#[97 + (first + st * i) % 26]⟩ : Str) ++ cutS wd (some ((place % sz + 1 : Nat) : Int)) none) = (cds wd).take (place % sz) ++ [97 + (first + st * i) % 26] ++ (cds wd).drop (place % sz + 1) := by
              rw [cds_app, cds_app, cds_to, cds_from]
            have hw : NameAt (cutS wd none (some ((place % sz : Nat) : Int)) ++ (⟨#[97 + (first + st * i) % 26]⟩ : Str) ++ cutS wd (some ((place % sz + 1 : Nat) : Int)) none) place (97 + (first + st * i) % 26) := put_letter w1 w2 ⟨s1, s8⟩ (by omega) ew
            refine r_catS (My.sz (by rw [len_cds, len_cds, cds_app, cds_to, cds_from, List.length_append, List.length_take, List.length_drop, w1]; show min (place % sz) sz + 1 + (sz - (place % sz + 1)) ≤ 100000; omega)) ?_
            generalize (cutS wd none (some ((place % sz : Nat) : Int)) ++ (⟨#[97 + (first + st * i) % 26]⟩ : Str) ++ cutS wd (some ((place % sz + 1 : Nat) : Int)) none) = w' at hw
            walk_at "go"
            refine ⟨ws ++ [w'], _, _, _, _, _, rfl, by rw [List.length_append, wl]; rfl, fun k w hk => ?_, by rw [List.map_append]; exact upd_same, by walk_at "bx", fun c o e nc => ?_⟩
            · by_cases hk2 : k < ws.length
              · rw [List.getElem?_append_left hk2] at hk
                exact hws k w hk
              · rw [List.getElem?_append_right (by omega)] at hk
                obtain ⟨h1, h2⟩ := List.getElem?_eq_some_iff.mp hk
                have h3 : k = i := by simp at h1; omega
                subst h3
                have h4 : w' = w := by simpa using h2
                rw [← h4]
                exact hw
            · have n2 : c ≠ pd := ne_of_none e hpd0
              walk_at "hp"
      · rintro σ7 H7 ⟨ws, x7, x11, x12, x13, x14, rfl, wl, hws, hp7, bx7, kp7⟩
        walk_at "go"
        exact q pd ws H7 hpd0 wl (names_nodup hst (by omega) hws) (fun s hs => by
          obtain ⟨k, hk, e⟩ := List.getElem_of_mem hs
          exact (hws k s (by rw [List.getElem?_eq_getElem hk, e])).kind) hp7 (by walk_at "bx") kp7
end
end My

namespace My
open PySem L2
local macro_rules | `(tactic| walk_at "bx1") => `(tactic| first | with_reducible assumption | ((with_reducible refine' Bx.upd ?h1 ?h2); (case h1 => walk_at "bx1"); (case h2 => walk_at "ne")) | ((with_reducible refine' Bx.same ?h1 (by with_reducible assumption)); (case h1 => walk_at "bx1")))
local macro_rules | `(tactic| walk_at "bx") => `(tactic| (refine' Bx.mono ?h1 ?h2; (case h1 => walk_at "bx1"); (case h2 => omega)))
local macro_rules | `(tactic| walk_at "ne") => `(tactic| first | with_reducible assumption | exact Ne.symm (by with_reducible assumption) | ((with_reducible refine' ne_of_none ?h1 (by with_reducible assumption)); (case h1 => walk_at "hp")) | ((with_reducible refine' Ne.symm (ne_of_none ?h1 (by with_reducible assumption))); (case h1 => walk_at "hp")) | ((with_reducible refine' Bx.ne ?h1 (by with_reducible assumption)); (case h1 => walk_at "bx1")) | ((with_reducible refine' Ne.symm (Bx.ne ?h1 (by with_reducible assumption))); (case h1 => walk_at "bx1")))
local macro_rules | `(tactic| walk_at "hp") => `(tactic| first | with_reducible assumption | ((with_reducible refine' (upd_same.trans ?h1)); (case h1 => rfl)) | ((with_reducible refine' My.upd_at ?h1 ?h2); (case h1 => walk_at "hp"); (case h2 => walk_at "ne")) | ((with_reducible refine' My.Kp.at (by with_reducible assumption) ?h1 ?h2); (case h1 => walk_at "hp"); (case h2 => walk_at "ne")) | ((with_reducible refine' My.Same.at (by with_reducible assumption) ?h1); (case h1 => walk_at "hp")))
local macro_rules | `(tactic| walk_at "sq") => `(tactic| first | with_reducible assumption | exact SqL.of (by walk_at "hp") | exact SqT.of (by walk_at "hp") | ((with_reducible refine' My.SqT.upd ?h1 (by with_reducible assumption)); (case h1 => walk_at "sq")) | ((with_reducible refine' My.SqL.upd ?h1 (by with_reducible assumption)); (case h1 => walk_at "sq")) | ((with_reducible refine' Same.seq (by with_reducible assumption) ?h1); (case h1 => walk_at "sq")) | ((with_reducible refine' My.SqT.same ?h1 (by with_reducible assumption)); (case h1 => walk_at "sq")) | ((with_reducible refine' My.SqT.kp ?h1 (by with_reducible assumption) ?h2); (case h1 => walk_at "sq"); (case h2 => walk_at "bx1")) | ((with_reducible refine' My.SqL.kp ?h1 (by with_reducible assumption) ?h2); (case h1 => walk_at "sq"); (case h2 => walk_at "ne")))
local macro_rules | `(tactic| walk_at "sd") => `(tactic| first | assumption | omega | decide | (refine ⟨?_, ?_⟩ <;> (first | omega | decide)) | (refine Or.inl ⟨?_, ?_⟩ <;> (first | omega | decide)) | (refine Or.inr ⟨?_, ?_⟩ <;> (first | omega | decide)) | (refine ⟨?_, ?_, ?_⟩ <;> (first | omega | decide)))
local macro_rules | `(tactic| walk_at "ps") => `(tactic| first
  | with_reducible refine r_seq ?_ | with_reducible refine r_asg ?_ | with_reducible refine r_op ?_ | with_reducible refine r_cons ?_ | with_reducible refine r_nil ?_ | with_reducible refine r_c ?_
  | with_reducible refine' r_var rfl ?_ | with_reducible refine r_gname ?_ | with_reducible refine r_cb ?_ | with_reducible refine r_I0 ?_ | with_reducible refine r_ret ?_ | with_reducible refine r_ifS ?_ | with_reducible refine r_test ?_ | with_reducible refine r_B ?_
  | with_reducible refine r_next ?_ | with_reducible refine r_drop ?_ | with_reducible refine r_if ?_ | with_reducible refine r_un ?_ | with_reducible refine r_U ?_ | with_reducible refine r_gsub ?_ | with_reducible refine r_tup ?_ | with_reducible refine r_lst ?_ | with_reducible refine r_bm ?_
  | with_reducible refine r_cal ?_ | with_reducible refine r_not ?_ | with_reducible refine r_and ?_ | with_reducible refine r_or ?_ | with_reducible refine r_andV ?_ | with_reducible refine r_orV ?_ | with_reducible refine r_notV ?_
  | with_reducible refine r_abs ?_ | with_reducible refine r_intI ?_ | with_reducible refine r_intB ?_ | with_reducible refine r_m1 ?_ | with_reducible refine r_slice ?_ | with_reducible refine r_part ?_ | with_reducible refine r_nopart ?_
  | with_reducible refine r_gcons ?_ | with_reducible refine r_gnil ?_
  | with_reducible refine r_par ?_ | with_reducible refine r_par3 ?_ | with_reducible refine r_ex2 ?_ | with_reducible refine r_ex3 ?_
  | with_reducible refine r_isN ?_ | with_reducible refine r_notN ?_
  | with_reducible refine r_iZipA ?_
  | with_reducible refine r_dget ?_ | with_reducible refine r_dget2 ?_ | with_reducible refine r_iKeys ?_ | with_reducible refine r_dput ?_
  | with_reducible refine r_for ?_ | with_reducible refine r_lc ?_ | with_reducible refine r_iList ?_ | with_reducible refine r_iTup ?_ | with_reducible refine r_iRng1 ?_ | with_reducible refine r_iEnum ?_ | with_reducible refine r_orT ?_ | with_reducible refine r_yes ?_ | with_reducible refine r_ixSl ?_)
local macro_rules | `(tactic| walk_at "st") => `(tactic| first
  | walk_at "ps"
  | ((with_reducible refine' r_ixL ?h1 ?h2 ?_); (case h1 => walk_at "sq"); (case h2 => rfl))
  | ((with_reducible refine' r_setL ?h1 ?h2 ?_); (case h1 => walk_at "hp"); (case h2 => rfl))
  | ((with_reducible refine' r_I ?h1 ?_); (case h1 => walk_at "sd"))
  | ((with_reducible refine' r_eq ?h1 ?_); (case h1 => rfl)) | ((with_reducible refine' r_ne ?h1 ?_); (case h1 => rfl))
  | ((with_reducible refine' r_lenL ?h1 ?_); (case h1 => walk_at "sq")) | ((with_reducible refine' r_lenT ?h1 ?_); (case h1 => walk_at "sq")) | ((with_reducible refine' r_lenD ?h1 ?_); (case h1 => walk_at "hp"))
  | ((with_reducible refine' r_slL ?h1 ?_); (case h1 => walk_at "sq"); intro _ _)
  | ((with_reducible refine' r_append ?h1 ?h2 ?_); (case h1 => walk_at "hp"); (case h2 => exact szl (by first | omega | (simp; omega))))
  | ((with_reducible refine' r_gtup ?h1 ?h2 ?_); (case h1 => walk_at "sq"); (case h2 => rfl))
  | ((with_reducible refine' r_cat ?h1 ?h2 ?h3 ?_); (case h1 => walk_at "hp"); (case h2 => walk_at "hp"); (case h3 => exact sz (by first | omega | (simp; omega))); intro _ _)
  | ((with_reducible refine' r_wLst ?h1 ?_); (case h1 => walk_at "sq")) | ((with_reducible refine' r_wTup ?h1 ?_); (case h1 => walk_at "sq"))
  | ((with_reducible refine' r_wRng ?h1 ?_); (case h1 => walk_at "sd"))
  | ((with_reducible refine' r_truL ?h1 ?_); (case h1 => walk_at "sq"))
  | ((with_reducible refine' r_list (Or.inl ?h1) ?_); (case h1 => walk_at "sq"); intro _ _) | ((with_reducible refine' r_list (Or.inr ?h1) ?_); (case h1 => walk_at "sq"); intro _ _)
  | ((with_reducible refine' r_tupL ?h1 ?_); (case h1 => walk_at "sq"); intro _ _) | ((with_reducible refine' r_tupT ?h1 ?_); (case h1 => walk_at "sq"))
  | ((with_reducible refine' r_disp ?h1 ?_); (case h1 => exact Nat.le_of_ble_eq_true rfl); intro _ _)
  | ((with_reducible refine r_dnewK ?_); intro _ _)
  | ((with_reducible refine' r_tyL ?h1 ?_); (case h1 => walk_at "sq")) | with_reducible refine r_strV ?_
  | with_reducible refine r_exb ?_ | with_reducible refine r_exi ?_ | with_reducible refine r_exr ?_ | with_reducible refine r_exs ?_ | with_reducible refine r_exli ?_)
local macro_rules | `(tactic| walk_at "go") => `(tactic| repeat walk_at "st")
local macro_rules | `(tactic| walk_at "in") => `(tactic| dsimp only [noxK, cxK, L2.start, List.map_cons, List.map_nil, List.length_cons, List.length_nil, Nat.reduceAdd, Nat.reduceSub, List.replicate, List.cons_append, List.nil_append])

/-- the same data, to a depth -/
def Sm (K : PySem.W.Frag) : Nat → V → V → Hp → Prop
  | 0, _, _, _ => False
  | n + 1, x, y, H => (x = y ∧ (x = .non ∨ (∃ b, x = .bl b) ∨ (∃ i, x = .int i) ∨ ∃ s, x = .str s)) ∨
    (∃ a b xs ys, x = .ref a ∧ y = .ref b ∧ H a = some (.lst xs) ∧ H b = some (.lst ys) ∧ xs.length = ys.length ∧ xs.length ≤ 1000 ∧ ∀ (i : Nat) (u v : V), xs[i]? = some u → ys[i]? = some v → Sm K n u v H) ∨
    (∃ a b xs ys, x = .ref a ∧ y = .ref b ∧ H a = some (.tup xs) ∧ H b = some (.tup ys) ∧ xs.length = ys.length ∧ xs.length ≤ 1000 ∧ ∀ (i : Nat) (u v : V), xs[i]? = some u → ys[i]? = some v → Sm K n u v H)
theorem walk_zipT {K : PySem.W.Frag} {a b : Addr} {xs ys : List V} {n : Nat} (h1 : n = xs.length) (h2 : n = ys.length) : Walk (RZ.ItzT K a b) n (fun H => SqT K H a xs ∧ SqT K H b ys) (YPair (fun i => xs[i]?) (fun i => ys[i]?)) := by
  refine ⟨fun i _ hi q => ?_, fun _ q => ⟨xs, ys, q.1, q.2, by omega⟩, fun i H v H' _ q y => ?_⟩
  · have h1 : i < xs.length := by omega
    have h2 : i < ys.length := by omega
    exact ⟨xs, ys, xs[i], ys[i], q.1, q.2, by simp [h1], by simp [h2]⟩
  · obtain ⟨T, x, z, h1, h2, h3, h4, h5⟩ := y
    exact ⟨T, x, z, h1, h2, h3, h4 xs q.1, h5 ys q.2⟩
theorem Sm.same {K : PySem.W.Frag} : ∀ {n : Nat} {x y : V} {H H' : Hp}, Sm K n x y H → Same H H' → Sm K n x y H'
  | 0, _, _, _, _, h, _ => h.elim
  | n + 1, x, y, H, H', h, e => by
    rcases h with h | ⟨a, b, xs, ys, h1, h2, h3, h4, h5, h6, h7⟩ | ⟨a, b, xs, ys, h1, h2, h3, h4, h5, h6, h7⟩
    · exact .inl h
    · exact .inr (.inl ⟨a, b, xs, ys, h1, h2, e _ _ h3, e _ _ h4, h5, h6, fun i u v hu hv => (h7 i u v hu hv).same e⟩)
    · exact .inr (.inr ⟨a, b, xs, ys, h1, h2, e _ _ h3, e _ _ h4, h5, h6, fun i u v hu hv => (h7 i u v hu hv).same e⟩)
section
variable {P : Program} {w : World} {K : PySem.W.Frag} {mg : Str → Option Value} {base : Heap}
abbrev sSame : Stmt := top 20
theorem scSame : FnScope ["_law_got", "_law_due", "_law_own", "_law_mine", "_law_its"] ["_law_got", "_law_due"] (defScope sSame) := ⟨rfl, rfl, rfl, by decide +kernel, rfl, by decide +kernel, by decide +kernel⟩
def spSame (K : PySem.W.Frag) (n : Nat) : Sp := fun vs H Q _ => ∃ x y, vs = [x, y] ∧ Sm K n x y H ∧ ∀ H', Same H H' → Q (.bl true) H'
theorem ok_same {f : Addr} {fd : FuncData} (F : Fun K "_law_same" "_law_same" sSame f fd) (T : Txt K mg) (n : Nat) (Cs : Cal P w K mg base CX0 n "_law_same" ["_law_got", "_law_due"] (spSame K n)) : FnOk P w K mg base CX0 (n + 1) f fd ["_law_got", "_law_due"] (spSame K (n + 1)) := by
  refine F.ok scSame (fun vs H Q E h => ?_) (fun cdv A outer s H vs Q E hr h => ?_)
  · obtain ⟨x, y, rfl, _⟩ := h
    rfl
  · obtain ⟨x, y, rfl, hs, q⟩ := h
    refine ⟨_, (pss_cons (ps_if (pt_val (pe_callB call_isiT (by rfl) T.isinstance (by decide +kernel) (pa_cons (pv 1) (pa_cons (pe_tup (pa_cons (pe_bltn (v := .ty "list") (by rfl) T.list (by decide +kernel) rfl) (pa_cons (pe_bltn (v := .ty "tuple") (by rfl) T.tuple (by decide +kernel) rfl) pa_nil))) pa_nil))))
  (pss_cons (ps_if (PW.pt (pw_or (pt_cmpR op_ne (pe_callB call_isi (by rfl) T.isinstance (by decide +kernel) (pa_cons (pv 0) (pa_cons (pe_bltn (v := .ty "list") (by rfl) T.list (by decide +kernel) rfl) pa_nil))) (pe_callB call_isi (by rfl) T.isinstance (by decide +kernel) (pa_cons (pv 1) (pa_cons (pe_bltn (v := .ty "list") (by rfl) T.list (by decide +kernel) rfl) pa_nil))) (nomark _)) (pw_or1 (pt_cmpR op_ne (pe_callB call_isi (by rfl) T.isinstance (by decide +kernel) (pa_cons (pv 0) (pa_cons (pe_bltn (v := .ty "tuple") (by rfl) T.tuple (by decide +kernel) rfl) pa_nil))) (pe_callB call_isi (by rfl) T.isinstance (by decide +kernel) (pa_cons (pv 1) (pa_cons (pe_bltn (v := .ty "tuple") (by rfl) T.tuple (by decide +kernel) rfl) pa_nil))) (nomark _)))))
  (pss_one (ps_ret pe_bl))
  pss_nil)
  (pss_one (ps_ret (pe_and (pe_cmpR op_eq (pe_callB call_len (by rfl) T.len (by decide +kernel) (pa_cons (pv 0) pa_nil)) (pe_callB call_len (by rfl) T.len (by decide +kernel) (pa_cons (pv 1) pa_nil)) (nomark _)) (pe_one (pe_callB (cr_all rfl) (by rfl) T.all (by decide +kernel) (pa_cons (pe_lc (own := [("_law_mine", 3), ("_law_its", 4)]) (g := gTup _ 2 (gCons (gName 3) (gCons (gName 4) gNil))) (tt := tYes) rfl scSame.nd (RZ.pi_zipA (by rfl) T.zip (pa_cons (pv 0) (pa_cons (pv 1) pa_nil))) (blkOk_by (N := ["_law_got", "_law_due", "_law_own", "_law_mine", "_law_its"]) (sc := defScope sSame) (by decide +kernel)) (fun _ _ _ _ _ => (pg_tup rfl (pgs_cons (pg_name (i := 3) scSame.nd rfl (Or.inl rfl)) (pgs_cons (pg_name (i := 4) scSame.nd rfl (Or.inl rfl)) pgs_nil)))) (fun _ _ _ _ _ => pts_nil) (fun _ _ _ _ _ => (pe_cal Cs hr pass0 (pa_cons (pv 3) (pa_cons (pv 4) pa_nil))))) pa_nil)))))))
  pss_nil)
  (pss_cons (ps_if (pt_val (pe_callB call_isi (by rfl) T.isinstance (by decide +kernel) (pa_cons (pv 1) (pa_cons (pe_bltn (v := .ty "dict") (by rfl) T.dict (by decide +kernel) rfl) pa_nil))))
  pss_never
  pss_nil)
  (pss_cons (ps_if (PW.pt (pw_or (pt_cmpR o_isN (pv 1) pe_non (nomark _)) (pw_or1 (pt_val (pe_callB call_isiT (by rfl) T.isinstance (by decide +kernel) (pa_cons (pv 1) (pa_cons (pe_tup (pa_cons (pe_bltn (v := .ty "bool") (by rfl) T.bool (by decide +kernel) rfl) (pa_cons (pe_bltn (v := .ty "str") (by rfl) T.str (by decide +kernel) rfl) pa_nil))) pa_nil)))))))
  (pss_one (ps_ret (pe_and (pe_cmpR op_eq (pv 0) (pv 1) (nomark _)) (pe_and (pe_cmpR op_eq (pe_callB call_isi (by rfl) T.isinstance (by decide +kernel) (pa_cons (pv 0) (pa_cons (pe_bltn (v := .ty "bool") (by rfl) T.bool (by decide +kernel) rfl) pa_nil))) (pe_callB call_isi (by rfl) T.isinstance (by decide +kernel) (pa_cons (pv 1) (pa_cons (pe_bltn (v := .ty "bool") (by rfl) T.bool (by decide +kernel) rfl) pa_nil))) (nomark _)) (pe_one (pe_cmpR op_eq (pe_cmpR o_isN (pv 0) pe_non (nomark _)) (pe_cmpR o_isN (pv 1) pe_non (nomark _)) (nomark _)))))))
  pss_nil)
  (pss_one (ps_ret (pe_and (pe_callB call_isi (by rfl) T.isinstance (by decide +kernel) (pa_cons (pv 0) (pa_cons (pe_bltn (v := .ty "int") (by rfl) T.int (by decide +kernel) rfl) pa_nil))) (pe_and (pe_not (pe_callB call_isi (by rfl) T.isinstance (by decide +kernel) (pa_cons (pv 0) (pa_cons (pe_bltn (v := .ty "bool") (by rfl) T.bool (by decide +kernel) rfl) pa_nil)))) (pe_one (pe_cmpR op_eq (pv 0) (pv 1) (nomark _)))))))))), ?_⟩
    walk_at "in"
    walk_at "go"
    rename_i p hp
    have fin : ∀ (v w : V) (H' : Hp), v = w → Same H H' → Q (V.bl (decide (v = w))) H' := fun v w H' e s => by rw [decide_eq_true e]; exact q H' s
    rcases hs with ⟨rfl, h⟩ | ⟨a, b, xs, ys, rfl, rfl, ha, hb, hl, h1000, hs⟩ | ⟨a, b, xs, ys, rfl, rfl, ha, hb, hl, h1000, hs⟩
    · rcases h with rfl | ⟨b, rfl⟩ | ⟨i, rfl⟩ | ⟨z, rfl⟩
      · refine r_isiT (T := "NoneType") false false (.base .non) upd_same (by decide +kernel) (by decide +kernel) ?_
        walk_at "go"
        refine iteF ?_
        walk_at "go"
        refine r_isi (T := "NoneType") false (.base .non) (by decide +kernel) ?_
        walk_at "go"
        refine iteF ?_
        walk_at "go"
        refine ite_dT rfl ?_
        refine iteT ?_
        walk_at "go"
        refine ite_dT rfl ?_
        walk_at "go"
        refine r_isi (T := "NoneType") false (.base .non) (by decide +kernel) ?_
        walk_at "go"
        refine r_isi (T := "NoneType") false (.base .non) (by decide +kernel) ?_
        walk_at "go"
        refine ite_dT rfl ?_
        walk_at "go"
        exact fin _ _ _ rfl (fun c o e => by walk_at "hp")
      · refine r_isiT (T := "bool") false false (.base (.bl _)) upd_same (by decide +kernel) (by decide +kernel) ?_
        walk_at "go"
        refine iteF ?_
        walk_at "go"
        refine r_isi (T := "bool") false (.base (.bl _)) (by decide +kernel) ?_
        walk_at "go"
        refine iteF ?_
        walk_at "go"
        refine ite_dF (fun z => by cases z) ?_
        walk_at "go"
        rename_i p2 hp2
        refine r_isiT (T := "bool") true false (.base (.bl _)) upd_same (by decide +kernel) (by decide +kernel) ?_
        walk_at "go"
        refine iteT ?_
        walk_at "go"
        refine ite_dT rfl ?_
        walk_at "go"
        refine r_isi (T := "bool") true (.base (.bl _)) (by decide +kernel) ?_
        walk_at "go"
        refine r_isi (T := "bool") true (.base (.bl _)) (by decide +kernel) ?_
        walk_at "go"
        refine ite_dT rfl ?_
        walk_at "go"
        exact fin _ _ _ rfl (fun c o e => by walk_at "hp")
      · refine r_isiT (T := "int") false false (.base (.int _)) upd_same (by decide +kernel) (by decide +kernel) ?_
        walk_at "go"
        refine iteF ?_
        walk_at "go"
        refine r_isi (T := "int") false (.base (.int _)) (by decide +kernel) ?_
        walk_at "go"
        refine iteF ?_
        walk_at "go"
        refine ite_dF (fun z => by cases z) ?_
        walk_at "go"
        rename_i p2 hp2
        refine r_isiT (T := "int") false false (.base (.int _)) upd_same (by decide +kernel) (by decide +kernel) ?_
        walk_at "go"
        refine iteF ?_
        walk_at "go"
        refine r_isi (T := "int") true (.base (.int _)) (by decide +kernel) ?_
        walk_at "go"
        refine iteT ?_
        walk_at "go"
        refine r_isi (T := "int") false (.base (.int _)) (by decide +kernel) ?_
        walk_at "go"
        refine iteT ?_
        walk_at "go"
        exact fin _ _ _ rfl (fun c o e => by walk_at "hp")
      · refine r_isiT (T := "str") false false (.base (.str _)) upd_same (by decide +kernel) (by decide +kernel) ?_
        walk_at "go"
        refine iteF ?_
        walk_at "go"
        refine r_isi (T := "str") false (.base (.str _)) (by decide +kernel) ?_
        walk_at "go"
        refine iteF ?_
        walk_at "go"
        refine ite_dF (fun z => by cases z) ?_
        walk_at "go"
        rename_i p2 hp2
        refine r_isiT (T := "str") false true (.base (.str _)) upd_same (by decide +kernel) (by decide +kernel) ?_
        walk_at "go"
        refine iteT ?_
        walk_at "go"
        refine ite_dT rfl ?_
        walk_at "go"
        refine r_isi (T := "str") false (.base (.str _)) (by decide +kernel) ?_
        walk_at "go"
        refine r_isi (T := "str") false (.base (.str _)) (by decide +kernel) ?_
        walk_at "go"
        refine ite_dT rfl ?_
        walk_at "go"
        exact fin _ _ _ rfl (fun c o e => by walk_at "hp")
    --LISTS
    · refine r_isiT (T := "list") true false (tyL (by walk_at "hp")) upd_same (by decide +kernel) (by decide +kernel) ?_
      walk_at "go"
      refine iteT ?_
      walk_at "go"
      refine r_isi (T := "list") true (tyL (by walk_at "hp")) (by decide +kernel) ?_
      walk_at "go"
      refine r_isi (T := "list") true (tyL (by walk_at "hp")) (by decide +kernel) ?_
      walk_at "go"
      refine ite_ndF rfl ?_
      walk_at "go"
      refine r_isi (T := "list") false (tyL (by walk_at "hp")) (by decide +kernel) ?_
      walk_at "go"
      refine r_isi (T := "list") false (tyL (by walk_at "hp")) (by decide +kernel) ?_
      walk_at "go"
      refine ite_ndF rfl ?_
      walk_at "go"
      refine ⟨_, xs.length, rfl, Or.inl ⟨xs, by walk_at "sq", rfl⟩, ?_⟩
      walk_at "go"
      refine ⟨_, ys.length, rfl, Or.inl ⟨ys, by walk_at "sq", rfl⟩, ?_⟩
      walk_at "go"
      refine ite_dT (by rw [hl]) ?_
      walk_at "go"
      refine ⟨a, b, xs, ys, rfl, Or.inl ⟨by walk_at "sq", by walk_at "sq", ?_⟩⟩
      intro D hD
      have hD0 : H D = none := by rw [upd_ne (by intro z; rw [z, upd_same] at hD; cases hD)] at hD; exact hD
      refine lc_it (walk_zip (xs := xs) (ys := ys) (n := xs.length) (by omega)) (fun i H' => H' D = some (.lst ((List.replicate i true).map V.bl)) ∧ Same H H') ?_ ?_ ?_ ?_
      · exact ⟨upd_same, fun c o e => by walk_at "hp"⟩
      · rintro i H1 _ ⟨_, s1⟩
        exact ⟨SqL.of (s1 _ _ ha), SqL.of (s1 _ _ hb)⟩
      · rintro i _ H1 _ hi ⟨hD1, s1⟩ ⟨t, u, v, rfl, ht, rfl, hu, hv⟩
        walk_at "go"
        refine ⟨rfl, r_yes (iteT ?_)⟩
        walk_at "go"
        refine ⟨u, v, rfl, (hs i u v hu hv).same (fun c o e => by walk_at "hp"), fun H2 s2 => ?_⟩
        have hD2 : H2 D = some (.lst ((List.replicate i true).map V.bl)) := by walk_at "hp"
        refine ⟨_, hD2, szl (by rw [List.length_map, List.length_replicate]; exact Nat.lt_of_lt_of_le hi (by omega)), ?_, fun c o e => ?_⟩
        · rw [List.replicate_succ', List.map_append]
          exact upd_same
        · have n1 : c ≠ D := ne_of_none e hD0
          walk_at "hp"
      · rintro H1 ⟨hD1, s1⟩
        walk_at "go"
        refine r_all (SqL.of hD1) ?_
        have e : (List.replicate xs.length true).all id = true := by rw [List.all_eq_true]; intro b hb; rw [List.eq_of_mem_replicate hb]; rfl
        rw [e]
        exact q _ s1
    · refine r_isiT (T := "tuple") false true (tyT (by walk_at "hp")) upd_same (by decide +kernel) (by decide +kernel) ?_
      walk_at "go"
      refine iteT ?_
      walk_at "go"
      refine r_isi (T := "tuple") false (tyT (by walk_at "hp")) (by decide +kernel) ?_
      walk_at "go"
      refine r_isi (T := "tuple") false (tyT (by walk_at "hp")) (by decide +kernel) ?_
      walk_at "go"
      refine ite_ndF rfl ?_
      walk_at "go"
      refine r_isi (T := "tuple") true (tyT (by walk_at "hp")) (by decide +kernel) ?_
      walk_at "go"
      refine r_isi (T := "tuple") true (tyT (by walk_at "hp")) (by decide +kernel) ?_
      walk_at "go"
      refine ite_ndF rfl ?_
      walk_at "go"
      refine ⟨_, xs.length, rfl, Or.inr ⟨xs, by walk_at "sq", rfl⟩, ?_⟩
      walk_at "go"
      refine ⟨_, ys.length, rfl, Or.inr ⟨ys, by walk_at "sq", rfl⟩, ?_⟩
      walk_at "go"
      refine ite_dT (by rw [hl]) ?_
      walk_at "go"
      refine ⟨a, b, xs, ys, rfl, Or.inr ⟨by walk_at "sq", by walk_at "sq", ?_⟩⟩
      intro D hD
      have hD0 : H D = none := by rw [upd_ne (by intro z; rw [z, upd_same] at hD; cases hD)] at hD; exact hD
      refine lc_it (walk_zipT (xs := xs) (ys := ys) (n := xs.length) rfl hl) (fun i H' => H' D = some (.lst ((List.replicate i true).map V.bl)) ∧ Same H H') ?_ ?_ ?_ ?_
      · exact ⟨upd_same, fun c o e => by walk_at "hp"⟩
      · rintro i H1 _ ⟨_, s1⟩
        exact ⟨SqT.of (s1 _ _ ha), SqT.of (s1 _ _ hb)⟩
      · rintro i _ H1 _ hi ⟨hD1, s1⟩ ⟨t, u, v, rfl, ht, rfl, hu, hv⟩
        walk_at "go"
        refine ⟨rfl, r_yes (iteT ?_)⟩
        walk_at "go"
        refine ⟨u, v, rfl, (hs i u v hu hv).same (fun c o e => by walk_at "hp"), fun H2 s2 => ?_⟩
        have hD2 : H2 D = some (.lst ((List.replicate i true).map V.bl)) := by walk_at "hp"
        refine ⟨_, hD2, szl (by rw [List.length_map, List.length_replicate]; exact Nat.lt_of_lt_of_le hi (by omega)), ?_, fun c o e => ?_⟩
        · rw [List.replicate_succ', List.map_append]
          exact upd_same
        · have n1 : c ≠ D := ne_of_none e hD0
          walk_at "hp"
      · rintro H1 ⟨hD1, s1⟩
        walk_at "go"
        refine r_all (SqL.of hD1) ?_
        have e : (List.replicate xs.length true).all id = true := by rw [List.all_eq_true]; intro b hb; rw [List.eq_of_mem_replicate hb]; rfl
        rw [e]
        exact q _ s1

end
end My

namespace My
open PySem L2
local macro_rules | `(tactic| walk_at "bx1") => `(tactic| first | with_reducible assumption | ((with_reducible refine' Bx.upd ?h1 ?h2); (case h1 => walk_at "bx1"); (case h2 => walk_at "ne")) | ((with_reducible refine' Bx.same ?h1 (by with_reducible assumption)); (case h1 => walk_at "bx1")))
local macro_rules | `(tactic| walk_at "bx") => `(tactic| (refine' Bx.mono ?h1 ?h2; (case h1 => walk_at "bx1"); (case h2 => omega)))
local macro_rules | `(tactic| walk_at "ne") => `(tactic| first | with_reducible assumption | exact Ne.symm (by with_reducible assumption) | ((with_reducible refine' ne_of_none ?h1 (by with_reducible assumption)); (case h1 => walk_at "hp")) | ((with_reducible refine' Ne.symm (ne_of_none ?h1 (by with_reducible assumption))); (case h1 => walk_at "hp")) | ((with_reducible refine' Bx.ne ?h1 (by with_reducible assumption)); (case h1 => walk_at "bx1")) | ((with_reducible refine' Ne.symm (Bx.ne ?h1 (by with_reducible assumption))); (case h1 => walk_at "bx1")))
local macro_rules | `(tactic| walk_at "hp") => `(tactic| first | with_reducible assumption | ((with_reducible refine' (upd_same.trans ?h1)); (case h1 => rfl)) | ((with_reducible refine' My.upd_at ?h1 ?h2); (case h1 => walk_at "hp"); (case h2 => walk_at "ne")) | ((with_reducible refine' My.Kp.at (by with_reducible assumption) ?h1 ?h2); (case h1 => walk_at "hp"); (case h2 => walk_at "ne")) | ((with_reducible refine' My.Same.at (by with_reducible assumption) ?h1); (case h1 => walk_at "hp")))
local macro_rules | `(tactic| walk_at "sq") => `(tactic| first | with_reducible assumption | exact SqL.of (by walk_at "hp") | exact SqT.of (by walk_at "hp") | ((with_reducible refine' My.SqT.upd ?h1 (by with_reducible assumption)); (case h1 => walk_at "sq")) | ((with_reducible refine' My.SqL.upd ?h1 (by with_reducible assumption)); (case h1 => walk_at "sq")) | ((with_reducible refine' Same.seq (by with_reducible assumption) ?h1); (case h1 => walk_at "sq")) | ((with_reducible refine' My.SqT.same ?h1 (by with_reducible assumption)); (case h1 => walk_at "sq")) | ((with_reducible refine' My.SqT.kp ?h1 (by with_reducible assumption) ?h2); (case h1 => walk_at "sq"); (case h2 => walk_at "bx1")) | ((with_reducible refine' My.SqL.kp ?h1 (by with_reducible assumption) ?h2); (case h1 => walk_at "sq"); (case h2 => walk_at "ne")))
local macro_rules | `(tactic| walk_at "sd") => `(tactic| first | assumption | omega | decide | (refine ⟨?_, ?_⟩ <;> (first | omega | decide)) | (refine Or.inl ⟨?_, ?_⟩ <;> (first | omega | decide)) | (refine Or.inr ⟨?_, ?_⟩ <;> (first | omega | decide)) | (refine ⟨?_, ?_, ?_⟩ <;> (first | omega | decide)))
local macro_rules | `(tactic| walk_at "ps") => `(tactic| first
  | with_reducible refine r_seq ?_ | with_reducible refine r_asg ?_ | with_reducible refine r_op ?_ | with_reducible refine r_cons ?_ | with_reducible refine r_nil ?_ | with_reducible refine r_c ?_
  | with_reducible refine' r_var rfl ?_ | with_reducible refine r_gname ?_ | with_reducible refine r_cb ?_ | with_reducible refine r_I0 ?_ | with_reducible refine r_ret ?_ | with_reducible refine r_ifS ?_ | with_reducible refine r_test ?_ | with_reducible refine r_B ?_
  | with_reducible refine r_next ?_ | with_reducible refine r_drop ?_ | with_reducible refine r_if ?_ | with_reducible refine r_un ?_ | with_reducible refine r_U ?_ | with_reducible refine r_gsub ?_ | with_reducible refine r_tup ?_ | with_reducible refine r_lst ?_ | with_reducible refine r_bm ?_
  | with_reducible refine r_cal ?_ | with_reducible refine r_not ?_ | with_reducible refine r_and ?_ | with_reducible refine r_or ?_ | with_reducible refine r_andV ?_ | with_reducible refine r_orV ?_ | with_reducible refine r_notV ?_
  | with_reducible refine r_abs ?_ | with_reducible refine r_intI ?_ | with_reducible refine r_intB ?_ | with_reducible refine r_m1 ?_ | with_reducible refine r_slice ?_ | with_reducible refine r_part ?_ | with_reducible refine r_nopart ?_
  | with_reducible refine r_gcons ?_ | with_reducible refine r_gnil ?_
  | with_reducible refine r_par ?_ | with_reducible refine r_par3 ?_ | with_reducible refine r_ex2 ?_ | with_reducible refine r_ex3 ?_
  | with_reducible refine r_isN ?_ | with_reducible refine r_notN ?_
  | with_reducible refine r_iZipA ?_
  | with_reducible refine r_dget ?_ | with_reducible refine r_dget2 ?_ | with_reducible refine r_iKeys ?_ | with_reducible refine r_dput ?_
  | with_reducible refine r_for ?_ | with_reducible refine r_lc ?_ | with_reducible refine r_iList ?_ | with_reducible refine r_iTup ?_ | with_reducible refine r_iRng1 ?_ | with_reducible refine r_iEnum ?_ | with_reducible refine r_orT ?_ | with_reducible refine r_yes ?_ | with_reducible refine r_ixSl ?_)
local macro_rules | `(tactic| walk_at "st") => `(tactic| first
  | walk_at "ps"
  | ((with_reducible refine' r_ixL ?h1 ?h2 ?_); (case h1 => walk_at "sq"); (case h2 => rfl))
  | ((with_reducible refine' r_setL ?h1 ?h2 ?_); (case h1 => walk_at "hp"); (case h2 => rfl))
  | ((with_reducible refine' r_I ?h1 ?_); (case h1 => walk_at "sd"))
  | ((with_reducible refine' r_eq ?h1 ?_); (case h1 => rfl)) | ((with_reducible refine' r_ne ?h1 ?_); (case h1 => rfl))
  | ((with_reducible refine' r_lenL ?h1 ?_); (case h1 => walk_at "sq")) | ((with_reducible refine' r_lenT ?h1 ?_); (case h1 => walk_at "sq")) | ((with_reducible refine' r_lenD ?h1 ?_); (case h1 => walk_at "hp"))
  | ((with_reducible refine' r_slL ?h1 ?_); (case h1 => walk_at "sq"); intro _ _)
  | ((with_reducible refine' r_append ?h1 ?h2 ?_); (case h1 => walk_at "hp"); (case h2 => exact szl (by first | omega | (simp; omega))))
  | ((with_reducible refine' r_gtup ?h1 ?h2 ?_); (case h1 => walk_at "sq"); (case h2 => rfl))
  | ((with_reducible refine' r_cat ?h1 ?h2 ?h3 ?_); (case h1 => walk_at "hp"); (case h2 => walk_at "hp"); (case h3 => exact sz (by first | omega | (simp; omega))); intro _ _)
  | ((with_reducible refine' r_wLst ?h1 ?_); (case h1 => walk_at "sq")) | ((with_reducible refine' r_wTup ?h1 ?_); (case h1 => walk_at "sq"))
  | ((with_reducible refine' r_wRng ?h1 ?_); (case h1 => walk_at "sd"))
  | ((with_reducible refine' r_truL ?h1 ?_); (case h1 => walk_at "sq"))
  | ((with_reducible refine' r_list (Or.inl ?h1) ?_); (case h1 => walk_at "sq"); intro _ _) | ((with_reducible refine' r_list (Or.inr ?h1) ?_); (case h1 => walk_at "sq"); intro _ _)
  | ((with_reducible refine' r_tupL ?h1 ?_); (case h1 => walk_at "sq"); intro _ _) | ((with_reducible refine' r_tupT ?h1 ?_); (case h1 => walk_at "sq"))
  | ((with_reducible refine' r_disp ?h1 ?_); (case h1 => exact Nat.le_of_ble_eq_true rfl); intro _ _)
  | ((with_reducible refine r_dnewK ?_); intro _ _)
  | ((with_reducible refine' r_tyL ?h1 ?_); (case h1 => walk_at "sq")) | with_reducible refine r_strV ?_
  | with_reducible refine r_exb ?_ | with_reducible refine r_exi ?_ | with_reducible refine r_exr ?_ | with_reducible refine r_exs ?_ | with_reducible refine r_exli ?_)
local macro_rules | `(tactic| walk_at "go") => `(tactic| repeat walk_at "st")
local macro_rules | `(tactic| walk_at "in") => `(tactic| dsimp only [noxK, cxK, L2.start, List.map_cons, List.map_nil, List.length_cons, List.length_nil, Nat.reduceAdd, Nat.reduceSub, List.replicate, List.cons_append, List.nil_append])

section
variable {P : Program} {w : World} {K : PySem.W.Frag} {mg : Str → Option Value} {base : Heap}
abbrev sRising : Stmt := top 21
theorem scRising : FnScope ["_law_rows_so", "_law_done", "_law_row", "_law_at_so", "_law_own"] ["_law_rows_so"] (defScope sRising) := ⟨rfl, rfl, rfl, by decide +kernel, rfl, by decide +kernel, by decide +kernel⟩
def spRising (K : PySem.W.Frag) : Sp := fun vs H Q _ => ∃ (l : Addr) (xs : List V) (ps : AL), vs = [.ref l] ∧ SqL K H l xs ∧ Paired (PrA H) xs ps ∧ xs.length ≤ 1000 ∧
  ∀ (p : Addr) (ys : List V) (qs : AL) (H' : Hp), H p = none → H' p = some (.lst ys) → Paired (PrA H') ys qs → qs.Perm ps → qs.Pairwise (fun a b => ple a b = true) → Same H H' → Q (.ref p) H'
theorem ok_rising {f : Addr} {fd : FuncData} (F : Fun K "_law_rising" "_law_rising" sRising f fd) (T : Txt K mg) : FnOk P w K mg base CX0 1 f fd ["_law_rows_so"] (spRising K) := by
  refine F.ok scRising (fun vs H Q E h => ?_) (fun cdv A outer s H vs Q E hr h => ?_)
  · obtain ⟨l, xs, ps, rfl, _⟩ := h
    rfl
  · obtain ⟨l, xs, ps, rfl, hl, hps, h1000, q⟩ := h
    refine ⟨_, (pss_cons (ps_set (i := 1) scRising.nd rfl (Or.inl rfl) (pe_lst pa_nil))
  (pss_cons (ps_for PassesOwn.never rfl (pi_list (pv 0)) (pg_name (i := 2) scRising.nd rfl (Or.inr rfl))
  (Evl.pss_cut (ps_set (i := 3) scRising.nd rfl (Or.inl rfl) (pe_callB c_lenL (by rfl) T.len (by decide +kernel) (pa_cons (pe_lc (own := [("_law_own", 4)]) (g := gName 4) rfl scRising.nd (pi_list (pv 1)) (blkOk_by (N := ["_law_rows_so", "_law_done", "_law_row", "_law_at_so", "_law_own"]) (sc := defScope sRising) (by decide +kernel)) (fun _ _ _ _ _ => (pg_name (i := 4) scRising.nd rfl (Or.inl rfl))) (fun _ _ _ _ _ => (pts_one (pt_cmpR (opK (r := rLeP) K (o_leP hr.units0)) (pv 4) (pv 2) (nomark _)))) (fun _ _ _ _ _ => pe_int)) pa_nil)))
  (pss_one (ps_set (i := 1) scRising.nd rfl (Or.inl rfl) (pe_op op_cat (pe_op op_cat (pe_slice sl_list (pv 1) po_none (po_some (pv 3))) (pe_lst (pa_cons (pv 2) pa_nil))) (pe_slice sl_list (pv 1) (po_some (pv 3)) po_none))))))
  (pss_one (ps_ret (pv 1))))), ?_⟩
    walk_at "in"
    walk_at "go"
    rename_i d0 hd0
    have lps := Paired.len hps
    refine for_it (walk_list (xs := xs)) (fun i σ H' => ∃ (d : Addr) (ds : List V) (qs : AL) (x2 x3 : Option V), σ = [some (.ref l), some (.ref d), x2, x3, none] ∧ H d = none ∧ H' d = some (.lst ds) ∧ Paired (PrA H') ds qs ∧ qs.Perm (ps.take i) ∧ qs.Pairwise (fun a b => ple a b = true) ∧ Same H H') ?_ ?_ ?_ ?_
    · exact ⟨d0, [], [], none, none, rfl, hd0, upd_same, .nil, List.Perm.refl _, List.Pairwise.nil, fun c o e => by walk_at "hp"⟩
    · rintro i σ H' _ ⟨_, _, _, _, _, _, _, _, _, _, _, s1⟩
      exact s1.seq hl
    · rintro i x σ _ H1 hi ⟨d, ds, qs, x2, x3, rfl, hd, hd1, hds, pm, pw, s1⟩ ⟨rfl, hx⟩
      obtain ⟨p, hp, hxp⟩ := Paired.at hps hx
      have lds : ds.length ≤ 1000 := by have := Paired.len hds; have := pm.length_eq; rw [List.length_take] at this; omega
      walk_at "go"
      refine ⟨fun σ' H' => σ' = [some (.ref l), some (.ref d), some x, some (.int (cnt ple qs p : Nat)), none] ∧ H' d = some (.lst ds) ∧ Same H1 H', ?_, ?_⟩
      · walk_at "go"
        intro D hD
        refine lc_it (walk_list (xs := ds)) (fun j H' => H' D = some (.lst (List.replicate (((qs.take j).filter fun q => ple q p).length) (V.int 1))) ∧ H' d = some (.lst ds) ∧ Same H1 H') ?_ ?_ ?_ ?_
        · exact ⟨upd_same, by walk_at "hp", fun c o e => by walk_at "hp"⟩
        · rintro j H' _ ⟨_, h, _⟩
          exact SqL.of h
        · rintro j y _ H2 hj ⟨hD2, hd2, s2⟩ ⟨rfl, hy⟩
          obtain ⟨r, hr2, hyr⟩ := Paired.at hds hy
          obtain ⟨t1, rfl, ht1⟩ := hxp
          obtain ⟨t2, rfl, ht2⟩ := hyr
          walk_at "go"
          refine ⟨rfl, ?_⟩
          walk_at "go"
          refine r_leP (p := r) (q := p) (SqT.of (s2 _ _ ht2)) (SqT.of (s2 _ _ (s1 _ _ ht1))) ?_
          walk_at "go"
          have ef := filter_take (f := fun q => ple q p) hr2
          cases hc : ple r p with
          | true =>
            rw [hc, if_pos rfl] at ef
            refine iteT ?_
            walk_at "go"
            refine ⟨_, hD2, szl (by rw [List.length_replicate]; have := List.length_filter_le (fun q => ple q p) (qs.take j); rw [List.length_take] at this; omega), ?_, ?_, fun c o e => ?_⟩
            · rw [ef, List.replicate_succ']
              exact upd_same
            · have n1 : d ≠ D := ne_of_none hd1 hD
              walk_at "hp"
            · have n1 : c ≠ D := ne_of_none e hD
              walk_at "hp"
          | false =>
            rw [hc, if_neg (by decide)] at ef
            refine iteF ?_
            rw [ef]
            exact ⟨hD2, hd2, s2⟩
        · rintro H2 ⟨hD2, hd2, s2⟩
          walk_at "go"
          have e1 : qs.take ds.length = qs := by rw [Paired.len hds, List.take_length]
          rw [List.length_replicate, e1]
          exact ⟨rfl, hd2, s2⟩
      · rintro σ2 H2 ⟨rfl, hd2, s2⟩
        have hc := cnt_le ple qs p
        have lq := Paired.len hds
        obtain ⟨t1, rfl, ht1⟩ := hxp
        generalize hcn : cnt ple qs p = c at hc
        walk_at "go"
        rename_i p1 hp1 p2 hp2
        have e1 : cutV ds none (some (c : Int)) = ds.take c := cutV_to ds c
        have e2 : cutV ds (some (c : Int)) none = ds.drop c := cutV_from ds c
        rw [e1] at hp2 ⊢
        refine r_cat (by walk_at "hp") (by walk_at "hp") (sz (by rw [List.length_take]; show _ + 1 ≤ _; omega)) fun p3 hp3 => ?_
        walk_at "go"
        rename_i p4 hp4
        rw [e2] at ⊢
        refine r_cat (by walk_at "hp") (by walk_at "hp") (sz (by rw [List.length_append, List.length_take, List.length_drop]; show _ + 1 + _ ≤ _; omega)) fun p5 hp5 => ?_
        have s3 : Same H1 (upd (upd (upd (upd (upd H2 p1 (.lst (ds.take c))) p2 (.lst [V.ref t1])) p3 (.lst (ds.take c ++ [V.ref t1]))) p4 (.lst (ds.drop c))) p5 (.lst (ds.take c ++ [V.ref t1] ++ ds.drop c))) := fun c o e => by walk_at "hp"
        obtain ⟨i1, _, _⟩ := put_rising ple_total (fun {p q r} => ple_trans) p pw
        rw [hcn] at i1
        refine ⟨p5, ds.take c ++ [V.ref t1] ++ ds.drop c, qs.take c ++ [p] ++ qs.drop c, _, _, rfl, ?_, upd_same, ?_, ?_, i1, s1.trans s3⟩
        · exact s1.free (Same.free (fun c o e => by walk_at "hp") hp5)
        · exact Paired.app (Paired.app (PrA.all (Paired.tk c hds) s3) (.cons ⟨t1, rfl, s3 _ _ (s1 _ _ ht1)⟩ .nil)) (PrA.all (Paired.dr c hds) s3)
        · refine (perm_in qs p c).trans ?_
          rw [List.take_add_one, hp]
          exact List.Perm.append_right _ pm
    · rintro σ H1 ⟨d, ds, qs, x2, x3, rfl, hd, hd1, hds, pm, pw, s1⟩
      walk_at "go"
      refine q d ds qs H1 hd hd1 hds ?_ pw s1
      rw [lps, List.take_length] at pm
      exact pm
end
end My

namespace My
open PySem L2
local macro_rules | `(tactic| walk_at "bx1") => `(tactic| first | with_reducible assumption | ((with_reducible refine' Bx.upd ?h1 ?h2); (case h1 => walk_at "bx1"); (case h2 => walk_at "ne")) | ((with_reducible refine' Bx.same ?h1 (by with_reducible assumption)); (case h1 => walk_at "bx1")))
local macro_rules | `(tactic| walk_at "bx") => `(tactic| (refine' Bx.mono ?h1 ?h2; (case h1 => walk_at "bx1"); (case h2 => omega)))
local macro_rules | `(tactic| walk_at "ne") => `(tactic| first | with_reducible assumption | exact Ne.symm (by with_reducible assumption) | ((with_reducible refine' ne_of_none ?h1 (by with_reducible assumption)); (case h1 => walk_at "hp")) | ((with_reducible refine' Ne.symm (ne_of_none ?h1 (by with_reducible assumption))); (case h1 => walk_at "hp")) | ((with_reducible refine' Bx.ne ?h1 (by with_reducible assumption)); (case h1 => walk_at "bx1")) | ((with_reducible refine' Ne.symm (Bx.ne ?h1 (by with_reducible assumption))); (case h1 => walk_at "bx1")))
local macro_rules | `(tactic| walk_at "hp") => `(tactic| first | with_reducible assumption | ((with_reducible refine' (upd_same.trans ?h1)); (case h1 => rfl)) | ((with_reducible refine' My.upd_at ?h1 ?h2); (case h1 => walk_at "hp"); (case h2 => walk_at "ne")) | ((with_reducible refine' My.Kp.at (by with_reducible assumption) ?h1 ?h2); (case h1 => walk_at "hp"); (case h2 => walk_at "ne")) | ((with_reducible refine' My.Same.at (by with_reducible assumption) ?h1); (case h1 => walk_at "hp")))
local macro_rules | `(tactic| walk_at "sq") => `(tactic| first | with_reducible assumption | exact SqL.of (by walk_at "hp") | exact SqT.of (by walk_at "hp") | ((with_reducible refine' My.SqT.upd ?h1 (by with_reducible assumption)); (case h1 => walk_at "sq")) | ((with_reducible refine' My.SqL.upd ?h1 (by with_reducible assumption)); (case h1 => walk_at "sq")) | ((with_reducible refine' Same.seq (by with_reducible assumption) ?h1); (case h1 => walk_at "sq")) | ((with_reducible refine' My.SqT.same ?h1 (by with_reducible assumption)); (case h1 => walk_at "sq")) | ((with_reducible refine' My.SqT.kp ?h1 (by with_reducible assumption) ?h2); (case h1 => walk_at "sq"); (case h2 => walk_at "bx1")) | ((with_reducible refine' My.SqL.kp ?h1 (by with_reducible assumption) ?h2); (case h1 => walk_at "sq"); (case h2 => walk_at "ne")))
local macro_rules | `(tactic| walk_at "sd") => `(tactic| first | assumption | omega | decide | (refine ⟨?_, ?_⟩ <;> (first | omega | decide)) | (refine Or.inl ⟨?_, ?_⟩ <;> (first | omega | decide)) | (refine Or.inr ⟨?_, ?_⟩ <;> (first | omega | decide)) | (refine ⟨?_, ?_, ?_⟩ <;> (first | omega | decide)))
local macro_rules | `(tactic| walk_at "ps") => `(tactic| first
  | with_reducible refine r_seq ?_ | with_reducible refine r_asg ?_ | with_reducible refine r_op ?_ | with_reducible refine r_cons ?_ | with_reducible refine r_nil ?_ | with_reducible refine r_c ?_
  | with_reducible refine' r_var rfl ?_ | with_reducible refine r_gname ?_ | with_reducible refine r_cb ?_ | with_reducible refine r_I0 ?_ | with_reducible refine r_ret ?_ | with_reducible refine r_ifS ?_ | with_reducible refine r_test ?_ | with_reducible refine r_B ?_
  | with_reducible refine r_next ?_ | with_reducible refine r_drop ?_ | with_reducible refine r_if ?_ | with_reducible refine r_un ?_ | with_reducible refine r_U ?_ | with_reducible refine r_gsub ?_ | with_reducible refine r_tup ?_ | with_reducible refine r_lst ?_ | with_reducible refine r_bm ?_
  | with_reducible refine r_cal ?_ | with_reducible refine r_not ?_ | with_reducible refine r_and ?_ | with_reducible refine r_or ?_ | with_reducible refine r_andV ?_ | with_reducible refine r_orV ?_ | with_reducible refine r_notV ?_
  | with_reducible refine r_abs ?_ | with_reducible refine r_intI ?_ | with_reducible refine r_intB ?_ | with_reducible refine r_m1 ?_ | with_reducible refine r_slice ?_ | with_reducible refine r_part ?_ | with_reducible refine r_nopart ?_
  | with_reducible refine r_gcons ?_ | with_reducible refine r_gnil ?_
  | with_reducible refine r_par ?_ | with_reducible refine r_par3 ?_ | with_reducible refine r_ex2 ?_ | with_reducible refine r_ex3 ?_
  | with_reducible refine r_isN ?_ | with_reducible refine r_notN ?_
  | with_reducible refine r_iZipA ?_
  | with_reducible refine r_dget ?_ | with_reducible refine r_dget2 ?_ | with_reducible refine r_iKeys ?_ | with_reducible refine r_dput ?_
  | with_reducible refine r_for ?_ | with_reducible refine r_lc ?_ | with_reducible refine r_iList ?_ | with_reducible refine r_iTup ?_ | with_reducible refine r_iRng1 ?_ | with_reducible refine r_iEnum ?_ | with_reducible refine r_orT ?_ | with_reducible refine r_yes ?_ | with_reducible refine r_ixSl ?_)
local macro_rules | `(tactic| walk_at "st") => `(tactic| first
  | walk_at "ps"
  | ((with_reducible refine' r_ixL ?h1 ?h2 ?_); (case h1 => walk_at "sq"); (case h2 => rfl))
  | ((with_reducible refine' r_setL ?h1 ?h2 ?_); (case h1 => walk_at "hp"); (case h2 => rfl))
  | ((with_reducible refine' r_I ?h1 ?_); (case h1 => walk_at "sd"))
  | ((with_reducible refine' r_eq ?h1 ?_); (case h1 => rfl)) | ((with_reducible refine' r_ne ?h1 ?_); (case h1 => rfl))
  | ((with_reducible refine' r_lenL ?h1 ?_); (case h1 => walk_at "sq")) | ((with_reducible refine' r_lenT ?h1 ?_); (case h1 => walk_at "sq")) | ((with_reducible refine' r_lenD ?h1 ?_); (case h1 => walk_at "hp"))
  | ((with_reducible refine' r_slL ?h1 ?_); (case h1 => walk_at "sq"); intro _ _)
  | ((with_reducible refine' r_append ?h1 ?h2 ?_); (case h1 => walk_at "hp"); (case h2 => exact szl (by first | omega | (simp; omega))))
  | ((with_reducible refine' r_gtup ?h1 ?h2 ?_); (case h1 => walk_at "sq"); (case h2 => rfl))
  | ((with_reducible refine' r_cat ?h1 ?h2 ?h3 ?_); (case h1 => walk_at "hp"); (case h2 => walk_at "hp"); (case h3 => exact sz (by first | omega | (simp; omega))); intro _ _)
  | ((with_reducible refine' r_wLst ?h1 ?_); (case h1 => walk_at "sq")) | ((with_reducible refine' r_wTup ?h1 ?_); (case h1 => walk_at "sq"))
  | ((with_reducible refine' r_wRng ?h1 ?_); (case h1 => walk_at "sd"))
  | ((with_reducible refine' r_truL ?h1 ?_); (case h1 => walk_at "sq"))
  | ((with_reducible refine' r_list (Or.inl ?h1) ?_); (case h1 => walk_at "sq"); intro _ _) | ((with_reducible refine' r_list (Or.inr ?h1) ?_); (case h1 => walk_at "sq"); intro _ _)
  | ((with_reducible refine' r_tupL ?h1 ?_); (case h1 => walk_at "sq"); intro _ _) | ((with_reducible refine' r_tupT ?h1 ?_); (case h1 => walk_at "sq"))
  | ((with_reducible refine' r_disp ?h1 ?_); (case h1 => exact Nat.le_of_ble_eq_true rfl); intro _ _)
  | ((with_reducible refine r_dnewK ?_); intro _ _)
  | ((with_reducible refine' r_tyL ?h1 ?_); (case h1 => walk_at "sq")) | with_reducible refine r_strV ?_
  | with_reducible refine r_exb ?_ | with_reducible refine r_exi ?_ | with_reducible refine r_exr ?_ | with_reducible refine r_exs ?_ | with_reducible refine r_exli ?_)
local macro_rules | `(tactic| walk_at "go") => `(tactic| repeat walk_at "st")
local macro_rules | `(tactic| walk_at "in") => `(tactic| dsimp only [noxK, cxK, L2.start, List.map_cons, List.map_nil, List.length_cons, List.length_nil, Nat.reduceAdd, Nat.reduceSub, List.replicate, List.cons_append, List.nil_append])

section
variable {P : Program} {w : World} {K : PySem.W.Frag} {mg : Str → Option Value} {base : Heap}
abbrev sPairs : Stmt := top 24
theorem scPairs : FnScope ["_law_numbers_so", "_law_done", "_law_own"] ["_law_numbers_so"] (defScope sPairs) := ⟨rfl, rfl, rfl, by decide +kernel, rfl, by decide +kernel, by decide +kernel⟩
def spPairs : Sp := fun vs H Q _ => ∃ (d : Addr) (m : AL), vs = [.ref d] ∧ H d = some (.dK (enc m)) ∧ (keys m).Nodup ∧ m.length ≤ 1000 ∧
  ∀ (p : Addr) (ts : List V) (qs : AL) (H' : Hp), H p = none → H' p = some (.tup ts) → Paired (PrA H') ts qs → Cn m qs → Same H H' → Q (.ref p) H'
theorem ok_pairs {f : Addr} {fd : FuncData} (F : Fun K "_law_pairs" "_law_pairs" sPairs f fd) (T : Txt K mg) (Cr : Cal P w K mg base CX0 1 "_law_rising" ["_law_rows_so"] (spRising K)) : FnOk P w K mg base CX0 2 f fd ["_law_numbers_so"] spPairs := by
  refine F.ok scPairs (fun vs H Q E h => ?_) (fun cdv A outer s H vs Q E hr h => ?_)
  · obtain ⟨d, m, rfl, _⟩ := h
    rfl
  · obtain ⟨d, m, rfl, hd, nd, h1000, q⟩ := h
    have hu := hu_of hr
    refine ⟨_, (Evl.pss_cut (ps_lock (ps_setLc (i := 1) (own := [("_law_own", 2)]) (g := gName 2) rfl scPairs.nd rfl rfl (sw_true rfl rfl rfl (by decide +kernel)) (pi_keys (pv 0)) (blkOk_by (N := ["_law_numbers_so", "_law_done", "_law_own"]) (sc := defScope sPairs) (by decide +kernel)) (fun _ _ _ _ _ => (pg_name (i := 2) scPairs.nd rfl (Or.inl rfl))) (fun _ _ _ _ _ => (pts_one (pt_cmpR op_gt (pe_dget hu (pv 0) (pv 2) (fun _ _ => rfl)) pe_int (nomark _)))) (fun _ _ _ _ _ => (pe_tup (pa_cons (pv 2) (pa_cons (pe_dget hu (pv 0) (pv 2) (fun _ _ => rfl)) pa_nil))))))
  (pss_one (ps_ret (pe_callTy c_tupL (by rfl) T.tuple (by decide +kernel) (pa_cons (pe_cal Cr hr pass0 (pa_cons (pv 1) pa_nil)) pa_nil))))), ?_⟩
    walk_at "in"
    refine ⟨fun σ' H' => ∃ (D : Addr) (xs : List V), σ' = [some (.ref d), some (.ref D), none] ∧ H D = none ∧ H' D = some (.lst xs) ∧ Paired (PrA H') xs (pos m) ∧ Same H H', ?_, ?_⟩
    · refine r_lock hd trivial fun od => ?_
      walk_at "go"
      refine ⟨d, od, rfl, Or.inl ⟨enc m, upd_same, ?_⟩⟩
      intro D hD
      have nDd : D ≠ d := fun z => by rw [z, upd_same] at hD; cases hD
      have hD0 : H D = none := by rw [upd_ne nDd] at hD; exact hD
      refine lc_it (walk_keys (kvs := enc m)) (fun i H' => ∃ xs, H' D = some (.lst xs) ∧ Paired (PrA H') xs (pos (m.take i)) ∧ H' d = some (.frz od (.dK (enc m))) ∧ Kp d H H') ?_ ?_ ?_ ?_
      · exact ⟨[], upd_same, .nil, by walk_at "hp", fun c o e n => by walk_at "hp"⟩
      · rintro i H' _ ⟨_, _, _, h, _⟩
        exact h
      · rintro i x _ H1 hi ⟨xs, hD1, hxs, hd1, kp1⟩ ⟨rfl, k, v, hkv, rfl⟩
        obtain ⟨p, hp, rfl, rfl⟩ := enc_at hkv
        walk_at "go"
        refine ⟨rfl, ?_⟩
        walk_at "go"
        have hg : DGet H1 d (.str p.1) (some (.int p.2)) := DGet_enc (r := some p.2) (Or.inr ⟨od, hd1⟩) (look_at nd hp)
        refine ⟨d, .int p.2, rfl, hg, ?_⟩
        walk_at "go"
        have ep := pos_take hp
        refine ite_d (fun c => ?_) (fun c => ?_)
        · rw [if_pos c] at ep
          walk_at "go"
          refine ⟨d, .int p.2, rfl, hg, ?_⟩
          walk_at "go"
          rename_i t ht
          have n1 : D ≠ t := ne_of_none hD1 ht
          have n2 : d ≠ t := ne_of_none hd1 ht
          have n3 : d ≠ D := Ne.symm nDd
          have k2 : Kp D H1 (upd (upd H1 t (.tup [V.str p.1, V.int p.2])) D (.lst (xs ++ [V.ref t]))) := fun c o e n => by walk_at "hp"
          refine ⟨xs, by walk_at "hp", szl (by have := Paired.len hxs; have h2 := List.length_filter_le (fun p : Str × Int => decide (0 < p.2)) (m.take i); have h3 : xs.length ≤ (m.take i).length := Nat.le_trans (Nat.le_of_eq this) h2; rw [List.length_take] at h3; omega), xs ++ [V.ref t], upd_same, ?_, by walk_at "hp", fun c o e n => ?_⟩
          · rw [ep]
            exact Paired.app (PrA.kpdAll hxs k2 hD1 (fun _ z => by cases z)) (.cons ⟨t, rfl, by walk_at "hp"⟩ .nil)
          · have n4 : c ≠ D := ne_of_none e hD0
            walk_at "hp"
        · rw [if_neg c, List.append_nil] at ep
          rw [ep]
          exact ⟨xs, hD1, hxs, hd1, kp1⟩
      · rintro H1 ⟨xs, hD1, hxs, hd1, kp1⟩
        walk_at "go"
        have k2 : Kp d H1 (upd H1 d (.dK (enc m))) := fun c o e n => by walk_at "hp"
        rw [enc_len, List.take_length] at hxs
        refine ⟨hd1, D, xs, rfl, hD0, by walk_at "hp", PrA.kpdAll hxs k2 hd1 (fun _ z => by cases z), fun c o e => ?_⟩
        by_cases n : c = d
        · subst n
          rw [hd] at e
          rw [← Option.some.inj e]
          exact upd_same
        · walk_at "hp"
    · rintro σ1 H1 ⟨D, xs, rfl, hD, hD1, hxs, s1⟩
      walk_at "go"
      refine ⟨D, xs, pos m, rfl, SqL.of hD1, hxs, by rw [Paired.len hxs]; have := List.length_filter_le (fun p : Str × Int => decide (0 < p.2)) m; exact Nat.le_trans this h1000, fun l ys qs H2 hl hl2 hys pm pw s2 => ?_⟩
      walk_at "go"
      rename_i t ht
      have s3 : Same H2 (upd H2 t (.tup ys)) := fun c o e => by walk_at "hp"
      exact q t ys qs _ (s1.free (s2.free ht)) upd_same (PrA.all hys s3) ⟨pm, pw⟩ ((s1.trans s2).trans s3)
end
end My

namespace My
open PySem L2
local macro_rules | `(tactic| walk_at "bx1") => `(tactic| first | with_reducible assumption | ((with_reducible refine' Bx.upd ?h1 ?h2); (case h1 => walk_at "bx1"); (case h2 => walk_at "ne")) | ((with_reducible refine' Bx.same ?h1 (by with_reducible assumption)); (case h1 => walk_at "bx1")))
local macro_rules | `(tactic| walk_at "bx") => `(tactic| (refine' Bx.mono ?h1 ?h2; (case h1 => walk_at "bx1"); (case h2 => omega)))
local macro_rules | `(tactic| walk_at "ne") => `(tactic| first | with_reducible assumption | exact Ne.symm (by with_reducible assumption) | ((with_reducible refine' ne_of_none ?h1 (by with_reducible assumption)); (case h1 => walk_at "hp")) | ((with_reducible refine' Ne.symm (ne_of_none ?h1 (by with_reducible assumption))); (case h1 => walk_at "hp")) | ((with_reducible refine' Bx.ne ?h1 (by with_reducible assumption)); (case h1 => walk_at "bx1")) | ((with_reducible refine' Ne.symm (Bx.ne ?h1 (by with_reducible assumption))); (case h1 => walk_at "bx1")))
local macro_rules | `(tactic| walk_at "hp") => `(tactic| first | with_reducible assumption | ((with_reducible refine' (upd_same.trans ?h1)); (case h1 => rfl)) | ((with_reducible refine' My.upd_at ?h1 ?h2); (case h1 => walk_at "hp"); (case h2 => walk_at "ne")) | ((with_reducible refine' My.Kp.at (by with_reducible assumption) ?h1 ?h2); (case h1 => walk_at "hp"); (case h2 => walk_at "ne")) | ((with_reducible refine' My.Same.at (by with_reducible assumption) ?h1); (case h1 => walk_at "hp")))
local macro_rules | `(tactic| walk_at "sq") => `(tactic| first | with_reducible assumption | exact SqL.of (by walk_at "hp") | exact SqT.of (by walk_at "hp") | ((with_reducible refine' My.SqT.upd ?h1 (by with_reducible assumption)); (case h1 => walk_at "sq")) | ((with_reducible refine' My.SqL.upd ?h1 (by with_reducible assumption)); (case h1 => walk_at "sq")) | ((with_reducible refine' Same.seq (by with_reducible assumption) ?h1); (case h1 => walk_at "sq")) | ((with_reducible refine' My.SqT.same ?h1 (by with_reducible assumption)); (case h1 => walk_at "sq")) | ((with_reducible refine' My.SqT.kp ?h1 (by with_reducible assumption) ?h2); (case h1 => walk_at "sq"); (case h2 => walk_at "bx1")) | ((with_reducible refine' My.SqL.kp ?h1 (by with_reducible assumption) ?h2); (case h1 => walk_at "sq"); (case h2 => walk_at "ne")))
local macro_rules | `(tactic| walk_at "sd") => `(tactic| first | assumption | omega | decide | (refine ⟨?_, ?_⟩ <;> (first | omega | decide)) | (refine Or.inl ⟨?_, ?_⟩ <;> (first | omega | decide)) | (refine Or.inr ⟨?_, ?_⟩ <;> (first | omega | decide)) | (refine ⟨?_, ?_, ?_⟩ <;> (first | omega | decide)))
local macro_rules | `(tactic| walk_at "ps") => `(tactic| first
  | with_reducible refine r_seq ?_ | with_reducible refine r_asg ?_ | with_reducible refine r_op ?_ | with_reducible refine r_cons ?_ | with_reducible refine r_nil ?_ | with_reducible refine r_c ?_
  | with_reducible refine' r_var rfl ?_ | with_reducible refine r_gname ?_ | with_reducible refine r_cb ?_ | with_reducible refine r_I0 ?_ | with_reducible refine r_ret ?_ | with_reducible refine r_ifS ?_ | with_reducible refine r_test ?_ | with_reducible refine r_B ?_
  | with_reducible refine r_next ?_ | with_reducible refine r_drop ?_ | with_reducible refine r_if ?_ | with_reducible refine r_un ?_ | with_reducible refine r_U ?_ | with_reducible refine r_gsub ?_ | with_reducible refine r_tup ?_ | with_reducible refine r_lst ?_ | with_reducible refine r_bm ?_
  | with_reducible refine r_cal ?_ | with_reducible refine r_not ?_ | with_reducible refine r_and ?_ | with_reducible refine r_or ?_ | with_reducible refine r_andV ?_ | with_reducible refine r_orV ?_ | with_reducible refine r_notV ?_
  | with_reducible refine r_abs ?_ | with_reducible refine r_intI ?_ | with_reducible refine r_intB ?_ | with_reducible refine r_m1 ?_ | with_reducible refine r_slice ?_ | with_reducible refine r_part ?_ | with_reducible refine r_nopart ?_
  | with_reducible refine r_gcons ?_ | with_reducible refine r_gnil ?_
  | with_reducible refine r_par ?_ | with_reducible refine r_par3 ?_ | with_reducible refine r_ex2 ?_ | with_reducible refine r_ex3 ?_
  | with_reducible refine r_isN ?_ | with_reducible refine r_notN ?_
  | with_reducible refine r_iZipA ?_
  | with_reducible refine r_dget ?_ | with_reducible refine r_dget2 ?_ | with_reducible refine r_iKeys ?_ | with_reducible refine r_dput ?_
  | with_reducible refine r_for ?_ | with_reducible refine r_lc ?_ | with_reducible refine r_iList ?_ | with_reducible refine r_iTup ?_ | with_reducible refine r_iRng1 ?_ | with_reducible refine r_iEnum ?_ | with_reducible refine r_orT ?_ | with_reducible refine r_yes ?_ | with_reducible refine r_ixSl ?_)
local macro_rules | `(tactic| walk_at "st") => `(tactic| first
  | walk_at "ps"
  | ((with_reducible refine' r_ixL ?h1 ?h2 ?_); (case h1 => walk_at "sq"); (case h2 => rfl))
  | ((with_reducible refine' r_setL ?h1 ?h2 ?_); (case h1 => walk_at "hp"); (case h2 => rfl))
  | ((with_reducible refine' r_I ?h1 ?_); (case h1 => walk_at "sd"))
  | ((with_reducible refine' r_eq ?h1 ?_); (case h1 => rfl)) | ((with_reducible refine' r_ne ?h1 ?_); (case h1 => rfl))
  | ((with_reducible refine' r_lenL ?h1 ?_); (case h1 => walk_at "sq")) | ((with_reducible refine' r_lenT ?h1 ?_); (case h1 => walk_at "sq")) | ((with_reducible refine' r_lenD ?h1 ?_); (case h1 => walk_at "hp"))
  | ((with_reducible refine' r_slL ?h1 ?_); (case h1 => walk_at "sq"); intro _ _)
  | ((with_reducible refine' r_append ?h1 ?h2 ?_); (case h1 => walk_at "hp"); (case h2 => exact szl (by first | omega | (simp; omega))))
  | ((with_reducible refine' r_gtup ?h1 ?h2 ?_); (case h1 => walk_at "sq"); (case h2 => rfl))
  | ((with_reducible refine' r_cat ?h1 ?h2 ?h3 ?_); (case h1 => walk_at "hp"); (case h2 => walk_at "hp"); (case h3 => exact sz (by first | omega | (simp; omega))); intro _ _)
  | ((with_reducible refine' r_wLst ?h1 ?_); (case h1 => walk_at "sq")) | ((with_reducible refine' r_wTup ?h1 ?_); (case h1 => walk_at "sq"))
  | ((with_reducible refine' r_wRng ?h1 ?_); (case h1 => walk_at "sd"))
  | ((with_reducible refine' r_truL ?h1 ?_); (case h1 => walk_at "sq"))
  | ((with_reducible refine' r_list (Or.inl ?h1) ?_); (case h1 => walk_at "sq"); intro _ _) | ((with_reducible refine' r_list (Or.inr ?h1) ?_); (case h1 => walk_at "sq"); intro _ _)
  | ((with_reducible refine' r_tupL ?h1 ?_); (case h1 => walk_at "sq"); intro _ _) | ((with_reducible refine' r_tupT ?h1 ?_); (case h1 => walk_at "sq"))
  | ((with_reducible refine' r_disp ?h1 ?_); (case h1 => exact Nat.le_of_ble_eq_true rfl); intro _ _)
  | ((with_reducible refine r_dnewK ?_); intro _ _)
  | ((with_reducible refine' r_tyL ?h1 ?_); (case h1 => walk_at "sq")) | with_reducible refine r_strV ?_
  | with_reducible refine r_exb ?_ | with_reducible refine r_exi ?_ | with_reducible refine r_exr ?_ | with_reducible refine r_exs ?_ | with_reducible refine r_exli ?_)
local macro_rules | `(tactic| walk_at "go") => `(tactic| repeat walk_at "st")
local macro_rules | `(tactic| walk_at "in") => `(tactic| dsimp only [noxK, cxK, L2.start, List.map_cons, List.map_nil, List.length_cons, List.length_nil, Nat.reduceAdd, Nat.reduceSub, List.replicate, List.cons_append, List.nil_append])

section
variable {P : Program} {w : World} {K : PySem.W.Frag} {mg : Str → Option Value} {base : Heap}
abbrev sCounted : Stmt := top 25
theorem scCounted : FnScope ["_law_pairs_so", "_law_done", "_law_own", "_law_far"] ["_law_pairs_so"] (defScope sCounted) := ⟨rfl, rfl, rfl, by decide +kernel, rfl, by decide +kernel, by decide +kernel⟩
def spCounted (K : PySem.W.Frag) : Sp := fun vs H Q _ => ∃ (l : Addr) (xs : List V) (ps : AL), vs = [.ref l] ∧ SqL K H l xs ∧ Paired (PrA H) xs ps ∧ xs.length ≤ 1000 ∧
  ∀ (d : Addr) (m : AL) (H' : Hp), H d = none → H' d = some (.dK (enc m)) → (keys m).Nodup → (∀ k, get m k = tot ps k) → (∀ k ∈ keys m, k ∈ keys ps) → m.length ≤ xs.length → Same H H' → Q (.ref d) H'
theorem ok_counted {f : Addr} {fd : FuncData} (F : Fun K "_law_counted" "_law_counted" sCounted f fd) (T : Txt K mg) : FnOk P w K mg base CX0 1 f fd ["_law_pairs_so"] (spCounted K) := by
  refine F.ok scCounted (fun vs H Q E h => ?_) (fun cdv A outer s H vs Q E hr h => ?_)
  · obtain ⟨l, xs, ps, rfl, _⟩ := h
    rfl
  · obtain ⟨l, xs, ps, rfl, hl, hps, h1000, q⟩ := h
    have hu := hu_of hr
    refine ⟨_, (pss_cons (ps_set (i := 1) scCounted.nd rfl (Or.inl rfl) pe_dnewK)
  (pss_cons (ps_for PassesOwn.never rfl (pi_list (pv 0)) (pg_tup rfl (pgs_cons (pg_name (i := 2) scCounted.nd rfl (Or.inl rfl)) (pgs_cons (pg_name (i := 3) scCounted.nd rfl (Or.inl rfl)) pgs_nil)))
  (pss_one (ps_dput hu (pv 1) (pv 2) (pe_op op_add (pe_dget2 hu (pv 1) (pv 2) pe_int ⟨rfl, rfl, rfl, rfl⟩) (pv 3)) rfl)))
  (pss_one (ps_ret (pv 1))))), ?_⟩
    walk_at "in"
    walk_at "go"
    rename_i d hd
    have lps := Paired.len hps
    refine for_it (walk_list (xs := xs)) (fun i σ H' => ∃ (m : AL) (x2 x3 : Option V), σ = [some (.ref l), some (.ref d), x2, x3] ∧ H' d = some (.dK (enc m)) ∧ (keys m).Nodup ∧ (∀ k, get m k = tot (ps.take i) k) ∧ (∀ k ∈ keys m, k ∈ keys ps) ∧ m.length ≤ i ∧ Same H H') ?_ ?_ ?_ ?_
    · exact ⟨[], none, none, rfl, upd_same, List.nodup_nil, fun k => rfl, fun k h => by simp [keys] at h, Nat.le_refl _, fun c o e => by walk_at "hp"⟩
    · rintro i σ H' _ ⟨_, _, _, _, _, _, _, _, _, s1⟩
      exact s1.seq hl
    · rintro i x σ _ H1 hi ⟨m, x2, x3, rfl, hm, nd, hg, hk, lm, s1⟩ ⟨rfl, hx⟩
      obtain ⟨p, hp, t, rfl, ht⟩ := Paired.at hps hx
      walk_at "go"
      refine ⟨Or.inl ⟨enc m, Or.inl hm⟩, ?_⟩
      walk_at "go"
      refine ⟨_, DGet_enc (r := look m p.1) (Or.inl hm) rfl, ?_⟩
      rw [get_look]
      walk_at "go"
      refine ⟨d, _, rfl, DPut_enc hm (szl (by omega)), put m p.1 (get m p.1 + p.2), _, _, rfl, upd_same, put_nodup nd, fun k => ?_, fun k h => ?_, ?_, fun c o e => ?_⟩
      · rw [get_put, tot_take hp, ← hg k]
        by_cases c : k = p.1
        · rw [if_pos c, if_pos c.symm, c]
        · rw [if_neg c, if_neg (Ne.symm c), Int.add_zero]
      · rw [keys_put] at h
        have hpk : p.1 ∈ keys ps := List.mem_map.mpr ⟨p, List.mem_of_getElem? hp, rfl⟩
        split at h
        · exact hk k h
        · rcases List.mem_append.mp h with h | h
          · exact hk k h
          · have : k = p.1 := by simpa using h
            rw [this]
            exact hpk
      · have := put_len m p.1 (get m p.1 + p.2)
        omega
      · have n1 : c ≠ d := ne_of_none e hd
        walk_at "hp"
    · rintro σ H1 ⟨m, x2, x3, rfl, hm, nd, hg, hk, lm, s1⟩
      walk_at "go"
      refine q d m H1 hd hm nd (fun k => ?_) hk lm s1
      have e := hg k
      rw [lps, List.take_length] at e
      exact e
end
end My

namespace My
open PySem L2
local macro_rules | `(tactic| walk_at "bx1") => `(tactic| first | with_reducible assumption | ((with_reducible refine' Bx.upd ?h1 ?h2); (case h1 => walk_at "bx1"); (case h2 => walk_at "ne")) | ((with_reducible refine' Bx.same ?h1 (by with_reducible assumption)); (case h1 => walk_at "bx1")))
local macro_rules | `(tactic| walk_at "bx") => `(tactic| (refine' Bx.mono ?h1 ?h2; (case h1 => walk_at "bx1"); (case h2 => omega)))
local macro_rules | `(tactic| walk_at "ne") => `(tactic| first | with_reducible assumption | exact Ne.symm (by with_reducible assumption) | ((with_reducible refine' ne_of_none ?h1 (by with_reducible assumption)); (case h1 => walk_at "hp")) | ((with_reducible refine' Ne.symm (ne_of_none ?h1 (by with_reducible assumption))); (case h1 => walk_at "hp")) | ((with_reducible refine' Bx.ne ?h1 (by with_reducible assumption)); (case h1 => walk_at "bx1")) | ((with_reducible refine' Ne.symm (Bx.ne ?h1 (by with_reducible assumption))); (case h1 => walk_at "bx1")))
local macro_rules | `(tactic| walk_at "hp") => `(tactic| first | with_reducible assumption | ((with_reducible refine' (upd_same.trans ?h1)); (case h1 => rfl)) | ((with_reducible refine' My.upd_at ?h1 ?h2); (case h1 => walk_at "hp"); (case h2 => walk_at "ne")) | ((with_reducible refine' My.Kp.at (by with_reducible assumption) ?h1 ?h2); (case h1 => walk_at "hp"); (case h2 => walk_at "ne")) | ((with_reducible refine' My.Same.at (by with_reducible assumption) ?h1); (case h1 => walk_at "hp")))
local macro_rules | `(tactic| walk_at "sq") => `(tactic| first | with_reducible assumption | exact SqL.of (by walk_at "hp") | exact SqT.of (by walk_at "hp") | ((with_reducible refine' My.SqT.upd ?h1 (by with_reducible assumption)); (case h1 => walk_at "sq")) | ((with_reducible refine' My.SqL.upd ?h1 (by with_reducible assumption)); (case h1 => walk_at "sq")) | ((with_reducible refine' Same.seq (by with_reducible assumption) ?h1); (case h1 => walk_at "sq")) | ((with_reducible refine' My.SqT.same ?h1 (by with_reducible assumption)); (case h1 => walk_at "sq")) | ((with_reducible refine' My.SqT.kp ?h1 (by with_reducible assumption) ?h2); (case h1 => walk_at "sq"); (case h2 => walk_at "bx1")) | ((with_reducible refine' My.SqL.kp ?h1 (by with_reducible assumption) ?h2); (case h1 => walk_at "sq"); (case h2 => walk_at "ne")))
local macro_rules | `(tactic| walk_at "sd") => `(tactic| first | assumption | omega | decide | (refine ⟨?_, ?_⟩ <;> (first | omega | decide)) | (refine Or.inl ⟨?_, ?_⟩ <;> (first | omega | decide)) | (refine Or.inr ⟨?_, ?_⟩ <;> (first | omega | decide)) | (refine ⟨?_, ?_, ?_⟩ <;> (first | omega | decide)))
local macro_rules | `(tactic| walk_at "ps") => `(tactic| first
  | with_reducible refine r_seq ?_ | with_reducible refine r_asg ?_ | with_reducible refine r_op ?_ | with_reducible refine r_cons ?_ | with_reducible refine r_nil ?_ | with_reducible refine r_c ?_
  | with_reducible refine' r_var rfl ?_ | with_reducible refine r_gname ?_ | with_reducible refine r_cb ?_ | with_reducible refine r_I0 ?_ | with_reducible refine r_ret ?_ | with_reducible refine r_ifS ?_ | with_reducible refine r_test ?_ | with_reducible refine r_B ?_
  | with_reducible refine r_next ?_ | with_reducible refine r_drop ?_ | with_reducible refine r_if ?_ | with_reducible refine r_un ?_ | with_reducible refine r_U ?_ | with_reducible refine r_gsub ?_ | with_reducible refine r_tup ?_ | with_reducible refine r_lst ?_ | with_reducible refine r_bm ?_
  | with_reducible refine r_cal ?_ | with_reducible refine r_not ?_ | with_reducible refine r_and ?_ | with_reducible refine r_or ?_ | with_reducible refine r_andV ?_ | with_reducible refine r_orV ?_ | with_reducible refine r_notV ?_
  | with_reducible refine r_abs ?_ | with_reducible refine r_intI ?_ | with_reducible refine r_intB ?_ | with_reducible refine r_m1 ?_ | with_reducible refine r_slice ?_ | with_reducible refine r_part ?_ | with_reducible refine r_nopart ?_
  | with_reducible refine r_gcons ?_ | with_reducible refine r_gnil ?_
  | with_reducible refine r_par ?_ | with_reducible refine r_par3 ?_ | with_reducible refine r_ex2 ?_ | with_reducible refine r_ex3 ?_
  | with_reducible refine r_isN ?_ | with_reducible refine r_notN ?_
  | with_reducible refine r_iZipA ?_
  | with_reducible refine r_dget ?_ | with_reducible refine r_dget2 ?_ | with_reducible refine r_iKeys ?_ | with_reducible refine r_dput ?_
  | with_reducible refine r_for ?_ | with_reducible refine r_lc ?_ | with_reducible refine r_iList ?_ | with_reducible refine r_iTup ?_ | with_reducible refine r_iRng1 ?_ | with_reducible refine r_iEnum ?_ | with_reducible refine r_orT ?_ | with_reducible refine r_yes ?_ | with_reducible refine r_ixSl ?_)
local macro_rules | `(tactic| walk_at "st") => `(tactic| first
  | walk_at "ps"
  | ((with_reducible refine' r_ixL ?h1 ?h2 ?_); (case h1 => walk_at "sq"); (case h2 => rfl))
  | ((with_reducible refine' r_setL ?h1 ?h2 ?_); (case h1 => walk_at "hp"); (case h2 => rfl))
  | ((with_reducible refine' r_I ?h1 ?_); (case h1 => walk_at "sd"))
  | ((with_reducible refine' r_eq ?h1 ?_); (case h1 => rfl)) | ((with_reducible refine' r_ne ?h1 ?_); (case h1 => rfl))
  | ((with_reducible refine' r_lenL ?h1 ?_); (case h1 => walk_at "sq")) | ((with_reducible refine' r_lenT ?h1 ?_); (case h1 => walk_at "sq")) | ((with_reducible refine' r_lenD ?h1 ?_); (case h1 => walk_at "hp"))
  | ((with_reducible refine' r_slL ?h1 ?_); (case h1 => walk_at "sq"); intro _ _)
  | ((with_reducible refine' r_append ?h1 ?h2 ?_); (case h1 => walk_at "hp"); (case h2 => exact szl (by first | omega | (simp; omega))))
  | ((with_reducible refine' r_gtup ?h1 ?h2 ?_); (case h1 => walk_at "sq"); (case h2 => rfl))
  | ((with_reducible refine' r_cat ?h1 ?h2 ?h3 ?_); (case h1 => walk_at "hp"); (case h2 => walk_at "hp"); (case h3 => exact sz (by first | omega | (simp; omega))); intro _ _)
  | ((with_reducible refine' r_wLst ?h1 ?_); (case h1 => walk_at "sq")) | ((with_reducible refine' r_wTup ?h1 ?_); (case h1 => walk_at "sq"))
  | ((with_reducible refine' r_wRng ?h1 ?_); (case h1 => walk_at "sd"))
  | ((with_reducible refine' r_truL ?h1 ?_); (case h1 => walk_at "sq"))
  | ((with_reducible refine' r_list (Or.inl ?h1) ?_); (case h1 => walk_at "sq"); intro _ _) | ((with_reducible refine' r_list (Or.inr ?h1) ?_); (case h1 => walk_at "sq"); intro _ _)
  | ((with_reducible refine' r_tupL ?h1 ?_); (case h1 => walk_at "sq"); intro _ _) | ((with_reducible refine' r_tupT ?h1 ?_); (case h1 => walk_at "sq"))
  | ((with_reducible refine' r_disp ?h1 ?_); (case h1 => exact Nat.le_of_ble_eq_true rfl); intro _ _)
  | ((with_reducible refine r_dnewK ?_); intro _ _)
  | ((with_reducible refine' r_tyL ?h1 ?_); (case h1 => walk_at "sq")) | with_reducible refine r_strV ?_
  | with_reducible refine r_exb ?_ | with_reducible refine r_exi ?_ | with_reducible refine r_exr ?_ | with_reducible refine r_exs ?_ | with_reducible refine r_exli ?_)
local macro_rules | `(tactic| walk_at "go") => `(tactic| repeat walk_at "st")
local macro_rules | `(tactic| walk_at "in") => `(tactic| dsimp only [noxK, cxK, L2.start, List.map_cons, List.map_nil, List.length_cons, List.length_nil, Nat.reduceAdd, Nat.reduceSub, List.replicate, List.cons_append, List.nil_append])

section
variable {P : Program} {w : World} {K : PySem.W.Frag} {mg : Str → Option Value} {base : Heap} {C : Addr}
theorem mem_keys_of {m : AL} {p : Str × Int} (h : p ∈ m) : p.1 ∈ keys m := List.mem_map.mpr ⟨p, h, rfl⟩
theorem put_pos {m : AL} {k : Str} {n : Int} (h : ∀ p ∈ m, 0 < p.2) (hn : 0 < n) : ∀ p ∈ put m k n, 0 < p.2 := by
  intro p hp
  unfold put at hp
  split at hp
  · obtain ⟨q, hq, e⟩ := List.mem_map.mp hp
    split at e
    · rw [← e]
      exact hn
    · rw [← e]
      exact h q hq
  · rcases List.mem_append.mp hp with z | z
    · exact h p z
    · rw [List.mem_singleton.mp z]
      exact hn
abbrev sOwnCounted : Stmt := top 13
theorem scOwnCounted : FnScope ["pairs", "found", "kind", "many"] ["pairs"] (defScope sOwnCounted) := ⟨rfl, rfl, rfl, by decide +kernel, rfl, by decide +kernel, by decide +kernel⟩
def spOwnCounted (K : PySem.W.Frag) : Sp := fun vs H Q _ => ∃ (l : Addr) (xs : List V) (ps : AL), vs = [.ref l] ∧ SqL K H l xs ∧ Paired (PrA H) xs ps ∧ xs.length ≤ 30 ∧ (∀ p ∈ ps, 0 ≤ p.2) ∧
  ∀ (d : Addr) (m : AL) (H' : Hp), H d = none → H' d = some (.dK (enc m)) → (keys m).Nodup → (∀ p ∈ m, 0 < p.2) → (∀ k, get m k = tot ps k) → m.length ≤ xs.length → Same H H' → Q (.ref d) H'
theorem ok_ownCounted {f : Addr} {fd : FuncData} (F : Fun K "_counted" "_counted" sOwnCounted f fd) (T : Txt K mg) : FnOk P w K mg base CX0 1 f fd ["pairs"] (spOwnCounted K) := by
  refine F.ok scOwnCounted (fun vs H Q E h => ?_) (fun cdv A outer s H vs Q E hr h => ?_)
  · obtain ⟨l, xs, ps, rfl, _⟩ := h
    rfl
  · obtain ⟨l, xs, ps, rfl, hl, hps, h30, h0, q⟩ := h
    have hu := hu_of hr
    refine ⟨_, (pss_cons (ps_set (i := 1) scOwnCounted.nd rfl (Or.inl rfl) pe_dnewK)
  (pss_cons (ps_for PassesOwn.never rfl (pi_list (pv 0)) (pg_tup rfl (pgs_cons (pg_name (i := 2) scOwnCounted.nd rfl (Or.inl rfl)) (pgs_cons (pg_name (i := 3) scOwnCounted.nd rfl (Or.inl rfl)) pgs_nil)))
  (pss_cons (ps_if (pt_cmpR op_lt (pv 3) pe_int (nomark _))
  pss_never
  pss_nil)
  (pss_one (ps_if (pt_cmpR op_gt (pv 3) pe_int (nomark _))
  (pss_one (ps_dput hu (pv 1) (pv 2) (pe_op op_add (pe_dget2 hu (pv 1) (pv 2) pe_int ⟨rfl, rfl, rfl, rfl⟩) (pv 3)) rfl))
  pss_nil))))
  (pss_one (ps_ret (pv 1))))), ?_⟩
    walk_at "in"
    walk_at "go"
    rename_i d hd
    have lps := Paired.len hps
    refine for_it (walk_list (xs := xs)) (fun i σ H' => ∃ (m : AL) (x2 x3 : Option V), σ = [some (.ref l), some (.ref d), x2, x3] ∧ H' d = some (.dK (enc m)) ∧ (keys m).Nodup ∧ (∀ p ∈ m, 0 < p.2) ∧ (∀ k, get m k = tot (ps.take i) k) ∧ m.length ≤ i ∧ Same H H') ?_ ?_ ?_ ?_
    · exact ⟨[], none, none, rfl, upd_same, List.nodup_nil, fun p h => by simp at h, fun k => rfl, Nat.le_refl _, fun c o e => by walk_at "hp"⟩
    · rintro i σ H' _ ⟨_, _, _, _, _, _, _, _, _, s1⟩
      exact s1.seq hl
    · rintro i x σ _ H1 hi ⟨m, x2, x3, rfl, hm, nd, mp, hg, lm, s1⟩ ⟨rfl, hx⟩
      obtain ⟨p, hp, t, rfl, ht⟩ := Paired.at hps hx
      have p0 : 0 ≤ p.2 := h0 p (List.mem_of_getElem? hp)
      walk_at "go"
      refine ite_dF (by omega) ?_
      walk_at "go"
      have stp : ∀ k, tot (ps.take (i + 1)) k = tot (ps.take i) k + (if p.1 = k then p.2 else 0) := fun k => tot_take hp k
      refine ite_d (fun c => ?_) (fun c => ?_)
      · walk_at "go"
        refine ⟨Or.inl ⟨enc m, Or.inl hm⟩, ?_⟩
        walk_at "go"
        refine ⟨_, DGet_enc (r := look m p.1) (Or.inl hm) rfl, ?_⟩
        rw [get_look]
        walk_at "go"
        have gnn := get_nn mp nd p.1
        refine ⟨d, _, rfl, DPut_enc hm (szl (by omega)), put m p.1 (get m p.1 + p.2), _, _, rfl, upd_same, put_nodup nd, put_pos mp (by omega), fun k => ?_, ?_, fun c o e => ?_⟩
        · rw [get_put, stp, ← hg k]
          by_cases c : k = p.1
          · rw [if_pos c, if_pos c.symm, c]
          · rw [if_neg c, if_neg (Ne.symm c), Int.add_zero]
        · have := put_len m p.1 (get m p.1 + p.2)
          omega
        · have n1 : c ≠ d := ne_of_none e hd
          walk_at "hp"
      · walk_at "go"
        refine ⟨m, _, _, rfl, hm, nd, mp, fun k => ?_, by omega, s1⟩
        rw [hg k, stp]
        have : p.2 = 0 := by omega
        rw [this]
        split <;> omega
    · rintro σ H1 ⟨m, x2, x3, rfl, hm, nd, mp, hg, lm, s1⟩
      walk_at "go"
      refine q d m H1 hd hm nd mp (fun k => ?_) lm s1
      have e := hg k
      rw [lps, List.take_length] at e
      exact e
end
end My

namespace My
open PySem L2
local macro_rules | `(tactic| walk_at "bx1") => `(tactic| first | with_reducible assumption | ((with_reducible refine' Bx.upd ?h1 ?h2); (case h1 => walk_at "bx1"); (case h2 => walk_at "ne")) | ((with_reducible refine' Bx.same ?h1 (by with_reducible assumption)); (case h1 => walk_at "bx1")))
local macro_rules | `(tactic| walk_at "bx") => `(tactic| (refine' Bx.mono ?h1 ?h2; (case h1 => walk_at "bx1"); (case h2 => omega)))
local macro_rules | `(tactic| walk_at "ne") => `(tactic| first | with_reducible assumption | exact Ne.symm (by with_reducible assumption) | ((with_reducible refine' ne_of_none ?h1 (by with_reducible assumption)); (case h1 => walk_at "hp")) | ((with_reducible refine' Ne.symm (ne_of_none ?h1 (by with_reducible assumption))); (case h1 => walk_at "hp")) | ((with_reducible refine' Bx.ne ?h1 (by with_reducible assumption)); (case h1 => walk_at "bx1")) | ((with_reducible refine' Ne.symm (Bx.ne ?h1 (by with_reducible assumption))); (case h1 => walk_at "bx1")))
local macro_rules | `(tactic| walk_at "hp") => `(tactic| first | with_reducible assumption | ((with_reducible refine' (upd_same.trans ?h1)); (case h1 => rfl)) | ((with_reducible refine' My.upd_at ?h1 ?h2); (case h1 => walk_at "hp"); (case h2 => walk_at "ne")) | ((with_reducible refine' My.Kp.at (by with_reducible assumption) ?h1 ?h2); (case h1 => walk_at "hp"); (case h2 => walk_at "ne")) | ((with_reducible refine' My.Same.at (by with_reducible assumption) ?h1); (case h1 => walk_at "hp")))
local macro_rules | `(tactic| walk_at "sq") => `(tactic| first | with_reducible assumption | exact SqL.of (by walk_at "hp") | exact SqT.of (by walk_at "hp") | ((with_reducible refine' My.SqT.upd ?h1 (by with_reducible assumption)); (case h1 => walk_at "sq")) | ((with_reducible refine' My.SqL.upd ?h1 (by with_reducible assumption)); (case h1 => walk_at "sq")) | ((with_reducible refine' Same.seq (by with_reducible assumption) ?h1); (case h1 => walk_at "sq")) | ((with_reducible refine' My.SqT.same ?h1 (by with_reducible assumption)); (case h1 => walk_at "sq")) | ((with_reducible refine' My.SqT.kp ?h1 (by with_reducible assumption) ?h2); (case h1 => walk_at "sq"); (case h2 => walk_at "bx1")) | ((with_reducible refine' My.SqL.kp ?h1 (by with_reducible assumption) ?h2); (case h1 => walk_at "sq"); (case h2 => walk_at "ne")))
local macro_rules | `(tactic| walk_at "sd") => `(tactic| first | assumption | omega | decide | (refine ⟨?_, ?_⟩ <;> (first | omega | decide)) | (refine Or.inl ⟨?_, ?_⟩ <;> (first | omega | decide)) | (refine Or.inr ⟨?_, ?_⟩ <;> (first | omega | decide)) | (refine ⟨?_, ?_, ?_⟩ <;> (first | omega | decide)))
local macro_rules | `(tactic| walk_at "ps") => `(tactic| first
  | with_reducible refine r_seq ?_ | with_reducible refine r_asg ?_ | with_reducible refine r_op ?_ | with_reducible refine r_cons ?_ | with_reducible refine r_nil ?_ | with_reducible refine r_c ?_
  | with_reducible refine' r_var rfl ?_ | with_reducible refine r_gname ?_ | with_reducible refine r_cb ?_ | with_reducible refine r_I0 ?_ | with_reducible refine r_ret ?_ | with_reducible refine r_ifS ?_ | with_reducible refine r_test ?_ | with_reducible refine r_B ?_
  | with_reducible refine r_next ?_ | with_reducible refine r_drop ?_ | with_reducible refine r_if ?_ | with_reducible refine r_un ?_ | with_reducible refine r_U ?_ | with_reducible refine r_gsub ?_ | with_reducible refine r_tup ?_ | with_reducible refine r_lst ?_ | with_reducible refine r_bm ?_
  | with_reducible refine r_cal ?_ | with_reducible refine r_not ?_ | with_reducible refine r_and ?_ | with_reducible refine r_or ?_ | with_reducible refine r_andV ?_ | with_reducible refine r_orV ?_ | with_reducible refine r_notV ?_
  | with_reducible refine r_abs ?_ | with_reducible refine r_intI ?_ | with_reducible refine r_intB ?_ | with_reducible refine r_m1 ?_ | with_reducible refine r_slice ?_ | with_reducible refine r_part ?_ | with_reducible refine r_nopart ?_
  | with_reducible refine r_gcons ?_ | with_reducible refine r_gnil ?_
  | with_reducible refine r_par ?_ | with_reducible refine r_par3 ?_ | with_reducible refine r_ex2 ?_ | with_reducible refine r_ex3 ?_
  | with_reducible refine r_isN ?_ | with_reducible refine r_notN ?_
  | with_reducible refine r_iZipA ?_
  | with_reducible refine r_dget ?_ | with_reducible refine r_dget2 ?_ | with_reducible refine r_iKeys ?_ | with_reducible refine r_dput ?_
  | with_reducible refine r_for ?_ | with_reducible refine r_lc ?_ | with_reducible refine r_iList ?_ | with_reducible refine r_iTup ?_ | with_reducible refine r_iRng1 ?_ | with_reducible refine r_iEnum ?_ | with_reducible refine r_orT ?_ | with_reducible refine r_yes ?_ | with_reducible refine r_ixSl ?_)
local macro_rules | `(tactic| walk_at "st") => `(tactic| first
  | walk_at "ps"
  | ((with_reducible refine' r_ixL ?h1 ?h2 ?_); (case h1 => walk_at "sq"); (case h2 => rfl))
  | ((with_reducible refine' r_setL ?h1 ?h2 ?_); (case h1 => walk_at "hp"); (case h2 => rfl))
  | ((with_reducible refine' r_I ?h1 ?_); (case h1 => walk_at "sd"))
  | ((with_reducible refine' r_eq ?h1 ?_); (case h1 => rfl)) | ((with_reducible refine' r_ne ?h1 ?_); (case h1 => rfl))
  | ((with_reducible refine' r_lenL ?h1 ?_); (case h1 => walk_at "sq")) | ((with_reducible refine' r_lenT ?h1 ?_); (case h1 => walk_at "sq")) | ((with_reducible refine' r_lenD ?h1 ?_); (case h1 => walk_at "hp"))
  | ((with_reducible refine' r_slL ?h1 ?_); (case h1 => walk_at "sq"); intro _ _)
  | ((with_reducible refine' r_append ?h1 ?h2 ?_); (case h1 => walk_at "hp"); (case h2 => exact szl (by first | omega | (simp; omega))))
  | ((with_reducible refine' r_gtup ?h1 ?h2 ?_); (case h1 => walk_at "sq"); (case h2 => rfl))
  | ((with_reducible refine' r_cat ?h1 ?h2 ?h3 ?_); (case h1 => walk_at "hp"); (case h2 => walk_at "hp"); (case h3 => exact sz (by first | omega | (simp; omega))); intro _ _)
  | ((with_reducible refine' r_wLst ?h1 ?_); (case h1 => walk_at "sq")) | ((with_reducible refine' r_wTup ?h1 ?_); (case h1 => walk_at "sq"))
  | ((with_reducible refine' r_wRng ?h1 ?_); (case h1 => walk_at "sd"))
  | ((with_reducible refine' r_truL ?h1 ?_); (case h1 => walk_at "sq"))
  | ((with_reducible refine' r_list (Or.inl ?h1) ?_); (case h1 => walk_at "sq"); intro _ _) | ((with_reducible refine' r_list (Or.inr ?h1) ?_); (case h1 => walk_at "sq"); intro _ _)
  | ((with_reducible refine' r_tupL ?h1 ?_); (case h1 => walk_at "sq"); intro _ _) | ((with_reducible refine' r_tupT ?h1 ?_); (case h1 => walk_at "sq"))
  | ((with_reducible refine' r_disp ?h1 ?_); (case h1 => exact Nat.le_of_ble_eq_true rfl); intro _ _)
  | ((with_reducible refine r_dnewK ?_); intro _ _)
  | ((with_reducible refine' r_tyL ?h1 ?_); (case h1 => walk_at "sq")) | with_reducible refine r_strV ?_
  | with_reducible refine r_exb ?_ | with_reducible refine r_exi ?_ | with_reducible refine r_exr ?_ | with_reducible refine r_exs ?_ | with_reducible refine r_exli ?_)
local macro_rules | `(tactic| walk_at "go") => `(tactic| repeat walk_at "st")
local macro_rules | `(tactic| walk_at "in") => `(tactic| dsimp only [noxK, cxK, L2.start, List.map_cons, List.map_nil, List.length_cons, List.length_nil, Nat.reduceAdd, Nat.reduceSub, List.replicate, List.cons_append, List.nil_append])

section
variable {P : Program} {w : World} {K : PySem.W.Frag} {mg : Str → Option Value} {base : Heap} {C : Addr}
abbrev sOwnCountedT : Stmt := top 13
theorem scOwnCountedT : FnScope ["pairs", "found", "kind", "many"] ["pairs"] (defScope sOwnCountedT) := ⟨rfl, rfl, rfl, by decide +kernel, rfl, by decide +kernel, by decide +kernel⟩
def spOwnCountedT (K : PySem.W.Frag) : Sp := fun vs H Q _ => ∃ (l : Addr) (xs : List V) (ps : AL), vs = [.ref l] ∧ SqT K H l xs ∧ Paired (PrA H) xs ps ∧ xs.length ≤ 30 ∧ (∀ p ∈ ps, 0 ≤ p.2) ∧
  ∀ (d : Addr) (m : AL) (H' : Hp), H d = none → H' d = some (.dK (enc m)) → (keys m).Nodup → (∀ p ∈ m, 0 < p.2) → (∀ k, get m k = tot ps k) → m.length ≤ xs.length → Same H H' → Q (.ref d) H'
theorem ok_ownCountedT {f : Addr} {fd : FuncData} (F : Fun K "_counted" "_counted" sOwnCountedT f fd) (T : Txt K mg) : FnOk P w K mg base CX0 1 f fd ["pairs"] (spOwnCountedT K) := by
  refine F.ok scOwnCountedT (fun vs H Q E h => ?_) (fun cdv A outer s H vs Q E hr h => ?_)
  · obtain ⟨l, xs, ps, rfl, _⟩ := h
    rfl
  · obtain ⟨l, xs, ps, rfl, hl, hps, h30, h0, q⟩ := h
    have hu := hu_of hr
    refine ⟨_, (pss_cons (ps_set (i := 1) scOwnCountedT.nd rfl (Or.inl rfl) pe_dnewK)
  (pss_cons (ps_for PassesOwn.never rfl (pi_tup (pv 0)) (pg_tup rfl (pgs_cons (pg_name (i := 2) scOwnCountedT.nd rfl (Or.inl rfl)) (pgs_cons (pg_name (i := 3) scOwnCountedT.nd rfl (Or.inl rfl)) pgs_nil)))
  (pss_cons (ps_if (pt_cmpR op_lt (pv 3) pe_int (nomark _))
  pss_never
  pss_nil)
  (pss_one (ps_if (pt_cmpR op_gt (pv 3) pe_int (nomark _))
  (pss_one (ps_dput hu (pv 1) (pv 2) (pe_op op_add (pe_dget2 hu (pv 1) (pv 2) pe_int ⟨rfl, rfl, rfl, rfl⟩) (pv 3)) rfl))
  pss_nil))))
  (pss_one (ps_ret (pv 1))))), ?_⟩
    walk_at "in"
    walk_at "go"
    rename_i d hd
    have lps := Paired.len hps
    refine for_it (walk_tup (xs := xs)) (fun i σ H' => ∃ (m : AL) (x2 x3 : Option V), σ = [some (.ref l), some (.ref d), x2, x3] ∧ H' d = some (.dK (enc m)) ∧ (keys m).Nodup ∧ (∀ p ∈ m, 0 < p.2) ∧ (∀ k, get m k = tot (ps.take i) k) ∧ m.length ≤ i ∧ Same H H') ?_ ?_ ?_ ?_
    · exact ⟨[], none, none, rfl, upd_same, List.nodup_nil, fun p h => by simp at h, fun k => rfl, Nat.le_refl _, fun c o e => by walk_at "hp"⟩
    · rintro i σ H' _ ⟨_, _, _, _, _, _, _, _, _, s1⟩
      exact SqT.same hl s1
    · rintro i x σ _ H1 hi ⟨m, x2, x3, rfl, hm, nd, mp, hg, lm, s1⟩ ⟨rfl, hx⟩
      obtain ⟨p, hp, t, rfl, ht⟩ := Paired.at hps hx
      have p0 : 0 ≤ p.2 := h0 p (List.mem_of_getElem? hp)
      walk_at "go"
      refine ite_dF (by omega) ?_
      walk_at "go"
      have stp : ∀ k, tot (ps.take (i + 1)) k = tot (ps.take i) k + (if p.1 = k then p.2 else 0) := fun k => tot_take hp k
      refine ite_d (fun c => ?_) (fun c => ?_)
      · walk_at "go"
        refine ⟨Or.inl ⟨enc m, Or.inl hm⟩, ?_⟩
        walk_at "go"
        refine ⟨_, DGet_enc (r := look m p.1) (Or.inl hm) rfl, ?_⟩
        rw [get_look]
        walk_at "go"
        have gnn := get_nn mp nd p.1
        refine ⟨d, _, rfl, DPut_enc hm (szl (by omega)), put m p.1 (get m p.1 + p.2), _, _, rfl, upd_same, put_nodup nd, put_pos mp (by omega), fun k => ?_, ?_, fun c o e => ?_⟩
        · rw [get_put, stp, ← hg k]
          by_cases c : k = p.1
          · rw [if_pos c, if_pos c.symm, c]
          · rw [if_neg c, if_neg (Ne.symm c), Int.add_zero]
        · have := put_len m p.1 (get m p.1 + p.2)
          omega
        · have n1 : c ≠ d := ne_of_none e hd
          walk_at "hp"
      · walk_at "go"
        refine ⟨m, _, _, rfl, hm, nd, mp, fun k => ?_, by omega, s1⟩
        rw [hg k, stp]
        have : p.2 = 0 := by omega
        rw [this]
        split <;> omega
    · rintro σ H1 ⟨m, x2, x3, rfl, hm, nd, mp, hg, lm, s1⟩
      walk_at "go"
      refine q d m H1 hd hm nd mp (fun k => ?_) lm s1
      have e := hg k
      rw [lps, List.take_length] at e
      exact e
end
end My

namespace My
open PySem L2
local macro_rules | `(tactic| walk_at "bx1") => `(tactic| first | with_reducible assumption | ((with_reducible refine' Bx.upd ?h1 ?h2); (case h1 => walk_at "bx1"); (case h2 => walk_at "ne")) | ((with_reducible refine' Bx.same ?h1 (by with_reducible assumption)); (case h1 => walk_at "bx1")))
local macro_rules | `(tactic| walk_at "bx") => `(tactic| (refine' Bx.mono ?h1 ?h2; (case h1 => walk_at "bx1"); (case h2 => omega)))
local macro_rules | `(tactic| walk_at "ne") => `(tactic| first | with_reducible assumption | exact Ne.symm (by with_reducible assumption) | ((with_reducible refine' ne_of_none ?h1 (by with_reducible assumption)); (case h1 => walk_at "hp")) | ((with_reducible refine' Ne.symm (ne_of_none ?h1 (by with_reducible assumption))); (case h1 => walk_at "hp")) | ((with_reducible refine' Bx.ne ?h1 (by with_reducible assumption)); (case h1 => walk_at "bx1")) | ((with_reducible refine' Ne.symm (Bx.ne ?h1 (by with_reducible assumption))); (case h1 => walk_at "bx1")))
local macro_rules | `(tactic| walk_at "hp") => `(tactic| first | with_reducible assumption | ((with_reducible refine' (upd_same.trans ?h1)); (case h1 => rfl)) | ((with_reducible refine' My.upd_at ?h1 ?h2); (case h1 => walk_at "hp"); (case h2 => walk_at "ne")) | ((with_reducible refine' My.Kp.at (by with_reducible assumption) ?h1 ?h2); (case h1 => walk_at "hp"); (case h2 => walk_at "ne")) | ((with_reducible refine' My.Same.at (by with_reducible assumption) ?h1); (case h1 => walk_at "hp")))
local macro_rules | `(tactic| walk_at "sq") => `(tactic| first | with_reducible assumption | exact SqL.of (by walk_at "hp") | exact SqT.of (by walk_at "hp") | ((with_reducible refine' My.SqT.upd ?h1 (by with_reducible assumption)); (case h1 => walk_at "sq")) | ((with_reducible refine' My.SqL.upd ?h1 (by with_reducible assumption)); (case h1 => walk_at "sq")) | ((with_reducible refine' Same.seq (by with_reducible assumption) ?h1); (case h1 => walk_at "sq")) | ((with_reducible refine' My.SqT.same ?h1 (by with_reducible assumption)); (case h1 => walk_at "sq")) | ((with_reducible refine' My.SqT.kp ?h1 (by with_reducible assumption) ?h2); (case h1 => walk_at "sq"); (case h2 => walk_at "bx1")) | ((with_reducible refine' My.SqL.kp ?h1 (by with_reducible assumption) ?h2); (case h1 => walk_at "sq"); (case h2 => walk_at "ne")))
local macro_rules | `(tactic| walk_at "sd") => `(tactic| first | assumption | omega | decide | (refine ⟨?_, ?_⟩ <;> (first | omega | decide)) | (refine Or.inl ⟨?_, ?_⟩ <;> (first | omega | decide)) | (refine Or.inr ⟨?_, ?_⟩ <;> (first | omega | decide)) | (refine ⟨?_, ?_, ?_⟩ <;> (first | omega | decide)))
local macro_rules | `(tactic| walk_at "ps") => `(tactic| first
  | with_reducible refine r_seq ?_ | with_reducible refine r_asg ?_ | with_reducible refine r_op ?_ | with_reducible refine r_cons ?_ | with_reducible refine r_nil ?_ | with_reducible refine r_c ?_
  | with_reducible refine' r_var rfl ?_ | with_reducible refine r_gname ?_ | with_reducible refine r_cb ?_ | with_reducible refine r_I0 ?_ | with_reducible refine r_ret ?_ | with_reducible refine r_ifS ?_ | with_reducible refine r_test ?_ | with_reducible refine r_B ?_
  | with_reducible refine r_next ?_ | with_reducible refine r_drop ?_ | with_reducible refine r_if ?_ | with_reducible refine r_un ?_ | with_reducible refine r_U ?_ | with_reducible refine r_gsub ?_ | with_reducible refine r_tup ?_ | with_reducible refine r_lst ?_ | with_reducible refine r_bm ?_
  | with_reducible refine r_cal ?_ | with_reducible refine r_not ?_ | with_reducible refine r_and ?_ | with_reducible refine r_or ?_ | with_reducible refine r_andV ?_ | with_reducible refine r_orV ?_ | with_reducible refine r_notV ?_
  | with_reducible refine r_abs ?_ | with_reducible refine r_intI ?_ | with_reducible refine r_intB ?_ | with_reducible refine r_m1 ?_ | with_reducible refine r_slice ?_ | with_reducible refine r_part ?_ | with_reducible refine r_nopart ?_
  | with_reducible refine r_gcons ?_ | with_reducible refine r_gnil ?_
  | with_reducible refine r_par ?_ | with_reducible refine r_par3 ?_ | with_reducible refine r_ex2 ?_ | with_reducible refine r_ex3 ?_
  | with_reducible refine r_isN ?_ | with_reducible refine r_notN ?_
  | with_reducible refine r_iZipA ?_
  | with_reducible refine r_dget ?_ | with_reducible refine r_dget2 ?_ | with_reducible refine r_iKeys ?_ | with_reducible refine r_dput ?_
  | with_reducible refine r_for ?_ | with_reducible refine r_lc ?_ | with_reducible refine r_iList ?_ | with_reducible refine r_iTup ?_ | with_reducible refine r_iRng1 ?_ | with_reducible refine r_iEnum ?_ | with_reducible refine r_orT ?_ | with_reducible refine r_yes ?_ | with_reducible refine r_ixSl ?_)
local macro_rules | `(tactic| walk_at "st") => `(tactic| first
  | walk_at "ps"
  | ((with_reducible refine' r_ixL ?h1 ?h2 ?_); (case h1 => walk_at "sq"); (case h2 => rfl))
  | ((with_reducible refine' r_setL ?h1 ?h2 ?_); (case h1 => walk_at "hp"); (case h2 => rfl))
  | ((with_reducible refine' r_I ?h1 ?_); (case h1 => walk_at "sd"))
  | ((with_reducible refine' r_eq ?h1 ?_); (case h1 => rfl)) | ((with_reducible refine' r_ne ?h1 ?_); (case h1 => rfl))
  | ((with_reducible refine' r_lenL ?h1 ?_); (case h1 => walk_at "sq")) | ((with_reducible refine' r_lenT ?h1 ?_); (case h1 => walk_at "sq")) | ((with_reducible refine' r_lenD ?h1 ?_); (case h1 => walk_at "hp"))
  | ((with_reducible refine' r_slL ?h1 ?_); (case h1 => walk_at "sq"); intro _ _)
  | ((with_reducible refine' r_append ?h1 ?h2 ?_); (case h1 => walk_at "hp"); (case h2 => exact szl (by first | omega | (simp; omega))))
  | ((with_reducible refine' r_gtup ?h1 ?h2 ?_); (case h1 => walk_at "sq"); (case h2 => rfl))
  | ((with_reducible refine' r_cat ?h1 ?h2 ?h3 ?_); (case h1 => walk_at "hp"); (case h2 => walk_at "hp"); (case h3 => exact sz (by first | omega | (simp; omega))); intro _ _)
  | ((with_reducible refine' r_wLst ?h1 ?_); (case h1 => walk_at "sq")) | ((with_reducible refine' r_wTup ?h1 ?_); (case h1 => walk_at "sq"))
  | ((with_reducible refine' r_wRng ?h1 ?_); (case h1 => walk_at "sd"))
  | ((with_reducible refine' r_truL ?h1 ?_); (case h1 => walk_at "sq"))
  | ((with_reducible refine' r_list (Or.inl ?h1) ?_); (case h1 => walk_at "sq"); intro _ _) | ((with_reducible refine' r_list (Or.inr ?h1) ?_); (case h1 => walk_at "sq"); intro _ _)
  | ((with_reducible refine' r_tupL ?h1 ?_); (case h1 => walk_at "sq"); intro _ _) | ((with_reducible refine' r_tupT ?h1 ?_); (case h1 => walk_at "sq"))
  | ((with_reducible refine' r_disp ?h1 ?_); (case h1 => exact Nat.le_of_ble_eq_true rfl); intro _ _)
  | ((with_reducible refine r_dnewK ?_); intro _ _)
  | ((with_reducible refine' r_tyL ?h1 ?_); (case h1 => walk_at "sq")) | with_reducible refine r_strV ?_
  | with_reducible refine r_exb ?_ | with_reducible refine r_exi ?_ | with_reducible refine r_exr ?_ | with_reducible refine r_exs ?_ | with_reducible refine r_exli ?_)
local macro_rules | `(tactic| walk_at "go") => `(tactic| repeat walk_at "st")
local macro_rules | `(tactic| walk_at "in") => `(tactic| dsimp only [noxK, cxK, L2.start, List.map_cons, List.map_nil, List.length_cons, List.length_nil, Nat.reduceAdd, Nat.reduceSub, List.replicate, List.cons_append, List.nil_append])

section
variable {P : Program} {w : World} {K : PySem.W.Frag} {mg : Str → Option Value} {base : Heap} {C : Addr}
abbrev sLotInit : Stmt := inClass (top 14) 0
theorem scLotInit : FnScope ["self", "pairs"] ["self", "pairs"] (defScope sLotInit) := ⟨rfl, rfl, rfl, by decide +kernel, rfl, by decide +kernel, by decide +kernel⟩
/-- what __init__ is given: pairs as a list -/
def spLotInit (K : PySem.W.Frag) (C : Addr) : Sp := fun vs H Q _ => ∃ (p dx l : Addr) (xs : List V) (ps : AL), vs = [.ref p, .ref l] ∧ H p = some (.ins C dx []) ∧ SqL K H l xs ∧ Paired (PrA H) xs ps ∧ xs.length ≤ 30 ∧ (∀ q ∈ ps, 0 ≤ q.2) ∧
  ∀ (m : AL) (H' : Hp), LoN C H H' p m → (∀ k, get m k = tot ps k) → (∀ c o, H c = some o → c ≠ p → H' c = some o) → Q .non H'
theorem ok_lotInit {f t0 : Addr} {fd : FuncData} (F : FunD K "__init__" "Lot.__init__" (defArgs sLotInit) (defBody sLotInit) (defScope sLotInit) [.ref t0] [] f fd) (L : TxL K C) (Cc : Cal P w K mg base CX0 1 "_counted" ["pairs"] (spOwnCounted K)) : FnOk P w K mg base CX0 2 f fd ["self", "pairs"] (spLotInit K C) := by
  refine F.ok scLotInit (fun vs H Q E h => ?_) (fun cdv A outer s H vs Q E hr h => ?_)
  · obtain ⟨p, dx, l, xs, ps, rfl, _⟩ := h
    rfl
  · obtain ⟨p, dx, l, xs, ps, rfl, hp, hl, hps, h30, h0, q⟩ := h
    refine ⟨_, (pss_one (ps_fld (pv 0) (pe_cal Cc hr pass0 (pa_cons (pv 1) pa_nil)) rfl)), ?_⟩
    walk_at "in"
    show tCal (spOwnCounted K) E0 (tCons (tVar 1) tNil) _ H _
    walk_at "go"
    refine ⟨l, xs, ps, rfl, hl, hps, h30, h0, fun d m H1 hd hm nd mp hg lm s1 => ?_⟩
    have n1 : d ≠ p := fun z => by rw [z, hp] at hd; cases hd
    refine ⟨_, rfl, p, C, dx, [], rfl, s1 _ _ hp, L.oc.cl, L.nM, by show 0 < 1000; decide, ?_⟩
    refine q m _ ⟨d, hd, ⟨dx, upd_same⟩, by walk_at "hp", nd, mp, by omega⟩ hg fun c o e n => ?_
    walk_at "hp"
abbrev sLotGetitem : Stmt := inClass (top 14) 2
theorem scLotGetitem : FnScope ["self", "at"] ["self", "at"] (defScope sLotGetitem) := ⟨rfl, rfl, rfl, by decide +kernel, rfl, by decide +kernel, by decide +kernel⟩
def spLotGetitem (C : Addr) : Sp := fun vs H Q _ => ∃ (a : Addr) (k : Str) (m : AL), vs = [.ref a, .str k] ∧ LoA C H a m ∧ Q (.int (get m k)) H
theorem ok_lotGetitem {f : Addr} {fd : FuncData} (F : Fun K "__getitem__" "Lot.__getitem__" sLotGetitem f fd) (L : TxL K C) : FnOk P w K mg base CX0 1 f fd ["self", "at"] (spLotGetitem C) := by
  refine F.ok scLotGetitem (fun vs H Q E h => ?_) (fun cdv A outer s H vs Q E hr h => ?_)
  · obtain ⟨a, k, m, rfl, _⟩ := h
    rfl
  · obtain ⟨a, k, m, rfl, ⟨⟨d, dx, h1, h2⟩, nd, mp, ml⟩, q⟩ := h
    have hu := hu_of hr
    refine ⟨_, (pss_one (ps_ret (pe_dget2 hu (pe_fld (pv 0) rfl) (pv 1) pe_int ⟨rfl, rfl, rfl, rfl⟩))), ?_⟩
    walk_at "in"
    walk_at "go"
    refine r_many L h1 ⟨_, rfl, r_isD h2 ?_⟩
    walk_at "go"
    refine ⟨_, DGet_enc (r := look m k) (Or.inl h2) rfl, ?_⟩
    rw [get_look]
    exact q
abbrev sLotLen : Stmt := inClass (top 14) 6
theorem scLotLen : FnScope ["self"] ["self"] (defScope sLotLen) := ⟨rfl, rfl, rfl, by decide +kernel, rfl, by decide +kernel, by decide +kernel⟩
def spLotLen (C : Addr) : Sp := fun vs H Q _ => ∃ (a : Addr) (m : AL), vs = [.ref a] ∧ LoA C H a m ∧ Q (.int m.length) H
theorem ok_lotLen {f : Addr} {fd : FuncData} (F : Fun K "__len__" "Lot.__len__" sLotLen f fd) (T : Txt K mg) (L : TxL K C) : FnOk P w K mg base CX0 1 f fd ["self"] (spLotLen C) := by
  refine F.ok scLotLen (fun vs H Q E h => ?_) (fun cdv A outer s H vs Q E hr h => ?_)
  · obtain ⟨a, m, rfl, _⟩ := h
    rfl
  · obtain ⟨a, m, rfl, ⟨⟨d, dx, h1, h2⟩, nd, mp, ml⟩, q⟩ := h
    have hu := hu_of hr
    refine ⟨_, (pss_one (ps_ret (pe_callB c_lenD (by rfl) T.len (by decide +kernel) (pa_cons (pe_fld (pv 0) rfl) pa_nil)))), ?_⟩
    walk_at "in"
    walk_at "go"
    refine r_many L h1 ?_
    walk_at "go"
    rw [enc_len]
    exact q
abbrev sLotKinds : Stmt := inClass (top 14) 9
theorem scLotKinds : FnScope ["self"] ["self"] (defScope sLotKinds) := ⟨rfl, rfl, rfl, by decide +kernel, rfl, by decide +kernel, by decide +kernel⟩
def spLotKinds (C : Addr) : Sp := fun vs H Q _ => ∃ (a : Addr) (m : AL), vs = [.ref a] ∧ LoA C H a m ∧ ∀ (l : Addr) (ys : List Str) (H' : Hp), H l = none → H' l = some (.lst (ys.map V.str)) → ys.Perm (keys m) → PyProof.Rows.sortedS ys = true → Same H H' → Q (.ref l) H'
theorem ok_lotKinds {f : Addr} {fd : FuncData} (F : Fun K "kinds" "Lot.kinds" sLotKinds f fd) (T : Txt K mg) (L : TxL K C) : FnOk P w K mg base CX0 1 f fd ["self"] (spLotKinds C) := by
  refine F.ok scLotKinds (fun vs H Q E h => ?_) (fun cdv A outer s H vs Q E hr h => ?_)
  · obtain ⟨a, m, rfl, _⟩ := h
    rfl
  · obtain ⟨a, m, rfl, ⟨⟨d, dx, h1, h2⟩, nd, mp, ml⟩, q⟩ := h
    have hu := hu_of hr
    refine ⟨_, (pss_one (ps_ret (pe_callB (cr_sortedSO rfl) (by rfl) T.sorted (by decide +kernel) (pa_cons (pe_callTy cr_setD (by rfl) T.set (by decide +kernel) (pa_cons (pe_fld (pv 0) rfl) pa_nil)) pa_nil)))), ?_⟩
    walk_at "in"
    walk_at "go"
    refine r_many L h1 ?_
    walk_at "go"
    refine r_setD h2 ml fun t ht => ?_
    walk_at "go"
    have lk : (keys m).length = m.length := List.length_map _
    refine r_sortedSO upd_same (by omega) fun ys l hp hs hl => ?_
    have n1 : l ≠ t := fun z => by rw [z, upd_same] at hl; cases hl
    have hl0 : H l = none := by rw [upd_ne n1] at hl; exact hl
    exact q l ys _ hl0 upd_same hp hs fun c o e => by walk_at "hp"
end
end My

namespace My
open PySem L2
local macro_rules | `(tactic| walk_at "bx1") => `(tactic| first | with_reducible assumption | ((with_reducible refine' Bx.upd ?h1 ?h2); (case h1 => walk_at "bx1"); (case h2 => walk_at "ne")) | ((with_reducible refine' Bx.same ?h1 (by with_reducible assumption)); (case h1 => walk_at "bx1")))
local macro_rules | `(tactic| walk_at "bx") => `(tactic| (refine' Bx.mono ?h1 ?h2; (case h1 => walk_at "bx1"); (case h2 => omega)))
local macro_rules | `(tactic| walk_at "ne") => `(tactic| first | with_reducible assumption | exact Ne.symm (by with_reducible assumption) | ((with_reducible refine' ne_of_none ?h1 (by with_reducible assumption)); (case h1 => walk_at "hp")) | ((with_reducible refine' Ne.symm (ne_of_none ?h1 (by with_reducible assumption))); (case h1 => walk_at "hp")) | ((with_reducible refine' Bx.ne ?h1 (by with_reducible assumption)); (case h1 => walk_at "bx1")) | ((with_reducible refine' Ne.symm (Bx.ne ?h1 (by with_reducible assumption))); (case h1 => walk_at "bx1")))
local macro_rules | `(tactic| walk_at "hp") => `(tactic| first | with_reducible assumption | ((with_reducible refine' (upd_same.trans ?h1)); (case h1 => rfl)) | ((with_reducible refine' My.upd_at ?h1 ?h2); (case h1 => walk_at "hp"); (case h2 => walk_at "ne")) | ((with_reducible refine' My.Kp.at (by with_reducible assumption) ?h1 ?h2); (case h1 => walk_at "hp"); (case h2 => walk_at "ne")) | ((with_reducible refine' My.Same.at (by with_reducible assumption) ?h1); (case h1 => walk_at "hp")))
local macro_rules | `(tactic| walk_at "sq") => `(tactic| first | with_reducible assumption | exact SqL.of (by walk_at "hp") | exact SqT.of (by walk_at "hp") | ((with_reducible refine' My.SqT.upd ?h1 (by with_reducible assumption)); (case h1 => walk_at "sq")) | ((with_reducible refine' My.SqL.upd ?h1 (by with_reducible assumption)); (case h1 => walk_at "sq")) | ((with_reducible refine' Same.seq (by with_reducible assumption) ?h1); (case h1 => walk_at "sq")) | ((with_reducible refine' My.SqT.same ?h1 (by with_reducible assumption)); (case h1 => walk_at "sq")) | ((with_reducible refine' My.SqT.kp ?h1 (by with_reducible assumption) ?h2); (case h1 => walk_at "sq"); (case h2 => walk_at "bx1")) | ((with_reducible refine' My.SqL.kp ?h1 (by with_reducible assumption) ?h2); (case h1 => walk_at "sq"); (case h2 => walk_at "ne")))
local macro_rules | `(tactic| walk_at "sd") => `(tactic| first | assumption | omega | decide | (refine ⟨?_, ?_⟩ <;> (first | omega | decide)) | (refine Or.inl ⟨?_, ?_⟩ <;> (first | omega | decide)) | (refine Or.inr ⟨?_, ?_⟩ <;> (first | omega | decide)) | (refine ⟨?_, ?_, ?_⟩ <;> (first | omega | decide)))
local macro_rules | `(tactic| walk_at "ps") => `(tactic| first
  | with_reducible refine r_seq ?_ | with_reducible refine r_asg ?_ | with_reducible refine r_op ?_ | with_reducible refine r_cons ?_ | with_reducible refine r_nil ?_ | with_reducible refine r_c ?_
  | with_reducible refine' r_var rfl ?_ | with_reducible refine r_gname ?_ | with_reducible refine r_cb ?_ | with_reducible refine r_I0 ?_ | with_reducible refine r_ret ?_ | with_reducible refine r_ifS ?_ | with_reducible refine r_test ?_ | with_reducible refine r_B ?_
  | with_reducible refine r_next ?_ | with_reducible refine r_drop ?_ | with_reducible refine r_if ?_ | with_reducible refine r_un ?_ | with_reducible refine r_U ?_ | with_reducible refine r_gsub ?_ | with_reducible refine r_tup ?_ | with_reducible refine r_lst ?_ | with_reducible refine r_bm ?_
  | with_reducible refine r_cal ?_ | with_reducible refine r_not ?_ | with_reducible refine r_and ?_ | with_reducible refine r_or ?_ | with_reducible refine r_andV ?_ | with_reducible refine r_orV ?_ | with_reducible refine r_notV ?_
  | with_reducible refine r_abs ?_ | with_reducible refine r_intI ?_ | with_reducible refine r_intB ?_ | with_reducible refine r_m1 ?_ | with_reducible refine r_slice ?_ | with_reducible refine r_part ?_ | with_reducible refine r_nopart ?_
  | with_reducible refine r_gcons ?_ | with_reducible refine r_gnil ?_
  | with_reducible refine r_par ?_ | with_reducible refine r_par3 ?_ | with_reducible refine r_ex2 ?_ | with_reducible refine r_ex3 ?_
  | with_reducible refine r_isN ?_ | with_reducible refine r_notN ?_
  | with_reducible refine r_iZipA ?_
  | with_reducible refine r_dget ?_ | with_reducible refine r_dget2 ?_ | with_reducible refine r_iKeys ?_ | with_reducible refine r_dput ?_
  | with_reducible refine r_for ?_ | with_reducible refine r_lc ?_ | with_reducible refine r_iList ?_ | with_reducible refine r_iTup ?_ | with_reducible refine r_iRng1 ?_ | with_reducible refine r_iEnum ?_ | with_reducible refine r_orT ?_ | with_reducible refine r_yes ?_ | with_reducible refine r_ixSl ?_)
local macro_rules | `(tactic| walk_at "st") => `(tactic| first
  | walk_at "ps"
  | ((with_reducible refine' r_ixL ?h1 ?h2 ?_); (case h1 => walk_at "sq"); (case h2 => rfl))
  | ((with_reducible refine' r_setL ?h1 ?h2 ?_); (case h1 => walk_at "hp"); (case h2 => rfl))
  | ((with_reducible refine' r_I ?h1 ?_); (case h1 => walk_at "sd"))
  | ((with_reducible refine' r_eq ?h1 ?_); (case h1 => rfl)) | ((with_reducible refine' r_ne ?h1 ?_); (case h1 => rfl))
  | ((with_reducible refine' r_lenL ?h1 ?_); (case h1 => walk_at "sq")) | ((with_reducible refine' r_lenT ?h1 ?_); (case h1 => walk_at "sq")) | ((with_reducible refine' r_lenD ?h1 ?_); (case h1 => walk_at "hp"))
  | ((with_reducible refine' r_slL ?h1 ?_); (case h1 => walk_at "sq"); intro _ _)
  | ((with_reducible refine' r_append ?h1 ?h2 ?_); (case h1 => walk_at "hp"); (case h2 => exact szl (by first | omega | (simp; omega))))
  | ((with_reducible refine' r_gtup ?h1 ?h2 ?_); (case h1 => walk_at "sq"); (case h2 => rfl))
  | ((with_reducible refine' r_cat ?h1 ?h2 ?h3 ?_); (case h1 => walk_at "hp"); (case h2 => walk_at "hp"); (case h3 => exact sz (by first | omega | (simp; omega))); intro _ _)
  | ((with_reducible refine' r_wLst ?h1 ?_); (case h1 => walk_at "sq")) | ((with_reducible refine' r_wTup ?h1 ?_); (case h1 => walk_at "sq"))
  | ((with_reducible refine' r_wRng ?h1 ?_); (case h1 => walk_at "sd"))
  | ((with_reducible refine' r_truL ?h1 ?_); (case h1 => walk_at "sq"))
  | ((with_reducible refine' r_list (Or.inl ?h1) ?_); (case h1 => walk_at "sq"); intro _ _) | ((with_reducible refine' r_list (Or.inr ?h1) ?_); (case h1 => walk_at "sq"); intro _ _)
  | ((with_reducible refine' r_tupL ?h1 ?_); (case h1 => walk_at "sq"); intro _ _) | ((with_reducible refine' r_tupT ?h1 ?_); (case h1 => walk_at "sq"))
  | ((with_reducible refine' r_disp ?h1 ?_); (case h1 => exact Nat.le_of_ble_eq_true rfl); intro _ _)
  | ((with_reducible refine r_dnewK ?_); intro _ _)
  | ((with_reducible refine' r_tyL ?h1 ?_); (case h1 => walk_at "sq")) | with_reducible refine r_strV ?_
  | with_reducible refine r_exb ?_ | with_reducible refine r_exi ?_ | with_reducible refine r_exr ?_ | with_reducible refine r_exs ?_ | with_reducible refine r_exli ?_)
local macro_rules | `(tactic| walk_at "go") => `(tactic| repeat walk_at "st")
local macro_rules | `(tactic| walk_at "in") => `(tactic| dsimp only [noxK, cxK, L2.start, List.map_cons, List.map_nil, List.length_cons, List.length_nil, Nat.reduceAdd, Nat.reduceSub, List.replicate, List.cons_append, List.nil_append])

section
variable {P : Program} {w : World} {K : PySem.W.Frag} {mg : Str → Option Value} {base : Heap} {C : Addr}
abbrev sLotPairs : Stmt := inClass (top 14) 10
theorem scLotPairs : FnScope ["self", "kind"] ["self"] (defScope sLotPairs) := ⟨rfl, rfl, rfl, by decide +kernel, rfl, by decide +kernel, by decide +kernel⟩
def spLotPairs (C : Addr) : Sp := fun vs H Q _ => ∃ (a : Addr) (m : AL), vs = [.ref a] ∧ LoA C H a m ∧ ∀ (p : Addr) (ts : List V) (qs : AL) (H' : Hp), H p = none → H' p = some (.tup ts) → Paired (PrA H') ts qs → Cn m qs → Same H H' → Q (.ref p) H'
theorem ok_lotPairs {f : Addr} {fd : FuncData} (F : Fun K "pairs" "Lot.pairs" sLotPairs f fd) (T : Txt K mg) (L : TxL K C) (Ok : OCal P w K mg base CX0 1 C "kinds" ["self"] (spLotKinds C)) : FnOk P w K mg base CX0 2 f fd ["self"] (spLotPairs C) := by
  refine F.ok scLotPairs (fun vs H Q E h => ?_) (fun cdv A outer s H vs Q E hr h => ?_)
  · obtain ⟨a, m, rfl, _⟩ := h
    rfl
  · obtain ⟨a, m, rfl, La, q⟩ := h
    have hu := hu_of hr
    refine ⟨_, (pss_one (ps_ret (pe_callTy c_tupL (by rfl) T.tuple (by decide +kernel) (pa_cons (pe_lc (own := [("kind", 1)]) (g := gName 1) (tt := tYes) rfl scLotPairs.nd (pi_list (pe_methO0 Ok L.oc.cl hr pass0 (pv 0))) (blkOk_by (N := ["self", "kind"]) (sc := defScope sLotPairs) (by decide +kernel)) (fun _ _ _ _ _ => (pg_name (i := 1) scLotPairs.nd rfl (Or.inl rfl))) (fun _ _ _ _ _ => pts_nil) (fun _ _ _ _ _ => (pe_tup (pa_cons (pv 1) (pa_cons (pe_dget hu (fldK K (pv 0) rfl) (pv 1) (fun _ _ => rfl)) pa_nil))))) pa_nil)))), ?_⟩
    walk_at "in"
    walk_at "go"
    obtain ⟨⟨d, dx, h1, h2⟩, nd, mp, ml⟩ := id La
    refine r_meth0 ?_
    walk_at "go"
    refine ⟨a, dx, _, rfl, h1, look1, a, m, rfl, La, fun l ys H1 hl hl1 hp hs s1 => ?_⟩
    walk_at "go"
    intro D hD
    have hD0 : H D = none := s1.free hD
    have nDl : D ≠ l := fun z => by rw [z, hl1] at hD; cases hD
    have lys : ys.length ≤ 30 := by rw [hp.length_eq]; show (keys m).length ≤ 30; rw [show (keys m).length = m.length from List.length_map _]; exact ml
    refine lc_it (walk_list (xs := ys.map V.str)) (fun i H' => ∃ xs, H' D = some (.lst xs) ∧ Paired (PrA H') xs ((ys.take i).map fun k => (k, get m k)) ∧ Same H1 H') ?_ ?_ ?_ ?_
    · exact ⟨[], upd_same, .nil, fun c o e => by have n1 : c ≠ D := ne_of_none e hD; walk_at "hp"⟩
    · rintro i H' _ ⟨_, _, _, s2⟩
      exact s2.seq (SqL.of hl1)
    · rintro i x _ H2 hi ⟨xs, hD1, hxs, s2⟩ ⟨rfl, hx⟩
      obtain ⟨k, rfl, hk⟩ := map_some hx
      walk_at "go"
      refine ⟨rfl, ?_⟩
      walk_at "go"
      refine iteT ?_
      walk_at "go"
      refine r_many L (s2 _ _ (s1 _ _ h1)) ?_
      walk_at "go"
      have kin : k ∈ keys m := hp.mem_iff.mp (List.mem_of_getElem? hk)
      have lk : look m k = some (get m k) := by
        obtain ⟨p, hpm, rfl⟩ := List.mem_map.mp kin
        unfold get
        rw [(look_mem nd).mpr (show (p.1, p.2) ∈ m from hpm)]
        rfl
      refine ⟨d, .int (get m k), rfl, DGet_enc (Or.inl (s2 _ _ (s1 _ _ h2))) lk, ?_⟩
      walk_at "go"
      rename_i t ht
      have n2 : D ≠ t := ne_of_none hD1 ht
      have lxs := Paired.len hxs
      have ltk : ((ys.take i).map fun k => (k, get m k)).length ≤ i := by rw [List.length_map, List.length_take]; omega
      have hi2 : i < ys.length := by rw [List.length_map] at hi; exact hi
      have k2 : Kp D H2 (upd (upd H2 t (.tup [V.str k, V.int (get m k)])) D (.lst (xs ++ [V.ref t]))) := fun c o e n => by walk_at "hp"
      refine ⟨xs, by walk_at "hp", szl (by omega), xs ++ [V.ref t], upd_same, ?_, fun c o e => ?_⟩
      · rw [List.take_add_one, hk, List.map_append]
        exact Paired.app (PrA.kpdAll hxs k2 hD1 (fun _ z => by cases z)) (.cons ⟨t, rfl, by walk_at "hp"⟩ .nil)
      · have n4 : c ≠ D := ne_of_none e hD
        walk_at "hp"
    · rintro H2 ⟨xs, hD1, hxs, s2⟩
      rw [List.length_map, List.take_length] at hxs
      walk_at "go"
      rename_i p hp2
      have hpp : H p = none := s1.free (s2.free hp2)
      refine q p xs _ _ hpp upd_same (Paired.mapP hxs fun _ _ z => ?_) (cn_of mp nd hp hs) fun c o e => by walk_at "hp"
      obtain ⟨t, e1, e2⟩ := z
      exact ⟨t, e1, upd_at e2 (ne_of_none e2 hp2)⟩
end
end My

namespace My
open PySem L2
local macro_rules | `(tactic| walk_at "bx1") => `(tactic| first | with_reducible assumption | ((with_reducible refine' Bx.upd ?h1 ?h2); (case h1 => walk_at "bx1"); (case h2 => walk_at "ne")) | ((with_reducible refine' Bx.same ?h1 (by with_reducible assumption)); (case h1 => walk_at "bx1")))
local macro_rules | `(tactic| walk_at "bx") => `(tactic| (refine' Bx.mono ?h1 ?h2; (case h1 => walk_at "bx1"); (case h2 => omega)))
local macro_rules | `(tactic| walk_at "ne") => `(tactic| first | with_reducible assumption | exact Ne.symm (by with_reducible assumption) | ((with_reducible refine' ne_of_none ?h1 (by with_reducible assumption)); (case h1 => walk_at "hp")) | ((with_reducible refine' Ne.symm (ne_of_none ?h1 (by with_reducible assumption))); (case h1 => walk_at "hp")) | ((with_reducible refine' Bx.ne ?h1 (by with_reducible assumption)); (case h1 => walk_at "bx1")) | ((with_reducible refine' Ne.symm (Bx.ne ?h1 (by with_reducible assumption))); (case h1 => walk_at "bx1")))
local macro_rules | `(tactic| walk_at "hp") => `(tactic| first | with_reducible assumption | ((with_reducible refine' (upd_same.trans ?h1)); (case h1 => rfl)) | ((with_reducible refine' My.upd_at ?h1 ?h2); (case h1 => walk_at "hp"); (case h2 => walk_at "ne")) | ((with_reducible refine' My.Kp.at (by with_reducible assumption) ?h1 ?h2); (case h1 => walk_at "hp"); (case h2 => walk_at "ne")) | ((with_reducible refine' My.Same.at (by with_reducible assumption) ?h1); (case h1 => walk_at "hp")))
local macro_rules | `(tactic| walk_at "sq") => `(tactic| first | with_reducible assumption | exact SqL.of (by walk_at "hp") | exact SqT.of (by walk_at "hp") | ((with_reducible refine' My.SqT.upd ?h1 (by with_reducible assumption)); (case h1 => walk_at "sq")) | ((with_reducible refine' My.SqL.upd ?h1 (by with_reducible assumption)); (case h1 => walk_at "sq")) | ((with_reducible refine' Same.seq (by with_reducible assumption) ?h1); (case h1 => walk_at "sq")) | ((with_reducible refine' My.SqT.same ?h1 (by with_reducible assumption)); (case h1 => walk_at "sq")) | ((with_reducible refine' My.SqT.kp ?h1 (by with_reducible assumption) ?h2); (case h1 => walk_at "sq"); (case h2 => walk_at "bx1")) | ((with_reducible refine' My.SqL.kp ?h1 (by with_reducible assumption) ?h2); (case h1 => walk_at "sq"); (case h2 => walk_at "ne")))
local macro_rules | `(tactic| walk_at "sd") => `(tactic| first | assumption | omega | decide | (refine ⟨?_, ?_⟩ <;> (first | omega | decide)) | (refine Or.inl ⟨?_, ?_⟩ <;> (first | omega | decide)) | (refine Or.inr ⟨?_, ?_⟩ <;> (first | omega | decide)) | (refine ⟨?_, ?_, ?_⟩ <;> (first | omega | decide)))
local macro_rules | `(tactic| walk_at "ps") => `(tactic| first
  | with_reducible refine r_seq ?_ | with_reducible refine r_asg ?_ | with_reducible refine r_op ?_ | with_reducible refine r_cons ?_ | with_reducible refine r_nil ?_ | with_reducible refine r_c ?_
  | with_reducible refine' r_var rfl ?_ | with_reducible refine r_gname ?_ | with_reducible refine r_cb ?_ | with_reducible refine r_I0 ?_ | with_reducible refine r_ret ?_ | with_reducible refine r_ifS ?_ | with_reducible refine r_test ?_ | with_reducible refine r_B ?_
  | with_reducible refine r_next ?_ | with_reducible refine r_drop ?_ | with_reducible refine r_if ?_ | with_reducible refine r_un ?_ | with_reducible refine r_U ?_ | with_reducible refine r_gsub ?_ | with_reducible refine r_tup ?_ | with_reducible refine r_lst ?_ | with_reducible refine r_bm ?_
  | with_reducible refine r_cal ?_ | with_reducible refine r_not ?_ | with_reducible refine r_and ?_ | with_reducible refine r_or ?_ | with_reducible refine r_andV ?_ | with_reducible refine r_orV ?_ | with_reducible refine r_notV ?_
  | with_reducible refine r_abs ?_ | with_reducible refine r_intI ?_ | with_reducible refine r_intB ?_ | with_reducible refine r_m1 ?_ | with_reducible refine r_slice ?_ | with_reducible refine r_part ?_ | with_reducible refine r_nopart ?_
  | with_reducible refine r_gcons ?_ | with_reducible refine r_gnil ?_
  | with_reducible refine r_par ?_ | with_reducible refine r_par3 ?_ | with_reducible refine r_ex2 ?_ | with_reducible refine r_ex3 ?_
  | with_reducible refine r_isN ?_ | with_reducible refine r_notN ?_
  | with_reducible refine r_iZipA ?_
  | with_reducible refine r_dget ?_ | with_reducible refine r_dget2 ?_ | with_reducible refine r_iKeys ?_ | with_reducible refine r_dput ?_
  | with_reducible refine r_for ?_ | with_reducible refine r_lc ?_ | with_reducible refine r_iList ?_ | with_reducible refine r_iTup ?_ | with_reducible refine r_iRng1 ?_ | with_reducible refine r_iEnum ?_ | with_reducible refine r_orT ?_ | with_reducible refine r_yes ?_ | with_reducible refine r_ixSl ?_)
local macro_rules | `(tactic| walk_at "st") => `(tactic| first
  | walk_at "ps"
  | ((with_reducible refine' r_ixL ?h1 ?h2 ?_); (case h1 => walk_at "sq"); (case h2 => rfl))
  | ((with_reducible refine' r_setL ?h1 ?h2 ?_); (case h1 => walk_at "hp"); (case h2 => rfl))
  | ((with_reducible refine' r_I ?h1 ?_); (case h1 => walk_at "sd"))
  | ((with_reducible refine' r_eq ?h1 ?_); (case h1 => rfl)) | ((with_reducible refine' r_ne ?h1 ?_); (case h1 => rfl))
  | ((with_reducible refine' r_lenL ?h1 ?_); (case h1 => walk_at "sq")) | ((with_reducible refine' r_lenT ?h1 ?_); (case h1 => walk_at "sq")) | ((with_reducible refine' r_lenD ?h1 ?_); (case h1 => walk_at "hp"))
  | ((with_reducible refine' r_slL ?h1 ?_); (case h1 => walk_at "sq"); intro _ _)
  | ((with_reducible refine' r_append ?h1 ?h2 ?_); (case h1 => walk_at "hp"); (case h2 => exact szl (by first | omega | (simp; omega))))
  | ((with_reducible refine' r_gtup ?h1 ?h2 ?_); (case h1 => walk_at "sq"); (case h2 => rfl))
  | ((with_reducible refine' r_cat ?h1 ?h2 ?h3 ?_); (case h1 => walk_at "hp"); (case h2 => walk_at "hp"); (case h3 => exact sz (by first | omega | (simp; omega))); intro _ _)
  | ((with_reducible refine' r_wLst ?h1 ?_); (case h1 => walk_at "sq")) | ((with_reducible refine' r_wTup ?h1 ?_); (case h1 => walk_at "sq"))
  | ((with_reducible refine' r_wRng ?h1 ?_); (case h1 => walk_at "sd"))
  | ((with_reducible refine' r_truL ?h1 ?_); (case h1 => walk_at "sq"))
  | ((with_reducible refine' r_list (Or.inl ?h1) ?_); (case h1 => walk_at "sq"); intro _ _) | ((with_reducible refine' r_list (Or.inr ?h1) ?_); (case h1 => walk_at "sq"); intro _ _)
  | ((with_reducible refine' r_tupL ?h1 ?_); (case h1 => walk_at "sq"); intro _ _) | ((with_reducible refine' r_tupT ?h1 ?_); (case h1 => walk_at "sq"))
  | ((with_reducible refine' r_disp ?h1 ?_); (case h1 => exact Nat.le_of_ble_eq_true rfl); intro _ _)
  | ((with_reducible refine r_dnewK ?_); intro _ _)
  | ((with_reducible refine' r_tyL ?h1 ?_); (case h1 => walk_at "sq")) | with_reducible refine r_strV ?_
  | with_reducible refine r_exb ?_ | with_reducible refine r_exi ?_ | with_reducible refine r_exr ?_ | with_reducible refine r_exs ?_ | with_reducible refine r_exli ?_)
local macro_rules | `(tactic| walk_at "go") => `(tactic| repeat walk_at "st")
local macro_rules | `(tactic| walk_at "in") => `(tactic| dsimp only [noxK, cxK, L2.start, List.map_cons, List.map_nil, List.length_cons, List.length_nil, Nat.reduceAdd, Nat.reduceSub, List.replicate, List.cons_append, List.nil_append])

section
variable {P : Program} {w : World} {K : PySem.W.Frag} {mg : Str → Option Value} {base : Heap} {C : Addr}
/-- Lot(xs) by __init__'s promise -/
theorem init_end {H2 : Hp} {D : Addr} {xs : List V} {ps : AL} {R : Addr → Hp → Prop} {E : XK} (hD : H2 D = some (.lst xs)) (hps : Paired (PrA H2) xs ps) (hl : xs.length ≤ 30) (h0 : ∀ q ∈ ps, 0 ≤ q.2)
    (q : ∀ (x : Addr) (m' : AL) (H' : Hp), H2 x = none → LoN C H2 H' x m' → (∀ k, get m' k = tot ps k) → Same H2 H' → R x H') :
    ∀ x dx, H2 x = none → H2 dx = none → dx ≠ x → spLotInit K C [.ref x, .ref D] (upd (upd H2 dx (.own x)) x (.ins C dx [])) (fun v H2 => v = .non ∧ R x H2) E := by
  intro x dx hx hdx ne
  have s1 : Same H2 (upd (upd H2 dx (.own x)) x (.ins C dx [])) := fun c o e => by
    have n1 : c ≠ x := ne_of_none e hx
    have n2 : c ≠ dx := ne_of_none e hdx
    walk_at "hp"
  refine ⟨x, dx, D, xs, ps, rfl, upd_same, SqL.of (s1 _ _ hD), Paired.mapP hps fun _ _ z => z.same s1, hl, h0, fun m H' La hg kp => ⟨rfl, ?_⟩⟩
  refine q x m H' hx (La.mono s1) hg fun c o e => ?_
  exact kp c o (s1 c o e) (ne_of_none e hx)
abbrev sLotMul : Stmt := inClass (top 14) 14
theorem scLotMul : FnScope ["self", "other", "kind", "many"] ["self", "other"] (defScope sLotMul) := ⟨rfl, rfl, rfl, by decide +kernel, rfl, by decide +kernel, by decide +kernel⟩
def spLotMul (C : Addr) : Sp := fun vs H Q _ => ∃ (a : Addr) (n : Int) (m : AL), vs = [.ref a, .int n] ∧ LoA C H a m ∧ 0 ≤ n ∧ n.natAbs < 2 ^ 300 ∧ (∀ p ∈ m, p.2.natAbs < 2 ^ 300) ∧
  ∀ (x : Addr) (m' : AL) (H' : Hp), H x = none → LoN C H H' x m' → (∀ k, get m' k = get m k * n) → Same H H' → Q (.ref x) H'
theorem ok_lotMul {f : Addr} {fd : FuncData} (F : Fun K "__mul__" "Lot.__mul__" sLotMul f fd) (L : TxL K C) (Op : OCal P w K mg base CX0 2 C "pairs" ["self"] (spLotPairs C)) (Om : OMk P w K mg base CX0 2 C "Lot" ["self", "pairs"] (spLotInit K C)) : FnOk P w K mg base CX0 4 f fd ["self", "other"] (spLotMul C) := by
  refine F.ok scLotMul (fun vs H Q E h => ?_) (fun cdv A outer s H vs Q E hr h => ?_)
  · obtain ⟨a, n, m, rfl, _⟩ := h
    rfl
  · obtain ⟨a, n, m, rfl, La, n0, nb, mb, q⟩ := h
    refine ⟨_, (pss_one (ps_ret (pe_makeO Om hr pass0 (pa_cons (pe_lc (own := [("kind", 2), ("many", 3)]) (g := gTup _ 2 (gCons (gName 2) (gCons (gName 3) gNil))) (tt := tYes) rfl scLotMul.nd (pi_tup (pe_methO0 Op L.oc.cl (hr.mono (by decide)) pass0 (pv 0))) (blkOk_by (N := ["self", "other", "kind", "many"]) (sc := defScope sLotMul) (by decide +kernel)) (fun _ _ _ _ _ => (pg_tup rfl (pgs_cons (pg_name (i := 2) scLotMul.nd rfl (Or.inl rfl)) (pgs_cons (pg_name (i := 3) scLotMul.nd rfl (Or.inl rfl)) pgs_nil)))) (fun _ _ _ _ _ => pts_nil) (fun _ _ _ _ _ => (pe_tup (pa_cons (pv 2) (pa_cons (pe_op op_mulW (pv 3) (pv 1)) pa_nil))))) pa_nil)))), ?_⟩
    walk_at "in"
    walk_at "go"
    obtain ⟨⟨d, dx, h1, h2⟩, nd, mp, ml⟩ := id La
    refine r_mk ?_
    walk_at "go"
    refine r_meth0 ?_
    walk_at "go"
    refine ⟨a, dx, _, rfl, h1, look1, a, m, rfl, La, fun p ts qs H1 hp hp1 hts cn s1 => ?_⟩
    walk_at "go"
    intro D hD
    have lts : ts.length ≤ 30 := by rw [Paired.len hts, cn.len mp]; exact ml
    have lq : ts.length = qs.length := Paired.len hts
    refine lc_it (walk_tup (xs := ts)) (fun i H' => ∃ xs, H' D = some (.lst xs) ∧ Paired (PrA H') xs ((qs.take i).map fun q => (q.1, q.2 * n)) ∧ Same H1 H') ?_ ?_ ?_ ?_
    · exact ⟨[], upd_same, .nil, fun c o e => by have n1 : c ≠ D := ne_of_none e hD; walk_at "hp"⟩
    · rintro i H' _ ⟨_, _, _, s2⟩
      exact SqT.of (s2 _ _ hp1)
    · rintro i x _ H2 hi ⟨xs, hD1, hxs, s2⟩ ⟨rfl, hx⟩
      obtain ⟨r, hr1, t, rfl, ht⟩ := Paired.at hts hx
      have ht2 := s2 _ _ ht
      walk_at "go"
      refine ⟨rfl, ?_⟩
      walk_at "go"
      refine iteT ?_
      walk_at "go"
      refine r_I (wide_mul (mb r ((cn.mem mp r).mp (List.mem_of_getElem? hr1))) nb (by decide) (by decide) (by decide)) ?_
      walk_at "go"
      rename_i u hu1
      have n2 : D ≠ u := ne_of_none hD1 hu1
      have lxs := Paired.len hxs
      have ltk : ((qs.take i).map fun q => (q.1, q.2 * n)).length ≤ i := by rw [List.length_map, List.length_take]; omega
      have k2 : Kp D H2 (upd (upd H2 u (.tup [V.str r.1, V.int (r.2 * n)])) D (.lst (xs ++ [V.ref u]))) := fun c o e n => by walk_at "hp"
      refine ⟨xs, by walk_at "hp", szl (by omega), xs ++ [V.ref u], upd_same, ?_, fun c o e => ?_⟩
      · rw [List.take_add_one, hr1, List.map_append]
        exact Paired.app (PrA.kpdAll hxs k2 hD1 (fun _ z => by cases z)) (.cons ⟨u, rfl, by walk_at "hp"⟩ .nil)
      · have n4 : c ≠ D := ne_of_none e hD
        walk_at "hp"
    · rintro H2 ⟨xs, hD1, hxs, s2⟩
      rw [lq, List.take_length] at hxs
      have lxs := Paired.len hxs
      rw [List.length_map] at lxs
      refine init_end hD1 hxs (by omega) (fun z hz => ?_) fun x m' H' hx La' hg s3 => ?_
      · obtain ⟨r, hr1, rfl⟩ := List.mem_map.mp hz
        exact Int.mul_nonneg (Int.le_of_lt (mp r ((cn.mem mp r).mp hr1))) n0
      · refine q x m' H' (s1.free (s2.free hx)) (La'.mono fun c o e => s2 _ _ (s1 _ _ e)) (fun k => ?_) fun c o e => s3 _ _ (s2 _ _ (s1 _ _ e))
        rw [hg k, cn.totf mp nd (fun _ v => v * n)]
        split
        · rfl
        · rename_i hk
          rw [get_none hk, Int.zero_mul]
end
end My

namespace My
open PySem L2
local macro_rules | `(tactic| walk_at "bx1") => `(tactic| first | with_reducible assumption | ((with_reducible refine' Bx.upd ?h1 ?h2); (case h1 => walk_at "bx1"); (case h2 => walk_at "ne")) | ((with_reducible refine' Bx.same ?h1 (by with_reducible assumption)); (case h1 => walk_at "bx1")))
local macro_rules | `(tactic| walk_at "bx") => `(tactic| (refine' Bx.mono ?h1 ?h2; (case h1 => walk_at "bx1"); (case h2 => omega)))
local macro_rules | `(tactic| walk_at "ne") => `(tactic| first | with_reducible assumption | exact Ne.symm (by with_reducible assumption) | ((with_reducible refine' ne_of_none ?h1 (by with_reducible assumption)); (case h1 => walk_at "hp")) | ((with_reducible refine' Ne.symm (ne_of_none ?h1 (by with_reducible assumption))); (case h1 => walk_at "hp")) | ((with_reducible refine' Bx.ne ?h1 (by with_reducible assumption)); (case h1 => walk_at "bx1")) | ((with_reducible refine' Ne.symm (Bx.ne ?h1 (by with_reducible assumption))); (case h1 => walk_at "bx1")))
local macro_rules | `(tactic| walk_at "hp") => `(tactic| first | with_reducible assumption | ((with_reducible refine' (upd_same.trans ?h1)); (case h1 => rfl)) | ((with_reducible refine' My.upd_at ?h1 ?h2); (case h1 => walk_at "hp"); (case h2 => walk_at "ne")) | ((with_reducible refine' My.Kp.at (by with_reducible assumption) ?h1 ?h2); (case h1 => walk_at "hp"); (case h2 => walk_at "ne")) | ((with_reducible refine' My.Same.at (by with_reducible assumption) ?h1); (case h1 => walk_at "hp")))
local macro_rules | `(tactic| walk_at "sq") => `(tactic| first | with_reducible assumption | exact SqL.of (by walk_at "hp") | exact SqT.of (by walk_at "hp") | ((with_reducible refine' My.SqT.upd ?h1 (by with_reducible assumption)); (case h1 => walk_at "sq")) | ((with_reducible refine' My.SqL.upd ?h1 (by with_reducible assumption)); (case h1 => walk_at "sq")) | ((with_reducible refine' Same.seq (by with_reducible assumption) ?h1); (case h1 => walk_at "sq")) | ((with_reducible refine' My.SqT.same ?h1 (by with_reducible assumption)); (case h1 => walk_at "sq")) | ((with_reducible refine' My.SqT.kp ?h1 (by with_reducible assumption) ?h2); (case h1 => walk_at "sq"); (case h2 => walk_at "bx1")) | ((with_reducible refine' My.SqL.kp ?h1 (by with_reducible assumption) ?h2); (case h1 => walk_at "sq"); (case h2 => walk_at "ne")))
local macro_rules | `(tactic| walk_at "sd") => `(tactic| first | assumption | omega | decide | (refine ⟨?_, ?_⟩ <;> (first | omega | decide)) | (refine Or.inl ⟨?_, ?_⟩ <;> (first | omega | decide)) | (refine Or.inr ⟨?_, ?_⟩ <;> (first | omega | decide)) | (refine ⟨?_, ?_, ?_⟩ <;> (first | omega | decide)))
local macro_rules | `(tactic| walk_at "ps") => `(tactic| first
  | with_reducible refine r_seq ?_ | with_reducible refine r_asg ?_ | with_reducible refine r_op ?_ | with_reducible refine r_cons ?_ | with_reducible refine r_nil ?_ | with_reducible refine r_c ?_
  | with_reducible refine' r_var rfl ?_ | with_reducible refine r_gname ?_ | with_reducible refine r_cb ?_ | with_reducible refine r_I0 ?_ | with_reducible refine r_ret ?_ | with_reducible refine r_ifS ?_ | with_reducible refine r_test ?_ | with_reducible refine r_B ?_
  | with_reducible refine r_next ?_ | with_reducible refine r_drop ?_ | with_reducible refine r_if ?_ | with_reducible refine r_un ?_ | with_reducible refine r_U ?_ | with_reducible refine r_gsub ?_ | with_reducible refine r_tup ?_ | with_reducible refine r_lst ?_ | with_reducible refine r_bm ?_
  | with_reducible refine r_cal ?_ | with_reducible refine r_not ?_ | with_reducible refine r_and ?_ | with_reducible refine r_or ?_ | with_reducible refine r_andV ?_ | with_reducible refine r_orV ?_ | with_reducible refine r_notV ?_
  | with_reducible refine r_abs ?_ | with_reducible refine r_intI ?_ | with_reducible refine r_intB ?_ | with_reducible refine r_m1 ?_ | with_reducible refine r_slice ?_ | with_reducible refine r_part ?_ | with_reducible refine r_nopart ?_
  | with_reducible refine r_gcons ?_ | with_reducible refine r_gnil ?_
  | with_reducible refine r_par ?_ | with_reducible refine r_par3 ?_ | with_reducible refine r_ex2 ?_ | with_reducible refine r_ex3 ?_
  | with_reducible refine r_isN ?_ | with_reducible refine r_notN ?_
  | with_reducible refine r_iZipA ?_
  | with_reducible refine r_dget ?_ | with_reducible refine r_dget2 ?_ | with_reducible refine r_iKeys ?_ | with_reducible refine r_dput ?_
  | with_reducible refine r_for ?_ | with_reducible refine r_lc ?_ | with_reducible refine r_iList ?_ | with_reducible refine r_iTup ?_ | with_reducible refine r_iRng1 ?_ | with_reducible refine r_iEnum ?_ | with_reducible refine r_orT ?_ | with_reducible refine r_yes ?_ | with_reducible refine r_ixSl ?_)
local macro_rules | `(tactic| walk_at "st") => `(tactic| first
  | walk_at "ps"
  | ((with_reducible refine' r_ixL ?h1 ?h2 ?_); (case h1 => walk_at "sq"); (case h2 => rfl))
  | ((with_reducible refine' r_setL ?h1 ?h2 ?_); (case h1 => walk_at "hp"); (case h2 => rfl))
  | ((with_reducible refine' r_I ?h1 ?_); (case h1 => walk_at "sd"))
  | ((with_reducible refine' r_eq ?h1 ?_); (case h1 => rfl)) | ((with_reducible refine' r_ne ?h1 ?_); (case h1 => rfl))
  | ((with_reducible refine' r_lenL ?h1 ?_); (case h1 => walk_at "sq")) | ((with_reducible refine' r_lenT ?h1 ?_); (case h1 => walk_at "sq")) | ((with_reducible refine' r_lenD ?h1 ?_); (case h1 => walk_at "hp"))
  | ((with_reducible refine' r_slL ?h1 ?_); (case h1 => walk_at "sq"); intro _ _)
  | ((with_reducible refine' r_append ?h1 ?h2 ?_); (case h1 => walk_at "hp"); (case h2 => exact szl (by first | omega | (simp; omega))))
  | ((with_reducible refine' r_gtup ?h1 ?h2 ?_); (case h1 => walk_at "sq"); (case h2 => rfl))
  | ((with_reducible refine' r_cat ?h1 ?h2 ?h3 ?_); (case h1 => walk_at "hp"); (case h2 => walk_at "hp"); (case h3 => exact sz (by first | omega | (simp; omega))); intro _ _)
  | ((with_reducible refine' r_wLst ?h1 ?_); (case h1 => walk_at "sq")) | ((with_reducible refine' r_wTup ?h1 ?_); (case h1 => walk_at "sq"))
  | ((with_reducible refine' r_wRng ?h1 ?_); (case h1 => walk_at "sd"))
  | ((with_reducible refine' r_truL ?h1 ?_); (case h1 => walk_at "sq"))
  | ((with_reducible refine' r_list (Or.inl ?h1) ?_); (case h1 => walk_at "sq"); intro _ _) | ((with_reducible refine' r_list (Or.inr ?h1) ?_); (case h1 => walk_at "sq"); intro _ _)
  | ((with_reducible refine' r_tupL ?h1 ?_); (case h1 => walk_at "sq"); intro _ _) | ((with_reducible refine' r_tupT ?h1 ?_); (case h1 => walk_at "sq"))
  | ((with_reducible refine' r_disp ?h1 ?_); (case h1 => exact Nat.le_of_ble_eq_true rfl); intro _ _)
  | ((with_reducible refine r_dnewK ?_); intro _ _)
  | ((with_reducible refine' r_tyL ?h1 ?_); (case h1 => walk_at "sq")) | with_reducible refine r_strV ?_
  | with_reducible refine r_exb ?_ | with_reducible refine r_exi ?_ | with_reducible refine r_exr ?_ | with_reducible refine r_exs ?_ | with_reducible refine r_exli ?_)
local macro_rules | `(tactic| walk_at "go") => `(tactic| repeat walk_at "st")
local macro_rules | `(tactic| walk_at "in") => `(tactic| dsimp only [noxK, cxK, L2.start, List.map_cons, List.map_nil, List.length_cons, List.length_nil, Nat.reduceAdd, Nat.reduceSub, List.replicate, List.cons_append, List.nil_append])

section
variable {P : Program} {w : World} {K : PySem.W.Frag} {mg : Str → Option Value} {base : Heap} {C : Addr}
abbrev sLotSub : Stmt := inClass (top 14) 13
theorem scLotSub : FnScope ["self", "other", "kind", "many"] ["self", "other"] (defScope sLotSub) := ⟨rfl, rfl, rfl, by decide +kernel, rfl, by decide +kernel, by decide +kernel⟩
def spLotSub (C : Addr) : Sp := fun vs H Q _ => ∃ (a b : Addr) (m m2 : AL), vs = [.ref a, .ref b] ∧ LoA C H a m ∧ LoA C H b m2 ∧ (∀ k, get m2 k ≤ get m k) ∧
  ∀ (x : Addr) (m' : AL) (H' : Hp), H x = none → LoN C H H' x m' → (∀ k, get m' k = get m k - get m2 k) → Same H H' → Q (.ref x) H'
theorem ok_lotSub {f : Addr} {fd : FuncData} (F : Fun K "__sub__" "Lot.__sub__" sLotSub f fd) (L : TxL K C) (Op : OCal P w K mg base CX0 2 C "pairs" ["self"] (spLotPairs C)) (Og : OCal P w K mg base CX0 1 C "__getitem__" ["self", "at"] (spLotGetitem C)) (Om : OMk P w K mg base CX0 2 C "Lot" ["self", "pairs"] (spLotInit K C)) : FnOk P w K mg base CX0 4 f fd ["self", "other"] (spLotSub C) := by
  refine F.ok scLotSub (fun vs H Q E h => ?_) (fun cdv A outer s H vs Q E hr h => ?_)
  · obtain ⟨a, b, m, m2, rfl, _⟩ := h
    rfl
  · obtain ⟨a, b, m, m2, rfl, La, Lb, le, q⟩ := h
    refine ⟨_, (pss_cons (ps_for PassesOwn.never rfl (pi_tup (pe_methO0 Op L.oc.cl (hr.mono (by decide)) pass0 (pv 1))) (pg_tup rfl (pgs_cons (pg_name (i := 2) scLotSub.nd rfl (Or.inl rfl)) (pgs_cons (pg_name (i := 3) scLotSub.nd rfl (Or.inl rfl)) pgs_nil)))
  (pss_one (ps_if (pt_cmpR op_lt (pe_ixO Og (hr.mono (by decide)) pass0 (pv 0) (pv 2)) (pv 3) (nomark _))
  pss_never
  pss_nil)))
  (pss_one (ps_ret (pe_makeO Om hr pass0 (pa_cons (pe_lc (own := [("kind", 2), ("many", 3)]) (g := gTup _ 2 (gCons (gName 2) (gCons (gName 3) gNil))) (tt := tYes) rfl scLotSub.nd (pi_tup (pe_methO0 Op L.oc.cl (hr.mono (by decide)) pass0 (pv 0))) (blkOk_by (N := ["self", "other", "kind", "many"]) (sc := defScope sLotSub) (by decide +kernel)) (fun _ _ _ _ _ => (pg_tup rfl (pgs_cons (pg_name (i := 2) scLotSub.nd rfl (Or.inl rfl)) (pgs_cons (pg_name (i := 3) scLotSub.nd rfl (Or.inl rfl)) pgs_nil)))) (fun _ _ _ _ _ => pts_nil) (fun _ _ _ _ _ => (pe_tup (pa_cons (pv 2) (pa_cons (pe_op op_sub (pv 3) (pe_ixO Og (hr.mono (by decide)) pass0 (pv 1) (pv 2))) pa_nil))))) pa_nil))))), ?_⟩
    walk_at "in"
    walk_at "go"
    obtain ⟨⟨d, dx, h1, h2⟩, nd, mp, ml⟩ := id La
    obtain ⟨⟨d2, dx2, h12, h22⟩, nd2, mp2, ml2⟩ := id Lb
    refine r_meth0 ?_
    walk_at "go"
    refine ⟨b, dx2, _, rfl, h12, look1, b, m2, rfl, Lb, fun p2 ts2 qs2 H1 hp2 hp21 hts2 cn2 s1 => ?_⟩
    walk_at "go"
    refine for_it (walk_tup (xs := ts2)) (fun i σ H' => ∃ (x2 x3 : Option V), σ = [some (.ref a), some (.ref b), x2, x3] ∧ Same H1 H') ?_ ?_ ?_ ?_
    · exact ⟨none, none, rfl, fun c o e => e⟩
    · rintro i σ H' _ ⟨_, _, _, s2⟩
      exact SqT.of (s2 _ _ hp21)
    · rintro i x σ _ H2 hi ⟨x2, x3, rfl, s2⟩ ⟨rfl, hx⟩
      obtain ⟨r, hr1, t, rfl, ht⟩ := Paired.at hts2 hx
      have ht2 := s2 _ _ ht
      walk_at "go"
      refine r_ixO ?_
      walk_at "go"
      refine ⟨a, dx, _, rfl, s2 _ _ (s1 _ _ h1), a, r.1, m, rfl, (La.same s1).same s2, ?_⟩
      walk_at "go"
      have rm : r ∈ m2 := (cn2.mem mp2 r).mp (List.mem_of_getElem? hr1)
      have g2 : get m2 r.1 = r.2 := by
        unfold get
        rw [(look_mem nd2).mpr (show (r.1, r.2) ∈ m2 from rm)]
        rfl
      have lek := le r.1
      refine ite_dF (by omega) ?_
      walk_at "go"
      exact ⟨_, _, rfl, s2⟩
    rintro σ H2 ⟨x2, x3, rfl, s2⟩
    have s12 : Same H H2 := fun c o e => s2 _ _ (s1 _ _ e)
    walk_at "go"
    refine r_mk ?_
    walk_at "go"
    refine r_meth0 ?_
    walk_at "go"
    refine ⟨a, dx, _, rfl, s12 _ _ h1, look1, a, m, rfl, La.same s12, fun p ts qs H3 hp hp1 hts cn s3 => ?_⟩
    walk_at "go"
    have s13 : Same H H3 := fun c o e => s3 _ _ (s12 _ _ e)
    intro D hD
    have lts : ts.length ≤ 30 := by rw [Paired.len hts, cn.len mp]; exact ml
    have lq : ts.length = qs.length := Paired.len hts
    refine lc_it (walk_tup (xs := ts)) (fun i H' => ∃ xs, H' D = some (.lst xs) ∧ Paired (PrA H') xs ((qs.take i).map fun q => (q.1, q.2 - get m2 q.1)) ∧ Same H3 H') ?_ ?_ ?_ ?_
    · exact ⟨[], upd_same, .nil, fun c o e => by have n1 : c ≠ D := ne_of_none e hD; walk_at "hp"⟩
    · rintro i H' _ ⟨_, _, _, s4⟩
      exact SqT.of (s4 _ _ hp1)
    · rintro i x _ H4 hi ⟨xs, hD1, hxs, s4⟩ ⟨rfl, hx⟩
      obtain ⟨r, hr1, t, rfl, ht⟩ := Paired.at hts hx
      have ht2 := s4 _ _ ht
      walk_at "go"
      refine ⟨rfl, ?_⟩
      walk_at "go"
      refine iteT ?_
      walk_at "go"
      refine r_ixO ?_
      walk_at "go"
      have s14 : Same H H4 := fun c o e => s4 _ _ (s13 _ _ e)
      refine ⟨b, dx2, _, rfl, s14 _ _ h12, b, r.1, m2, rfl, Lb.same s14, ?_⟩
      walk_at "go"
      rename_i u hu1
      have n2 : D ≠ u := ne_of_none hD1 hu1
      have lxs := Paired.len hxs
      have ltk : ((qs.take i).map fun q => (q.1, q.2 - get m2 q.1)).length ≤ i := by rw [List.length_map, List.length_take]; omega
      have k2 : Kp D H4 (upd (upd H4 u (.tup [V.str r.1, V.int (r.2 - get m2 r.1)])) D (.lst (xs ++ [V.ref u]))) := fun c o e n => by walk_at "hp"
      refine ⟨xs, by walk_at "hp", szl (by omega), xs ++ [V.ref u], upd_same, ?_, fun c o e => ?_⟩
      · rw [List.take_add_one, hr1, List.map_append]
        exact Paired.app (PrA.kpdAll hxs k2 hD1 (fun _ z => by cases z)) (.cons ⟨u, rfl, by walk_at "hp"⟩ .nil)
      · have n4 : c ≠ D := ne_of_none e hD
        have e4 := s4 _ _ e
        walk_at "hp"
    · rintro H4 ⟨xs, hD1, hxs, s4⟩
      rw [lq, List.take_length] at hxs
      have lxs := Paired.len hxs
      rw [List.length_map] at lxs
      refine init_end hD1 hxs (by omega) (fun z hz => ?_) fun x m' H' hx La' hg s5 => ?_
      · obtain ⟨r, hr1, rfl⟩ := List.mem_map.mp hz
        have rm : r ∈ m := (cn.mem mp r).mp hr1
        have g1 : get m r.1 = r.2 := by
          unfold get
          rw [(look_mem nd).mpr (show (r.1, r.2) ∈ m from rm)]
          rfl
        have := le r.1
        show 0 ≤ r.2 - get m2 r.1
        omega
      · refine q x m' H' (s13.free (s4.free hx)) (La'.mono fun c o e => s4 _ _ (s13 _ _ e)) (fun k => ?_) fun c o e => s5 _ _ (s4 _ _ (s13 _ _ e))
        rw [hg k, cn.totf mp nd (fun k v => v - get m2 k)]
        split
        · rfl
        · rename_i hk
          have g0 := get_none hk
          have := le k
          have := get_nn mp2 nd2 k
          omega
end
end My

namespace My
open PySem L2
local macro_rules | `(tactic| walk_at "bx1") => `(tactic| first | with_reducible assumption | ((with_reducible refine' Bx.upd ?h1 ?h2); (case h1 => walk_at "bx1"); (case h2 => walk_at "ne")) | ((with_reducible refine' Bx.same ?h1 (by with_reducible assumption)); (case h1 => walk_at "bx1")))
local macro_rules | `(tactic| walk_at "bx") => `(tactic| (refine' Bx.mono ?h1 ?h2; (case h1 => walk_at "bx1"); (case h2 => omega)))
local macro_rules | `(tactic| walk_at "ne") => `(tactic| first | with_reducible assumption | exact Ne.symm (by with_reducible assumption) | ((with_reducible refine' ne_of_none ?h1 (by with_reducible assumption)); (case h1 => walk_at "hp")) | ((with_reducible refine' Ne.symm (ne_of_none ?h1 (by with_reducible assumption))); (case h1 => walk_at "hp")) | ((with_reducible refine' Bx.ne ?h1 (by with_reducible assumption)); (case h1 => walk_at "bx1")) | ((with_reducible refine' Ne.symm (Bx.ne ?h1 (by with_reducible assumption))); (case h1 => walk_at "bx1")))
local macro_rules | `(tactic| walk_at "hp") => `(tactic| first | with_reducible assumption | ((with_reducible refine' (upd_same.trans ?h1)); (case h1 => rfl)) | ((with_reducible refine' My.upd_at ?h1 ?h2); (case h1 => walk_at "hp"); (case h2 => walk_at "ne")) | ((with_reducible refine' My.Kp.at (by with_reducible assumption) ?h1 ?h2); (case h1 => walk_at "hp"); (case h2 => walk_at "ne")) | ((with_reducible refine' My.Same.at (by with_reducible assumption) ?h1); (case h1 => walk_at "hp")))
local macro_rules | `(tactic| walk_at "sq") => `(tactic| first | with_reducible assumption | exact SqL.of (by walk_at "hp") | exact SqT.of (by walk_at "hp") | ((with_reducible refine' My.SqT.upd ?h1 (by with_reducible assumption)); (case h1 => walk_at "sq")) | ((with_reducible refine' My.SqL.upd ?h1 (by with_reducible assumption)); (case h1 => walk_at "sq")) | ((with_reducible refine' Same.seq (by with_reducible assumption) ?h1); (case h1 => walk_at "sq")) | ((with_reducible refine' My.SqT.same ?h1 (by with_reducible assumption)); (case h1 => walk_at "sq")) | ((with_reducible refine' My.SqT.kp ?h1 (by with_reducible assumption) ?h2); (case h1 => walk_at "sq"); (case h2 => walk_at "bx1")) | ((with_reducible refine' My.SqL.kp ?h1 (by with_reducible assumption) ?h2); (case h1 => walk_at "sq"); (case h2 => walk_at "ne")))
local macro_rules | `(tactic| walk_at "sd") => `(tactic| first | assumption | omega | decide | (refine ⟨?_, ?_⟩ <;> (first | omega | decide)) | (refine Or.inl ⟨?_, ?_⟩ <;> (first | omega | decide)) | (refine Or.inr ⟨?_, ?_⟩ <;> (first | omega | decide)) | (refine ⟨?_, ?_, ?_⟩ <;> (first | omega | decide)))
local macro_rules | `(tactic| walk_at "ps") => `(tactic| first
  | with_reducible refine r_seq ?_ | with_reducible refine r_asg ?_ | with_reducible refine r_op ?_ | with_reducible refine r_cons ?_ | with_reducible refine r_nil ?_ | with_reducible refine r_c ?_
  | with_reducible refine' r_var rfl ?_ | with_reducible refine r_gname ?_ | with_reducible refine r_cb ?_ | with_reducible refine r_I0 ?_ | with_reducible refine r_ret ?_ | with_reducible refine r_ifS ?_ | with_reducible refine r_test ?_ | with_reducible refine r_B ?_
  | with_reducible refine r_next ?_ | with_reducible refine r_drop ?_ | with_reducible refine r_if ?_ | with_reducible refine r_un ?_ | with_reducible refine r_U ?_ | with_reducible refine r_gsub ?_ | with_reducible refine r_tup ?_ | with_reducible refine r_lst ?_ | with_reducible refine r_bm ?_
  | with_reducible refine r_cal ?_ | with_reducible refine r_not ?_ | with_reducible refine r_and ?_ | with_reducible refine r_or ?_ | with_reducible refine r_andV ?_ | with_reducible refine r_orV ?_ | with_reducible refine r_notV ?_
  | with_reducible refine r_abs ?_ | with_reducible refine r_intI ?_ | with_reducible refine r_intB ?_ | with_reducible refine r_m1 ?_ | with_reducible refine r_slice ?_ | with_reducible refine r_part ?_ | with_reducible refine r_nopart ?_
  | with_reducible refine r_gcons ?_ | with_reducible refine r_gnil ?_
  | with_reducible refine r_par ?_ | with_reducible refine r_par3 ?_ | with_reducible refine r_ex2 ?_ | with_reducible refine r_ex3 ?_
  | with_reducible refine r_isN ?_ | with_reducible refine r_notN ?_
  | with_reducible refine r_iZipA ?_
  | with_reducible refine r_dget ?_ | with_reducible refine r_dget2 ?_ | with_reducible refine r_iKeys ?_ | with_reducible refine r_dput ?_
  | with_reducible refine r_for ?_ | with_reducible refine r_lc ?_ | with_reducible refine r_iList ?_ | with_reducible refine r_iTup ?_ | with_reducible refine r_iRng1 ?_ | with_reducible refine r_iEnum ?_ | with_reducible refine r_orT ?_ | with_reducible refine r_yes ?_ | with_reducible refine r_ixSl ?_)
local macro_rules | `(tactic| walk_at "st") => `(tactic| first
  | walk_at "ps"
  | ((with_reducible refine' r_ixL ?h1 ?h2 ?_); (case h1 => walk_at "sq"); (case h2 => rfl))
  | ((with_reducible refine' r_setL ?h1 ?h2 ?_); (case h1 => walk_at "hp"); (case h2 => rfl))
  | ((with_reducible refine' r_I ?h1 ?_); (case h1 => walk_at "sd"))
  | ((with_reducible refine' r_eq ?h1 ?_); (case h1 => rfl)) | ((with_reducible refine' r_ne ?h1 ?_); (case h1 => rfl))
  | ((with_reducible refine' r_lenL ?h1 ?_); (case h1 => walk_at "sq")) | ((with_reducible refine' r_lenT ?h1 ?_); (case h1 => walk_at "sq")) | ((with_reducible refine' r_lenD ?h1 ?_); (case h1 => walk_at "hp"))
  | ((with_reducible refine' r_slL ?h1 ?_); (case h1 => walk_at "sq"); intro _ _)
  | ((with_reducible refine' r_append ?h1 ?h2 ?_); (case h1 => walk_at "hp"); (case h2 => exact szl (by first | omega | (simp; omega))))
  | ((with_reducible refine' r_gtup ?h1 ?h2 ?_); (case h1 => walk_at "sq"); (case h2 => rfl))
  | ((with_reducible refine' r_cat ?h1 ?h2 ?h3 ?_); (case h1 => walk_at "hp"); (case h2 => walk_at "hp"); (case h3 => exact sz (by first | omega | (simp; omega))); intro _ _)
  | ((with_reducible refine' r_wLst ?h1 ?_); (case h1 => walk_at "sq")) | ((with_reducible refine' r_wTup ?h1 ?_); (case h1 => walk_at "sq"))
  | ((with_reducible refine' r_wRng ?h1 ?_); (case h1 => walk_at "sd"))
  | ((with_reducible refine' r_truL ?h1 ?_); (case h1 => walk_at "sq"))
  | ((with_reducible refine' r_list (Or.inl ?h1) ?_); (case h1 => walk_at "sq"); intro _ _) | ((with_reducible refine' r_list (Or.inr ?h1) ?_); (case h1 => walk_at "sq"); intro _ _)
  | ((with_reducible refine' r_tupL ?h1 ?_); (case h1 => walk_at "sq"); intro _ _) | ((with_reducible refine' r_tupT ?h1 ?_); (case h1 => walk_at "sq"))
  | ((with_reducible refine' r_disp ?h1 ?_); (case h1 => exact Nat.le_of_ble_eq_true rfl); intro _ _)
  | ((with_reducible refine r_dnewK ?_); intro _ _)
  | ((with_reducible refine' r_tyL ?h1 ?_); (case h1 => walk_at "sq")) | with_reducible refine r_strV ?_
  | with_reducible refine r_exb ?_ | with_reducible refine r_exi ?_ | with_reducible refine r_exr ?_ | with_reducible refine r_exs ?_ | with_reducible refine r_exli ?_)
local macro_rules | `(tactic| walk_at "go") => `(tactic| repeat walk_at "st")
local macro_rules | `(tactic| walk_at "in") => `(tactic| dsimp only [noxK, cxK, L2.start, List.map_cons, List.map_nil, List.length_cons, List.length_nil, Nat.reduceAdd, Nat.reduceSub, List.replicate, List.cons_append, List.nil_append])

section
variable {P : Program} {w : World} {K : PySem.W.Frag} {mg : Str → Option Value} {base : Heap} {C : Addr}
theorem look_pos {m : AL} (nd : (keys m).Nodup) (ps : ∀ p ∈ m, 0 < p.2) (k : Str) : (look m k).isSome = decide (0 < get m k) := by
  cases e : look m k with
  | none =>
    have : get m k = 0 := by unfold get; rw [e]; rfl
    rw [this]
    rfl
  | some v =>
    have h1 := ps _ ((look_mem nd).mp e)
    have h2 : get m k = v := by unfold get; rw [e]; rfl
    rw [h2]
    exact (decide_eq_true (show 0 < v from h1)).symm
abbrev sLotContains : Stmt := inClass (top 14) 5
theorem scLotContains : FnScope ["self", "x"] ["self", "x"] (defScope sLotContains) := ⟨rfl, rfl, rfl, by decide +kernel, rfl, by decide +kernel, by decide +kernel⟩
def spLotContains (C : Addr) : Sp := fun vs H Q _ => ∃ (a : Addr) (k : Str) (m : AL), vs = [.ref a, .str k] ∧ LoA C H a m ∧ Q (.bl (decide (0 < get m k))) H
theorem ok_lotContains {f : Addr} {fd : FuncData} (F : Fun K "__contains__" "Lot.__contains__" sLotContains f fd) (L : TxL K C) : FnOk P w K mg base CX0 1 f fd ["self", "x"] (spLotContains C) := by
  refine F.ok scLotContains (fun vs H Q E h => ?_) (fun cdv A outer s H vs Q E hr h => ?_)
  · obtain ⟨a, k, m, rfl, _⟩ := h
    rfl
  · obtain ⟨a, k, m, rfl, ⟨⟨d, dx, h1, h2⟩, nd, mp, ml⟩, q⟩ := h
    have hu := hu_of hr
    refine ⟨_, pss_one (ps_ret (pe_cmp (pc_din hu (pv 1) (pe_fld (pv 0) rfl)))), ?_⟩
    walk_at "in"
    refine r_ret (r_var rfl (r_many L h1 ⟨d, (look m k).map V.int, rfl, DGet_enc (.inl h2) rfl, ?_⟩))
    rw [Option.isSome_map, look_pos nd mp]
    exact q
abbrev sLotAbs : Stmt := inClass (top 14) 7
theorem scLotAbs : FnScope ["self", "kind"] ["self"] (defScope sLotAbs) := ⟨rfl, rfl, rfl, by decide +kernel, rfl, by decide +kernel, by decide +kernel⟩
def vals (m : AL) : List Int := m.map (·.2)
def spLotAbs (C : Addr) : Sp := fun vs H Q _ => ∃ (a : Addr) (m : AL), vs = [.ref a] ∧ LoA C H a m ∧ ∀ H', Same H H' → Q (.int (vals m).sum) H'
theorem ok_lotAbs {f : Addr} {fd : FuncData} (F : Fun K "__abs__" "Lot.__abs__" sLotAbs f fd) (T : Txt K mg) (L : TxL K C) : FnOk P w K mg base CX0 1 f fd ["self"] (spLotAbs C) := by
  refine F.ok scLotAbs (fun vs H Q E h => ?_) (fun cdv A outer s H vs Q E hr h => ?_)
  · obtain ⟨a, m, rfl, _⟩ := h
    rfl
  · obtain ⟨a, m, rfl, ⟨⟨d, dx, h1, h2⟩, nd, mp, ml⟩, q⟩ := h
    have hu := hu_of hr
    refine ⟨_, (pss_one (ps_ret (pe_callB (cr_sum rfl) (by rfl) T.sum (by decide +kernel) (pa_cons (pe_lock (pe_lc (own := [("kind", 1)]) (g := gName 1) (tt := tYes) rfl scLotAbs.nd (pi_keys (pe_fld (pv 0) rfl)) (blkOk_by (N := ["self", "kind"]) (sc := defScope sLotAbs) (by decide +kernel)) (fun _ _ _ _ _ => (pg_name (i := 1) scLotAbs.nd rfl (Or.inl rfl))) (fun _ _ _ _ _ => pts_nil) (fun _ _ _ _ _ => (pe_dget hu (fldK K (pv 0) rfl) (pv 1) (fun _ _ => rfl))))) pa_nil)))), ?_⟩
    walk_at "in"
    walk_at "go"
    have nad : a ≠ d := fun z => by rw [z, h2] at h1; cases h1
    refine r_lockE h2 trivial fun od => ?_
    have h1f : (upd H d (.frz od (.dK (enc m)))) a = some (.ins C dx [("_many", .ref d)]) := by rw [upd_ne nad]; exact h1
    walk_at "go"
    refine r_many L h1f ?_
    refine ⟨d, od, rfl, Or.inl ⟨enc m, upd_same, ?_⟩⟩
    intro D hD
    have nDd : D ≠ d := fun z => by rw [z, upd_same] at hD; cases hD
    have hD0 : H D = none := by rw [upd_ne nDd] at hD; exact hD
    refine lc_it (walk_keys (kvs := enc m)) (fun i H' => H' D = some (.lst ((vals (m.take i)).map V.int)) ∧ Same (upd H d (.frz od (.dK (enc m)))) H') ?_ ?_ ?_ ?_
    · exact ⟨upd_same, fun c o e => upd_at e (ne_of_none e hD)⟩
    · rintro i H' _ ⟨_, s1⟩
      exact s1 _ _ upd_same
    · rintro i x _ H1 hi ⟨hD1, s1⟩ ⟨rfl, k, v, hkv, rfl⟩
      obtain ⟨p, hp, rfl, rfl⟩ := enc_at hkv
      walk_at "go"
      refine ⟨rfl, ?_⟩
      walk_at "go"
      refine iteT ?_
      walk_at "go"
      refine r_many L (s1 _ _ h1f) (r_var rfl ⟨d, .int p.2, rfl, DGet_enc (r := some p.2) (Or.inr ⟨od, s1 _ _ upd_same⟩) (look_at nd hp), _, hD1, szl ?_, ?_, fun c o e => upd_at (s1 _ _ e) (ne_of_none e hD)⟩)
      · unfold vals
        rw [List.length_map, List.length_map, List.length_take]
        omega
      · rw [show vals (List.take (i + 1) m) = vals (List.take i m) ++ [p.2] by unfold vals; rw [List.take_add_one, hp, List.map_append]; rfl, List.map_append]
        exact upd_same
    · rintro H1 ⟨hD1, s1⟩
      rw [enc_len, List.take_length] at hD1
      refine ⟨s1 _ _ upd_same, r_nil ⟨D, vals m, rfl, SqL.of (by rw [upd_ne nDd]; exact hD1), q _ fun c o e => ?_⟩⟩
      by_cases z : c = d
      · rw [z, h2] at e
        rw [z, ← e]
        exact upd_same
      · rw [upd_ne z]
        exact s1 _ _ (by rw [upd_ne z]; exact e)
/-- facts for isinstance of an own object -/
structure TxIs (K : PySem.W.Frag) (C : Addr) : Prop where
  ha : PySem.W.findIn K (.ref C) "__class__" = some (some (.builtin "object.__class__"))
  hn : PySem.W.specialIn K (.builtin "object.__class__") "__get__" = some (some (.builtin "getset_descriptor.__get__"))
  ht : PySem.W.takesIn K (.builtin "object.__class__") = some true
  hm : PySem.W.mroIn K C (.type "object") = some true
  kt : PySem.W.kitOne K (.type "tuple") (.ref C) = some false
/-- the other methods, by operators -/
abbrev sLotEq : Stmt := inClass (top 14) 8
theorem scLotEq : FnScope ["self", "other"] ["self", "other"] (defScope sLotEq) := ⟨rfl, rfl, rfl, by decide +kernel, rfl, by decide +kernel, by decide +kernel⟩
def spLotEq (C : Addr) : Sp := fun vs H Q _ => ∃ (a b : Addr) (m m2 : AL), vs = [.ref a, .ref b] ∧ LoA C H a m ∧ LoA C H b m2 ∧ ∀ H', Same H H' → Q (.bl (dEq m m2)) H'
theorem ok_lotEq {f : Addr} {fd : FuncData} (F : Fun K "__eq__" "Lot.__eq__" sLotEq f fd) (T : Txt K mg) (L : TxL K C) (S : TxIs K C) (gC : mg "Lot" = some (.ref C)) : FnOk P w K mg base CX0 1 f fd ["self", "other"] (spLotEq C) := by
  refine F.ok scLotEq (fun vs H Q E h => ?_) (fun cdv A outer s H vs Q E hr h => ?_)
  · obtain ⟨a, b, m, m2, rfl, _⟩ := h
    rfl
  · obtain ⟨a, b, m, m2, rfl, La, Lb, q⟩ := h
    have hu := hu_of hr
    obtain ⟨⟨d, dx, h1, h2⟩, nd, mp, ml⟩ := id La
    obtain ⟨⟨d2, dx2, h12, h22⟩, nd2, mp2, ml2⟩ := id Lb
    refine ⟨_, (pss_one (ps_ret (pe_and (pe_callB call_isi (by rfl) T.isinstance (by decide +kernel) (pa_cons (pv 1) (pa_cons (pe_glob (v := .ref C) (by rfl) gC rfl) pa_nil))) (pe_one (pe_cmpR (op_eqDE (Nat.lt_of_le_of_lt (Nat.le_add_right _ 1) hu)) (pe_fld (pv 0) rfl) (pe_fld (pv 1) rfl) (nomark _)))))), ?_⟩
    walk_at "in"
    walk_at "go"
    refine ⟨.ref b, .ref C, .ref C, .ref C, true, rfl, .own C, .base (.ins h12 L.oc.cl S.ha S.hn S.ht S.hm), by unfold PySem.W.kitOne; rw [if_pos (beq_self_eq_true _)], true, rfl, iteT ?_⟩
    exact r_op (r_many L h1 (r_many L h12 ⟨d, d2, m, m2, rfl, rfl, h2, h22, q _ fun _ _ e => e⟩))
def spLotEqT (C : Addr) : Sp := fun vs H Q _ => ∃ (a b : Addr) (xs : List V), vs = [.ref a, .ref b] ∧ H b = some (.tup xs) ∧ ∀ H', Same H H' → Q (.bl false) H'
theorem ok_lotEqT {f : Addr} {fd : FuncData} (F : Fun K "__eq__" "Lot.__eq__" sLotEq f fd) (T : Txt K mg) (S : TxIs K C) (gC : mg "Lot" = some (.ref C)) : FnOk P w K mg base CX0 1 f fd ["self", "other"] (spLotEqT C) := by
  refine F.ok scLotEq (fun vs H Q E h => ?_) (fun cdv A outer s H vs Q E hr h => ?_)
  · obtain ⟨a, b, xs, rfl, _⟩ := h
    rfl
  · obtain ⟨a, b, xs, rfl, hb, q⟩ := h
    have hu := hu_of hr
    refine ⟨_, (pss_one (ps_ret (pe_and (pe_callB call_isi (by rfl) T.isinstance (by decide +kernel) (pa_cons (pv 1) (pa_cons (pe_glob (v := .ref C) (by rfl) gC rfl) pa_nil))) (pe_one (pe_cmpR (op_eqDE (Nat.lt_of_le_of_lt (Nat.le_add_right _ 1) hu)) (pe_fld (pv 0) rfl) (pe_fld (pv 1) rfl) (nomark _)))))), ?_⟩
    walk_at "in"
    walk_at "go"
    exact ⟨.ref b, .ref C, .type "tuple", .ref C, false, rfl, .own C, .base (.tup hb), S.kt, false, rfl, iteF (q _ fun _ _ e => e)⟩
end
end My

namespace My
open PySem L2
local macro_rules | `(tactic| walk_at "bx1") => `(tactic| first | with_reducible assumption | ((with_reducible refine' Bx.upd ?h1 ?h2); (case h1 => walk_at "bx1"); (case h2 => walk_at "ne")) | ((with_reducible refine' Bx.same ?h1 (by with_reducible assumption)); (case h1 => walk_at "bx1")))
local macro_rules | `(tactic| walk_at "bx") => `(tactic| (refine' Bx.mono ?h1 ?h2; (case h1 => walk_at "bx1"); (case h2 => omega)))
local macro_rules | `(tactic| walk_at "ne") => `(tactic| first | with_reducible assumption | exact Ne.symm (by with_reducible assumption) | ((with_reducible refine' ne_of_none ?h1 (by with_reducible assumption)); (case h1 => walk_at "hp")) | ((with_reducible refine' Ne.symm (ne_of_none ?h1 (by with_reducible assumption))); (case h1 => walk_at "hp")) | ((with_reducible refine' Bx.ne ?h1 (by with_reducible assumption)); (case h1 => walk_at "bx1")) | ((with_reducible refine' Ne.symm (Bx.ne ?h1 (by with_reducible assumption))); (case h1 => walk_at "bx1")))
local macro_rules | `(tactic| walk_at "hp") => `(tactic| first | with_reducible assumption | ((with_reducible refine' (upd_same.trans ?h1)); (case h1 => rfl)) | ((with_reducible refine' My.upd_at ?h1 ?h2); (case h1 => walk_at "hp"); (case h2 => walk_at "ne")) | ((with_reducible refine' My.Kp.at (by with_reducible assumption) ?h1 ?h2); (case h1 => walk_at "hp"); (case h2 => walk_at "ne")) | ((with_reducible refine' My.Same.at (by with_reducible assumption) ?h1); (case h1 => walk_at "hp")))
local macro_rules | `(tactic| walk_at "sq") => `(tactic| first | with_reducible assumption | exact SqL.of (by walk_at "hp") | exact SqT.of (by walk_at "hp") | ((with_reducible refine' My.SqT.upd ?h1 (by with_reducible assumption)); (case h1 => walk_at "sq")) | ((with_reducible refine' My.SqL.upd ?h1 (by with_reducible assumption)); (case h1 => walk_at "sq")) | ((with_reducible refine' Same.seq (by with_reducible assumption) ?h1); (case h1 => walk_at "sq")) | ((with_reducible refine' My.SqT.same ?h1 (by with_reducible assumption)); (case h1 => walk_at "sq")) | ((with_reducible refine' My.SqT.kp ?h1 (by with_reducible assumption) ?h2); (case h1 => walk_at "sq"); (case h2 => walk_at "bx1")) | ((with_reducible refine' My.SqL.kp ?h1 (by with_reducible assumption) ?h2); (case h1 => walk_at "sq"); (case h2 => walk_at "ne")))
local macro_rules | `(tactic| walk_at "sd") => `(tactic| first | assumption | omega | decide | (refine ⟨?_, ?_⟩ <;> (first | omega | decide)) | (refine Or.inl ⟨?_, ?_⟩ <;> (first | omega | decide)) | (refine Or.inr ⟨?_, ?_⟩ <;> (first | omega | decide)) | (refine ⟨?_, ?_, ?_⟩ <;> (first | omega | decide)))
local macro_rules | `(tactic| walk_at "ps") => `(tactic| first
  | with_reducible refine r_seq ?_ | with_reducible refine r_asg ?_ | with_reducible refine r_op ?_ | with_reducible refine r_cons ?_ | with_reducible refine r_nil ?_ | with_reducible refine r_c ?_
  | with_reducible refine' r_var rfl ?_ | with_reducible refine r_gname ?_ | with_reducible refine r_cb ?_ | with_reducible refine r_I0 ?_ | with_reducible refine r_ret ?_ | with_reducible refine r_ifS ?_ | with_reducible refine r_test ?_ | with_reducible refine r_B ?_
  | with_reducible refine r_next ?_ | with_reducible refine r_drop ?_ | with_reducible refine r_if ?_ | with_reducible refine r_un ?_ | with_reducible refine r_U ?_ | with_reducible refine r_gsub ?_ | with_reducible refine r_tup ?_ | with_reducible refine r_lst ?_ | with_reducible refine r_bm ?_
  | with_reducible refine r_cal ?_ | with_reducible refine r_not ?_ | with_reducible refine r_and ?_ | with_reducible refine r_or ?_ | with_reducible refine r_andV ?_ | with_reducible refine r_orV ?_ | with_reducible refine r_notV ?_
  | with_reducible refine r_abs ?_ | with_reducible refine r_intI ?_ | with_reducible refine r_intB ?_ | with_reducible refine r_m1 ?_ | with_reducible refine r_slice ?_ | with_reducible refine r_part ?_ | with_reducible refine r_nopart ?_
  | with_reducible refine r_gcons ?_ | with_reducible refine r_gnil ?_
  | with_reducible refine r_par ?_ | with_reducible refine r_par3 ?_ | with_reducible refine r_ex2 ?_ | with_reducible refine r_ex3 ?_
  | with_reducible refine r_isN ?_ | with_reducible refine r_notN ?_
  | with_reducible refine r_iZipA ?_
  | with_reducible refine r_dget ?_ | with_reducible refine r_dget2 ?_ | with_reducible refine r_iKeys ?_ | with_reducible refine r_dput ?_
  | with_reducible refine r_for ?_ | with_reducible refine r_lc ?_ | with_reducible refine r_iList ?_ | with_reducible refine r_iTup ?_ | with_reducible refine r_iRng1 ?_ | with_reducible refine r_iEnum ?_ | with_reducible refine r_orT ?_ | with_reducible refine r_yes ?_ | with_reducible refine r_ixSl ?_)
local macro_rules | `(tactic| walk_at "st") => `(tactic| first
  | walk_at "ps"
  | ((with_reducible refine' r_ixL ?h1 ?h2 ?_); (case h1 => walk_at "sq"); (case h2 => rfl))
  | ((with_reducible refine' r_setL ?h1 ?h2 ?_); (case h1 => walk_at "hp"); (case h2 => rfl))
  | ((with_reducible refine' r_I ?h1 ?_); (case h1 => walk_at "sd"))
  | ((with_reducible refine' r_eq ?h1 ?_); (case h1 => rfl)) | ((with_reducible refine' r_ne ?h1 ?_); (case h1 => rfl))
  | ((with_reducible refine' r_lenL ?h1 ?_); (case h1 => walk_at "sq")) | ((with_reducible refine' r_lenT ?h1 ?_); (case h1 => walk_at "sq")) | ((with_reducible refine' r_lenD ?h1 ?_); (case h1 => walk_at "hp"))
  | ((with_reducible refine' r_slL ?h1 ?_); (case h1 => walk_at "sq"); intro _ _)
  | ((with_reducible refine' r_append ?h1 ?h2 ?_); (case h1 => walk_at "hp"); (case h2 => exact szl (by first | omega | (simp; omega))))
  | ((with_reducible refine' r_gtup ?h1 ?h2 ?_); (case h1 => walk_at "sq"); (case h2 => rfl))
  | ((with_reducible refine' r_cat ?h1 ?h2 ?h3 ?_); (case h1 => walk_at "hp"); (case h2 => walk_at "hp"); (case h3 => exact sz (by first | omega | (simp; omega))); intro _ _)
  | ((with_reducible refine' r_wLst ?h1 ?_); (case h1 => walk_at "sq")) | ((with_reducible refine' r_wTup ?h1 ?_); (case h1 => walk_at "sq"))
  | ((with_reducible refine' r_wRng ?h1 ?_); (case h1 => walk_at "sd"))
  | ((with_reducible refine' r_truL ?h1 ?_); (case h1 => walk_at "sq"))
  | ((with_reducible refine' r_list (Or.inl ?h1) ?_); (case h1 => walk_at "sq"); intro _ _) | ((with_reducible refine' r_list (Or.inr ?h1) ?_); (case h1 => walk_at "sq"); intro _ _)
  | ((with_reducible refine' r_tupL ?h1 ?_); (case h1 => walk_at "sq"); intro _ _) | ((with_reducible refine' r_tupT ?h1 ?_); (case h1 => walk_at "sq"))
  | ((with_reducible refine' r_disp ?h1 ?_); (case h1 => exact Nat.le_of_ble_eq_true rfl); intro _ _)
  | ((with_reducible refine r_dnewK ?_); intro _ _)
  | ((with_reducible refine' r_tyL ?h1 ?_); (case h1 => walk_at "sq")) | with_reducible refine r_strV ?_
  | with_reducible refine r_exb ?_ | with_reducible refine r_exi ?_ | with_reducible refine r_exr ?_ | with_reducible refine r_exs ?_ | with_reducible refine r_exli ?_)
local macro_rules | `(tactic| walk_at "go") => `(tactic| repeat walk_at "st")
local macro_rules | `(tactic| walk_at "in") => `(tactic| dsimp only [noxK, cxK, L2.start, List.map_cons, List.map_nil, List.length_cons, List.length_nil, Nat.reduceAdd, Nat.reduceSub, List.replicate, List.cons_append, List.nil_append])

section
variable {P : Program} {w : World} {K : PySem.W.Frag} {mg : Str → Option Value} {base : Heap} {C : Addr}
/-- __init__ of pairs as a tuple -/
def spLotInitT (K : PySem.W.Frag) (C : Addr) : Sp := fun vs H Q _ => ∃ (p dx l : Addr) (xs : List V) (ps : AL), vs = [.ref p, .ref l] ∧ H p = some (.ins C dx []) ∧ SqT K H l xs ∧ Paired (PrA H) xs ps ∧ xs.length ≤ 30 ∧ (∀ q ∈ ps, 0 ≤ q.2) ∧
  ∀ (m : AL) (H' : Hp), LoN C H H' p m → (∀ k, get m k = tot ps k) → (∀ c o, H c = some o → c ≠ p → H' c = some o) → Q .non H'
theorem ok_lotInitT {f t0 : Addr} {fd : FuncData} (F : FunD K "__init__" "Lot.__init__" (defArgs sLotInit) (defBody sLotInit) (defScope sLotInit) [.ref t0] [] f fd) (L : TxL K C) (Cc : Cal P w K mg base CX0 1 "_counted" ["pairs"] (spOwnCountedT K)) : FnOk P w K mg base CX0 2 f fd ["self", "pairs"] (spLotInitT K C) := by
  refine F.ok scLotInit (fun vs H Q E h => ?_) (fun cdv A outer s H vs Q E hr h => ?_)
  · obtain ⟨p, dx, l, xs, ps, rfl, _⟩ := h
    rfl
  · obtain ⟨p, dx, l, xs, ps, rfl, hp, hl, hps, h30, h0, q⟩ := h
    refine ⟨_, (pss_one (ps_fld (pv 0) (pe_cal Cc hr pass0 (pa_cons (pv 1) pa_nil)) rfl)), ?_⟩
    walk_at "in"
    show tCal (spOwnCountedT K) E0 (tCons (tVar 1) tNil) _ H _
    walk_at "go"
    refine ⟨l, xs, ps, rfl, hl, hps, h30, h0, fun d m H1 hd hm nd mp hg lm s1 => ?_⟩
    have n1 : d ≠ p := fun z => by rw [z, hp] at hd; cases hd
    refine ⟨_, rfl, p, C, dx, [], rfl, s1 _ _ hp, L.oc.cl, L.nM, by show 0 < 1000; decide, ?_⟩
    refine q m _ ⟨d, hd, ⟨dx, upd_same⟩, by walk_at "hp", nd, mp, by omega⟩ hg fun c o e n => ?_
    walk_at "hp"
/-- Lot(xs) of a tuple by __init__'s promise -/
theorem initT_end {H2 : Hp} {D : Addr} {xs : List V} {ps : AL} {R : Addr → Hp → Prop} {E : XK} (hD : SqT K H2 D xs) (hps : Paired (PrA H2) xs ps) (hl : xs.length ≤ 30) (h0 : ∀ q ∈ ps, 0 ≤ q.2)
    (q : ∀ (x : Addr) (m' : AL) (H' : Hp), H2 x = none → LoN C H2 H' x m' → (∀ k, get m' k = tot ps k) → Same H2 H' → R x H') :
    ∀ x dx, H2 x = none → H2 dx = none → dx ≠ x → spLotInitT K C [.ref x, .ref D] (upd (upd H2 dx (.own x)) x (.ins C dx [])) (fun v H2 => v = .non ∧ R x H2) E := by
  intro x dx hx hdx ne
  have s1 : Same H2 (upd (upd H2 dx (.own x)) x (.ins C dx [])) := fun c o e => by
    have n1 : c ≠ x := ne_of_none e hx
    have n2 : c ≠ dx := ne_of_none e hdx
    walk_at "hp"
  refine ⟨x, dx, D, xs, ps, rfl, upd_same, My.SqT.same hD s1, Paired.mapP hps fun _ _ z => z.same s1, hl, h0, fun m H' La hg kp => ⟨rfl, ?_⟩⟩
  refine q x m H' hx (La.mono s1) hg fun c o e => ?_
  exact kp c o (s1 c o e) (ne_of_none e hx)
abbrev sLotAdd : Stmt := inClass (top 14) 12
theorem scLotAdd : FnScope ["self", "other"] ["self", "other"] (defScope sLotAdd) := ⟨rfl, rfl, rfl, by decide +kernel, rfl, by decide +kernel, by decide +kernel⟩
def spLotAdd (C : Addr) : Sp := fun vs H Q _ => ∃ (a b : Addr) (m m2 : AL), vs = [.ref a, .ref b] ∧ LoA C H a m ∧ LoA C H b m2 ∧ m.length + m2.length ≤ 30 ∧
  ∀ (x : Addr) (m' : AL) (H' : Hp), H x = none → LoN C H H' x m' → (∀ k, get m' k = get m k + get m2 k) → Same H H' → Q (.ref x) H'
theorem ok_lotAdd {f : Addr} {fd : FuncData} (F : Fun K "__add__" "Lot.__add__" sLotAdd f fd) (L : TxL K C) (Op : OCal P w K mg base CX0 2 C "pairs" ["self"] (spLotPairs C)) (Om : OMk P w K mg base CX0 2 C "Lot" ["self", "pairs"] (spLotInitT K C)) : FnOk P w K mg base CX0 4 f fd ["self", "other"] (spLotAdd C) := by
  refine F.ok scLotAdd (fun vs H Q E h => ?_) (fun cdv A outer s H vs Q E hr h => ?_)
  · obtain ⟨a, b, m, m2, rfl, _⟩ := h
    rfl
  · obtain ⟨a, b, m, m2, rfl, La, Lb, lm, q⟩ := h
    refine ⟨_, (pss_one (ps_ret (pe_makeO Om hr pass0 (pa_cons (pe_op op_catA (pe_methO0 Op L.oc.cl (hr.mono (by decide)) pass0 (pv 0)) (pe_methO0 Op L.oc.cl (hr.mono (by decide)) pass0 (pv 1))) pa_nil)))), ?_⟩
    walk_at "in"
    walk_at "go"
    obtain ⟨⟨d, dx, h1, h2⟩, nd, mp, ml⟩ := id La
    obtain ⟨⟨d2, dx2, h12, h22⟩, nd2, mp2, ml2⟩ := id Lb
    refine r_mk ?_
    walk_at "go"
    refine r_meth0 ?_
    walk_at "go"
    refine ⟨a, dx, _, rfl, h1, look1, a, m, rfl, La, fun p ts qs H1 hp hp1 hts cn s1 => ?_⟩
    refine r_meth0 ?_
    walk_at "go"
    refine ⟨b, dx2, _, rfl, s1 _ _ h12, look1, b, m2, rfl, Lb.same s1, fun p2 ts2 qs2 H2 hp2 hp21 hts2 cn2 s2 => ?_⟩
    have l1 : ts.length = m.length := (Paired.len hts).trans (cn.len mp)
    have l2 : ts2.length = m2.length := (Paired.len hts2).trans (cn2.len mp2)
    refine r_catA (SqT.of (s2 _ _ hp1)) (SqT.of hp21) (sz (by omega)) fun c H3 hc s3 => ?_
    walk_at "go"
    have pp : Paired (PrA H3) (ts ++ ts2) (qs ++ qs2) := Paired.app (Paired.mapP hts fun _ _ z => (z.same s2).same s3) (Paired.mapP hts2 fun _ _ z => z.same s3)
    have s13 : Same H H3 := fun c o e => s3 _ _ (s2 _ _ (s1 _ _ e))
    refine initT_end hc pp (by rw [List.length_append]; omega) (fun z hz => ?_) fun x m' H' hx La' hg s4 => ?_
    · rcases List.mem_append.mp hz with z' | z'
      · exact Int.le_of_lt (mp z ((cn.mem mp z).mp z'))
      · exact Int.le_of_lt (mp2 z ((cn2.mem mp2 z).mp z'))
    · refine q x m' H' (s13.free hx) (La'.mono s13) (fun k => ?_) fun c o e => s4 _ _ (s13 _ _ e)
      have t1 := cn.totf mp nd (fun _ v => v) k
      have t2 := cn2.totf mp2 nd2 (fun _ v => v) k
      have e1 : (qs.map fun p => (p.1, p.2)) = qs := List.map_id' qs
      have e2 : (qs2.map fun p => (p.1, p.2)) = qs2 := List.map_id' qs2
      rw [e1] at t1
      rw [e2] at t2
      rw [hg k, tot_app, t1, t2]
      by_cases c1 : k ∈ keys m
      · rw [if_pos c1]
        by_cases c2 : k ∈ keys m2
        · rw [if_pos c2]
        · rw [if_neg c2, get_none c2]
      · rw [if_neg c1, get_none c1]
        by_cases c2 : k ∈ keys m2
        · rw [if_pos c2]
        · rw [if_neg c2, get_none c2]
theorem len_le {m m2 : AL} (n1 : (keys m).Nodup) (p1 : ∀ p ∈ m, 0 < p.2) (n2 : (keys m2).Nodup) (p2 : ∀ p ∈ m2, 0 < p.2) (h : ∀ k, get m k ≤ get m2 k) : m.length ≤ m2.length := by
  have sub : ∀ k ∈ keys m, k ∈ keys m2 := fun k hk => by
    obtain ⟨r, hr, rfl⟩ := List.mem_map.mp hk
    have e1 : get m r.1 = r.2 := by unfold get; rw [(look_mem n1).mpr (show (r.1, r.2) ∈ m from hr)]; rfl
    have h1 := h r.1
    have h2 := p1 r hr
    exact (mem_get n2 p2 _).mpr (by omega)
  have := List.Nodup.length_le_of_subset n1 sub
  have l1 : (keys m).length = m.length := List.length_map _
  have l2 : (keys m2).length = m2.length := List.length_map _
  omega
/-- what n * m asks of the class beside its method -/
structure TxM (K : PySem.W.Frag) (C : Addr) : Prop where
  i1 : ∃ fo, PySem.W.findIn K (.type "int") (PySem.dunder Operator.Mult.info.2) = some fo
  i2 : ∃ ro, PySem.W.findIn K (.type "int") (dunderR Operator.Mult.info.2) = some ro
  c1 : ∃ f : Addr, PySem.W.findIn K (.ref C) (PySem.dunder Operator.Mult.info.2) = some (some (.ref f))
  c2 : ∃ f : Addr, PySem.W.findIn K (.ref C) (dunderR Operator.Mult.info.2) = some (some (.ref f))
  ci : PySem.W.subIn K (.ref C) (.type "int") = some false
abbrev sLotRmul : Stmt := inClass (top 14) 15
theorem scLotRmul : FnScope ["self", "other"] ["self", "other"] (defScope sLotRmul) := ⟨rfl, rfl, rfl, by decide +kernel, rfl, by decide +kernel, by decide +kernel⟩
theorem ok_lotRmul {f : Addr} {fd : FuncData} (F : Fun K "__rmul__" "Lot.__rmul__" sLotRmul f fd) (L : TxL K C) (M : TxM K C) (Ou : OCal P w K mg base CX0 4 C (PySem.dunder Operator.Mult.info.2) ["self", "other"] (spLotMul C)) : FnOk P w K mg base CX0 5 f fd ["self", "other"] (spLotMul C) := by
  refine F.ok scLotRmul (fun vs H Q E h => ?_) (fun cdv A outer s H vs Q E hr h => ?_)
  · obtain ⟨a, n, m, rfl, _⟩ := h
    rfl
  · obtain ⟨fo, h1⟩ := M.i1
    obtain ⟨ro, h2⟩ := M.i2
    obtain ⟨f2, hc2⟩ := M.c2
    obtain ⟨a, n, m, rfl, La, n0, nb, mb, q⟩ := h
    refine ⟨_, (pss_one (ps_ret (pe_binI Ou L.oc hr passE0 hc2 (Or.inr ⟨_, rfl⟩) h1 h2 (pv 0) (pv 1)))), ?_⟩
    walk_at "in"
    walk_at "go"
    obtain ⟨⟨d, dx, e1, e2⟩, nd, mp, ml⟩ := id La
    refine r_opS ?_
    walk_at "go"
    exact ⟨a, dx, _, n, rfl, rfl, e1, a, n, m, rfl, La, n0, nb, mb, q⟩
abbrev sLotAnd : Stmt := inClass (top 14) 16
theorem scLotAnd : FnScope ["self", "other", "kind", "many"] ["self", "other"] (defScope sLotAnd) := ⟨rfl, rfl, rfl, by decide +kernel, rfl, by decide +kernel, by decide +kernel⟩
def spLotAnd (C : Addr) : Sp := fun vs H Q _ => ∃ (a b : Addr) (m m2 : AL), vs = [.ref a, .ref b] ∧ LoA C H a m ∧ LoA C H b m2 ∧
  ∀ (x : Addr) (m' : AL) (H' : Hp), H x = none → LoN C H H' x m' → (∀ k, get m' k = if get m2 k < get m k then get m2 k else get m k) → Same H H' → Q (.ref x) H'
theorem ok_lotAnd {f : Addr} {fd : FuncData} (F : Fun K "__and__" "Lot.__and__" sLotAnd f fd) (T : Txt K mg) (L : TxL K C) (Op : OCal P w K mg base CX0 2 C "pairs" ["self"] (spLotPairs C)) (Og : OCal P w K mg base CX0 1 C "__getitem__" ["self", "at"] (spLotGetitem C)) (Om : OMk P w K mg base CX0 2 C "Lot" ["self", "pairs"] (spLotInit K C)) : FnOk P w K mg base CX0 4 f fd ["self", "other"] (spLotAnd C) := by
  refine F.ok scLotAnd (fun vs H Q E h => ?_) (fun cdv A outer s H vs Q E hr h => ?_)
  · obtain ⟨a, b, m, m2, rfl, _⟩ := h
    rfl
  · obtain ⟨a, b, m, m2, rfl, La, Lb, q⟩ := h
    refine ⟨_, (pss_one (ps_ret (pe_makeO Om hr pass0 (pa_cons (pe_lc (own := [("kind", 2), ("many", 3)]) (g := gTup _ 2 (gCons (gName 2) (gCons (gName 3) gNil))) (tt := tYes) rfl scLotAnd.nd (pi_tup (pe_methO0 Op L.oc.cl (hr.mono (by decide)) pass0 (pv 0))) (blkOk_by (N := ["self", "other", "kind", "many"]) (sc := defScope sLotAnd) (by decide +kernel)) (fun _ _ _ _ _ => (pg_tup rfl (pgs_cons (pg_name (i := 2) scLotAnd.nd rfl (Or.inl rfl)) (pgs_cons (pg_name (i := 3) scLotAnd.nd rfl (Or.inl rfl)) pgs_nil)))) (fun _ _ _ _ _ => pts_nil) (fun _ _ _ _ _ => (pe_tup (pa_cons (pv 2) (pa_cons (pe_callB (call_min2 rfl) (by rfl) T.min (by decide +kernel) (pa_cons (pe_callTy c_int (by rfl) T.int (by decide +kernel) (pa_cons (pv 3) pa_nil)) (pa_cons (pe_ixO Og (hr.mono (by decide)) pass0 (pv 1) (pv 2)) pa_nil))) pa_nil))))) pa_nil)))), ?_⟩
    walk_at "in"
    walk_at "go"
    obtain ⟨⟨d, dx, h1, h2⟩, nd, mp, ml⟩ := id La
    obtain ⟨⟨d2, dx2, h12, h22⟩, nd2, mp2, ml2⟩ := id Lb
    refine r_mk ?_
    walk_at "go"
    refine r_meth0 ?_
    walk_at "go"
    refine ⟨a, dx, _, rfl, h1, look1, a, m, rfl, La, fun p ts qs H1 hp hp1 hts cn s1 => ?_⟩
    walk_at "go"
    intro D hD
    have lts : ts.length ≤ 30 := by rw [Paired.len hts, cn.len mp]; exact ml
    have lq : ts.length = qs.length := Paired.len hts
    refine lc_it (walk_tup (xs := ts)) (fun i H' => ∃ xs, H' D = some (.lst xs) ∧ Paired (PrA H') xs ((qs.take i).map fun q => (q.1, if get m2 q.1 < q.2 then get m2 q.1 else q.2)) ∧ Same H1 H') ?_ ?_ ?_ ?_
    · exact ⟨[], upd_same, .nil, fun c o e => by have n1 : c ≠ D := ne_of_none e hD; walk_at "hp"⟩
    · rintro i H' _ ⟨_, _, _, s2⟩
      exact SqT.of (s2 _ _ hp1)
    · rintro i x _ H2 hi ⟨xs, hD1, hxs, s2⟩ ⟨rfl, hx⟩
      obtain ⟨r, hr1, t, rfl, ht⟩ := Paired.at hts hx
      have ht2 := s2 _ _ ht
      walk_at "go"
      refine ⟨rfl, ?_⟩
      walk_at "go"
      refine iteT ?_
      walk_at "go"
      refine r_ixO ?_
      walk_at "go"
      refine ⟨b, dx2, _, rfl, s2 _ _ (s1 _ _ h12), b, r.1, m2, rfl, (Lb.same s1).same s2, ?_⟩
      walk_at "go"
      refine ⟨_, _, rfl, ?_⟩
      walk_at "go"
      rename_i u hu1
      have n2 : D ≠ u := ne_of_none hD1 hu1
      have lxs := Paired.len hxs
      have ltk : ((qs.take i).map fun q => (q.1, if get m2 q.1 < q.2 then get m2 q.1 else q.2)).length ≤ i := by rw [List.length_map, List.length_take]; omega
      obtain ⟨vv, evv⟩ : ∃ vv, vv = (if get m2 r.1 < r.2 then get m2 r.1 else r.2) := ⟨_, rfl⟩
      rw [← evv]
      have k2 : Kp D H2 (upd (upd H2 u (.tup [V.str r.1, V.int vv])) D (.lst (xs ++ [V.ref u]))) := fun c o e n => by walk_at "hp"
      refine ⟨xs, by walk_at "hp", szl (by omega), xs ++ [V.ref u], upd_same, ?_, fun c o e => ?_⟩
      · rw [List.take_add_one, hr1, List.map_append]
        refine Paired.app (PrA.kpdAll hxs k2 hD1 (fun _ z => by cases z)) (.cons ⟨u, rfl, ?_⟩ .nil)
        show _ = some (HO.tup [V.str r.1, V.int (if get m2 r.1 < r.2 then get m2 r.1 else r.2)])
        rw [← evv]
        walk_at "hp"
      · have n4 : c ≠ D := ne_of_none e hD
        walk_at "hp"
    · rintro H2 ⟨xs, hD1, hxs, s2⟩
      rw [lq, List.take_length] at hxs
      have lxs := Paired.len hxs
      rw [List.length_map] at lxs
      have g0 : ∀ k, 0 ≤ get m2 k := fun k => by
        by_cases hk2 : k ∈ keys m2
        · obtain ⟨r, hr, rfl⟩ := List.mem_map.mp hk2
          have e1 : get m2 r.1 = r.2 := by unfold get; rw [(look_mem nd2).mpr (show (r.1, r.2) ∈ m2 from hr)]; rfl
          rw [e1]
          exact Int.le_of_lt (mp2 r hr)
        · rw [get_none hk2]
          exact Int.le_refl _
      refine init_end hD1 hxs (by omega) (fun z hz => ?_) fun x m' H' hx La' hg s3 => ?_
      · obtain ⟨r, hr1, rfl⟩ := List.mem_map.mp hz
        have a1 := Int.le_of_lt (mp r ((cn.mem mp r).mp hr1))
        have a2 := g0 r.1
        show 0 ≤ if get m2 r.1 < r.2 then get m2 r.1 else r.2
        split <;> assumption
      · refine q x m' H' (s1.free (s2.free hx)) (La'.mono fun c o e => s2 _ _ (s1 _ _ e)) (fun k => ?_) fun c o e => s3 _ _ (s2 _ _ (s1 _ _ e))
        rw [hg k, cn.totf mp nd (fun k v => if get m2 k < v then get m2 k else v)]
        split
        · rfl
        · rename_i hk
          rw [get_none hk]
          have := g0 k
          rw [if_neg (by omega)]
abbrev sLotOr : Stmt := inClass (top 14) 17
theorem scLotOr : FnScope ["self", "other"] ["self", "other"] (defScope sLotOr) := ⟨rfl, rfl, rfl, by decide +kernel, rfl, by decide +kernel, by decide +kernel⟩
def spLotOr (C : Addr) : Sp := fun vs H Q _ => ∃ (a b : Addr) (m m2 : AL), vs = [.ref a, .ref b] ∧ LoA C H a m ∧ LoA C H b m2 ∧ m.length + m2.length ≤ 30 ∧
  ∀ (x : Addr) (m' : AL) (H' : Hp), H x = none → LoN C H H' x m' → (∀ k, get m' k = if get m2 k < get m k then get m k else get m2 k) → Same H H' → Q (.ref x) H'
theorem ok_lotOr {f : Addr} {fd : FuncData} (F : Fun K "__or__" "Lot.__or__" sLotOr f fd) (L : TxL K C) (Oa : OCal P w K mg base CX0 4 C (PySem.dunder Operator.Add.info.2) ["self", "other"] (spLotAdd C)) (Os : OCal P w K mg base CX0 4 C (PySem.dunder Operator.Sub.info.2) ["self", "other"] (spLotSub C)) (On : OCal P w K mg base CX0 4 C (PySem.dunder Operator.BitAnd.info.2) ["self", "other"] (spLotAnd C)) : FnOk P w K mg base CX0 5 f fd ["self", "other"] (spLotOr C) := by
  refine F.ok scLotOr (fun vs H Q E h => ?_) (fun cdv A outer s H vs Q E hr h => ?_)
  · obtain ⟨a, b, m, m2, rfl, _⟩ := h
    rfl
  · obtain ⟨a, b, m, m2, rfl, La, Lb, lm, q⟩ := h
    refine ⟨_, (pss_one (ps_ret (pe_bin Oa L.oc hr passE0 (pv 0) (pe_bin Os L.oc (hr.mono (by decide)) passE0 (pv 1) (pe_bin On L.oc (hr.mono (by decide)) passE0 (pv 0) (pv 1)))))), ?_⟩
    walk_at "in"
    walk_at "go"
    obtain ⟨⟨d, dx, h1, h2⟩, nd, mp, ml⟩ := id La
    obtain ⟨⟨d2, dx2, h12, h22⟩, nd2, mp2, ml2⟩ := id Lb
    refine r_opS ?_
    walk_at "go"
    refine r_opS ?_
    walk_at "go"
    refine r_opS ?_
    walk_at "go"
    refine ⟨a, b, dx, dx2, _, _, rfl, rfl, h1, h12, a, b, m, m2, rfl, La, Lb, fun x1 m3 H1 hx1 L3n g3 s1 => ?_⟩
    have L3 := L3n.lo
    obtain ⟨⟨d3, dx3, h13, h23⟩, nd3, mp3, ml3⟩ := id L3
    refine ⟨b, x1, dx2, dx3, _, _, rfl, rfl, s1 _ _ h12, h13, b, x1, m2, m3, rfl, Lb.same s1, L3, fun k => by rw [g3 k]; split <;> omega, fun x2 m4 H2 hx2 L4n g4 s2 => ?_⟩
    have L4 := L4n.lo
    obtain ⟨⟨d4, dx4, h14, h24⟩, nd4, mp4, ml4⟩ := id L4
    have g30 : ∀ k, 0 ≤ get m3 k := fun k => by
      by_cases hk2 : k ∈ keys m3
      · obtain ⟨r, hr, rfl⟩ := List.mem_map.mp hk2
        have e1 : get m3 r.1 = r.2 := by unfold get; rw [(look_mem nd3).mpr (show (r.1, r.2) ∈ m3 from hr)]; rfl
        rw [e1]
        exact Int.le_of_lt (mp3 r hr)
      · rw [get_none hk2]
        exact Int.le_refl _
    have l4 : m4.length ≤ m2.length := len_le nd4 mp4 nd2 mp2 fun k => by
      have := g30 k
      rw [g4 k]
      omega
    have s12 : Same H H2 := fun c o e => s2 _ _ (s1 _ _ e)
    refine ⟨a, x2, dx, dx4, _, _, rfl, rfl, s12 _ _ h1, h14, a, x2, m, m4, rfl, La.same s12, L4, by omega, fun x m' H' hx L5 g5 s3 => ?_⟩
    refine q x m' H' (s12.free hx) (L5.mono s12) (fun k => ?_) fun c o e => s3 _ _ (s12 _ _ e)
    rw [g5 k, g4 k, g3 k]
    split <;> omega
end
end My

namespace My
open PySem L2
local macro_rules | `(tactic| walk_at "bx1") => `(tactic| first | with_reducible assumption | ((with_reducible refine' Bx.upd ?h1 ?h2); (case h1 => walk_at "bx1"); (case h2 => walk_at "ne")) | ((with_reducible refine' Bx.same ?h1 (by with_reducible assumption)); (case h1 => walk_at "bx1")))
local macro_rules | `(tactic| walk_at "bx") => `(tactic| (refine' Bx.mono ?h1 ?h2; (case h1 => walk_at "bx1"); (case h2 => omega)))
local macro_rules | `(tactic| walk_at "ne") => `(tactic| first | with_reducible assumption | exact Ne.symm (by with_reducible assumption) | ((with_reducible refine' ne_of_none ?h1 (by with_reducible assumption)); (case h1 => walk_at "hp")) | ((with_reducible refine' Ne.symm (ne_of_none ?h1 (by with_reducible assumption))); (case h1 => walk_at "hp")) | ((with_reducible refine' Bx.ne ?h1 (by with_reducible assumption)); (case h1 => walk_at "bx1")) | ((with_reducible refine' Ne.symm (Bx.ne ?h1 (by with_reducible assumption))); (case h1 => walk_at "bx1")))
local macro_rules | `(tactic| walk_at "hp") => `(tactic| first | with_reducible assumption | ((with_reducible refine' (upd_same.trans ?h1)); (case h1 => rfl)) | ((with_reducible refine' My.upd_at ?h1 ?h2); (case h1 => walk_at "hp"); (case h2 => walk_at "ne")) | ((with_reducible refine' My.Kp.at (by with_reducible assumption) ?h1 ?h2); (case h1 => walk_at "hp"); (case h2 => walk_at "ne")) | ((with_reducible refine' My.Same.at (by with_reducible assumption) ?h1); (case h1 => walk_at "hp")))
local macro_rules | `(tactic| walk_at "sq") => `(tactic| first | with_reducible assumption | exact SqL.of (by walk_at "hp") | exact SqT.of (by walk_at "hp") | ((with_reducible refine' My.SqT.upd ?h1 (by with_reducible assumption)); (case h1 => walk_at "sq")) | ((with_reducible refine' My.SqL.upd ?h1 (by with_reducible assumption)); (case h1 => walk_at "sq")) | ((with_reducible refine' Same.seq (by with_reducible assumption) ?h1); (case h1 => walk_at "sq")) | ((with_reducible refine' My.SqT.same ?h1 (by with_reducible assumption)); (case h1 => walk_at "sq")) | ((with_reducible refine' My.SqT.kp ?h1 (by with_reducible assumption) ?h2); (case h1 => walk_at "sq"); (case h2 => walk_at "bx1")) | ((with_reducible refine' My.SqL.kp ?h1 (by with_reducible assumption) ?h2); (case h1 => walk_at "sq"); (case h2 => walk_at "ne")))
local macro_rules | `(tactic| walk_at "sd") => `(tactic| first | assumption | omega | decide | (refine ⟨?_, ?_⟩ <;> (first | omega | decide)) | (refine Or.inl ⟨?_, ?_⟩ <;> (first | omega | decide)) | (refine Or.inr ⟨?_, ?_⟩ <;> (first | omega | decide)) | (refine ⟨?_, ?_, ?_⟩ <;> (first | omega | decide)))
local macro_rules | `(tactic| walk_at "ps") => `(tactic| first
  | with_reducible refine r_seq ?_ | with_reducible refine r_asg ?_ | with_reducible refine r_op ?_ | with_reducible refine r_cons ?_ | with_reducible refine r_nil ?_ | with_reducible refine r_c ?_
  | with_reducible refine' r_var rfl ?_ | with_reducible refine r_gname ?_ | with_reducible refine r_cb ?_ | with_reducible refine r_I0 ?_ | with_reducible refine r_ret ?_ | with_reducible refine r_ifS ?_ | with_reducible refine r_test ?_ | with_reducible refine r_B ?_
  | with_reducible refine r_next ?_ | with_reducible refine r_drop ?_ | with_reducible refine r_if ?_ | with_reducible refine r_un ?_ | with_reducible refine r_U ?_ | with_reducible refine r_gsub ?_ | with_reducible refine r_tup ?_ | with_reducible refine r_lst ?_ | with_reducible refine r_bm ?_
  | with_reducible refine r_cal ?_ | with_reducible refine r_not ?_ | with_reducible refine r_and ?_ | with_reducible refine r_or ?_ | with_reducible refine r_andV ?_ | with_reducible refine r_orV ?_ | with_reducible refine r_notV ?_
  | with_reducible refine r_abs ?_ | with_reducible refine r_intI ?_ | with_reducible refine r_intB ?_ | with_reducible refine r_m1 ?_ | with_reducible refine r_slice ?_ | with_reducible refine r_part ?_ | with_reducible refine r_nopart ?_
  | with_reducible refine r_gcons ?_ | with_reducible refine r_gnil ?_
  | with_reducible refine r_par ?_ | with_reducible refine r_par3 ?_ | with_reducible refine r_ex2 ?_ | with_reducible refine r_ex3 ?_
  | with_reducible refine r_isN ?_ | with_reducible refine r_notN ?_
  | with_reducible refine r_iZipA ?_
  | with_reducible refine r_dget ?_ | with_reducible refine r_dget2 ?_ | with_reducible refine r_iKeys ?_ | with_reducible refine r_dput ?_
  | with_reducible refine r_for ?_ | with_reducible refine r_lc ?_ | with_reducible refine r_iList ?_ | with_reducible refine r_iTup ?_ | with_reducible refine r_iRng1 ?_ | with_reducible refine r_iEnum ?_ | with_reducible refine r_orT ?_ | with_reducible refine r_yes ?_ | with_reducible refine r_ixSl ?_)
local macro_rules | `(tactic| walk_at "st") => `(tactic| first
  | walk_at "ps"
  | ((with_reducible refine' r_ixL ?h1 ?h2 ?_); (case h1 => walk_at "sq"); (case h2 => rfl))
  | ((with_reducible refine' r_setL ?h1 ?h2 ?_); (case h1 => walk_at "hp"); (case h2 => rfl))
  | ((with_reducible refine' r_I ?h1 ?_); (case h1 => walk_at "sd"))
  | ((with_reducible refine' r_eq ?h1 ?_); (case h1 => rfl)) | ((with_reducible refine' r_ne ?h1 ?_); (case h1 => rfl))
  | ((with_reducible refine' r_lenL ?h1 ?_); (case h1 => walk_at "sq")) | ((with_reducible refine' r_lenT ?h1 ?_); (case h1 => walk_at "sq")) | ((with_reducible refine' r_lenD ?h1 ?_); (case h1 => walk_at "hp"))
  | ((with_reducible refine' r_slL ?h1 ?_); (case h1 => walk_at "sq"); intro _ _)
  | ((with_reducible refine' r_append ?h1 ?h2 ?_); (case h1 => walk_at "hp"); (case h2 => exact szl (by first | omega | (simp; omega))))
  | ((with_reducible refine' r_gtup ?h1 ?h2 ?_); (case h1 => walk_at "sq"); (case h2 => rfl))
  | ((with_reducible refine' r_cat ?h1 ?h2 ?h3 ?_); (case h1 => walk_at "hp"); (case h2 => walk_at "hp"); (case h3 => exact sz (by first | omega | (simp; omega))); intro _ _)
  | ((with_reducible refine' r_wLst ?h1 ?_); (case h1 => walk_at "sq")) | ((with_reducible refine' r_wTup ?h1 ?_); (case h1 => walk_at "sq"))
  | ((with_reducible refine' r_wRng ?h1 ?_); (case h1 => walk_at "sd"))
  | ((with_reducible refine' r_truL ?h1 ?_); (case h1 => walk_at "sq"))
  | ((with_reducible refine' r_list (Or.inl ?h1) ?_); (case h1 => walk_at "sq"); intro _ _) | ((with_reducible refine' r_list (Or.inr ?h1) ?_); (case h1 => walk_at "sq"); intro _ _)
  | ((with_reducible refine' r_tupL ?h1 ?_); (case h1 => walk_at "sq"); intro _ _) | ((with_reducible refine' r_tupT ?h1 ?_); (case h1 => walk_at "sq"))
  | ((with_reducible refine' r_disp ?h1 ?_); (case h1 => exact Nat.le_of_ble_eq_true rfl); intro _ _)
  | ((with_reducible refine r_dnewK ?_); intro _ _)
  | ((with_reducible refine' r_tyL ?h1 ?_); (case h1 => walk_at "sq")) | with_reducible refine r_strV ?_
  | with_reducible refine r_exb ?_ | with_reducible refine r_exi ?_ | with_reducible refine r_exr ?_ | with_reducible refine r_exs ?_ | with_reducible refine r_exli ?_)
local macro_rules | `(tactic| walk_at "go") => `(tactic| repeat walk_at "st")
local macro_rules | `(tactic| walk_at "in") => `(tactic| dsimp only [noxK, cxK, L2.start, List.map_cons, List.map_nil, List.length_cons, List.length_nil, Nat.reduceAdd, Nat.reduceSub, List.replicate, List.cons_append, List.nil_append])

section
variable {P : Program} {w : World} {K : PySem.W.Frag} {mg : Str → Option Value} {base : Heap} {C CB CS : Addr}
theorem r_mkO2v {C : Addr} {f g : Str} {i j : Nat} {y z : V} {σ : L2.St} {H : Hp} {Q : XK} (hi : σ[i]? = some (some y)) (hj : σ[j]? = some (some z)) (q : ∀ d H', H d = none → Same H H' → H' d = some (.xd [(g, z), (f, y)]) → Q (.ref C) (some d) H') : tMkO C (spI2 C f g) [] (tCons (tVar i) (tCons (tVar j) tNil)) σ H Q :=
  r_cons (r_var hi (r_cons (r_var hj (r_nil ⟨by simp, fun a ha => end2X ha q⟩))))
theorem r_xdv {f : Str} {i : Nat} {a C : Addr} {fs : List (Str × V)} {v : V} {σ : L2.St} {H : Hp} {Q : VK} (hi : σ[i]? = some (some (.ref a))) (er : Er H a C fs) (T : XfC K C) (hno : PySem.W.findIn K (.ref C) f = some none) (hl : fs.lookup f = some v) (q : Q v H) : tXd K f (tVar i) σ H Q :=
  ⟨.ref a, hi, a, C, fs, v, rfl, er, T, hno, hl, q⟩
abbrev sCountedX : Stmt := top 13
theorem scCountedX : FnScope ["pairs", "found", "kind", "many"] ["pairs"] (defScope sCountedX) := ⟨rfl, rfl, rfl, by decide +kernel, rfl, by decide +kernel, by decide +kernel⟩
/-- the first pair below 0 is refused -/
def spOwnCountedX (K : PySem.W.Frag) (CB : Addr) : Sp := fun vs H Q E => ∃ (l : Addr) (xs : List V) (ps : AL) (j : Nat) (k : Str) (z : Int), vs = [.ref l] ∧ SqL K H l xs ∧ Paired (PrA H) xs ps ∧ xs.length ≤ 30 ∧ ps[j]? = some (k, z) ∧ z < 0 ∧ (∀ (i : Nat) p, i < j → ps[i]? = some p → 0 ≤ p.2) ∧
  ∀ (d : Addr) (H' : Hp), H d = none → Same H H' → H' d = some (.xd [("many", .int z), ("kind", .str k)]) → E (.ref CB) (some d) H'
theorem ok_ownCountedX {f : Addr} {fd : FuncData} (F : Fun K "_counted" "_counted" sCountedX f fd) (T : Txt K mg) (OB : E2 P w K mg base CB "Below" "kind" "many") : FnOk P w K mg base (CX P w) 3 f fd ["pairs"] (spOwnCountedX K CB) := by
  refine F.okX scCountedX (fun vs H Q E h => ?_) (fun cdv A outer s H vs Q E hr h => ?_)
  · obtain ⟨l, xs, ps, j, k, z, rfl, _⟩ := h
    rfl
  · obtain ⟨l, xs, ps, j, k, z, rfl, hl, hps, h30, hj, z0, h0, q⟩ := h
    have hu := hu_of hr
    obtain ⟨fI, fdI, iC, tI, FB, _, _, bB⟩ := OB.ex
    refine ⟨_, (pss_cons (ps_set (i := 1) scCountedX.nd rfl (Or.inl rfl) pe_dnewK)
  (pss_cons (ps_for (passes_of rfl) rfl (pi_list (pv 0)) (pg_tup rfl (pgs_cons (pg_name (i := 2) scCountedX.nd rfl (Or.inl rfl)) (pgs_cons (pg_name (i := 3) scCountedX.nd rfl (Or.inl rfl)) pgs_nil)))
  (pss_cons (ps_if (pt_cmpR op_lt (pv 3) pe_int (nomark _))
  (pss_one (ps_raise rfl (takes_of rfl rfl rfl rfl) (pmk_oex OB.T iC tI FB (hr.mono (by decide)) bB .nil pass0 (by rfl) OB.gC (pa_cons (pv 2) (pa_cons (pv 3) pa_nil)))))
  pss_nil)
  (pss_one (ps_if (pt_cmpR op_gt (pv 3) pe_int (nomark _))
  (pss_one (ps_dput hu (pv 1) (pv 2) (pe_op op_add (pe_dget2 hu (pv 1) (pv 2) pe_int ⟨rfl, rfl, rfl, rfl⟩) (pv 3)) rfl))
  pss_nil))))
  (pss_one (ps_ret (pv 1))))), ?_⟩
    walk_at "in"
    walk_at "go"
    rename_i d hd
    have lps := Paired.len hps
    have hjl : j < ps.length := (List.getElem?_eq_some_iff.mp hj).1
    refine for_it (walk_list (xs := xs)) (fun i σ H' => ∃ (m : AL) (x2 x3 : Option V), σ = [some (.ref l), some (.ref d), x2, x3] ∧ i ≤ j ∧ H' d = some (.dK (enc m)) ∧ (keys m).Nodup ∧ (∀ p ∈ m, 0 < p.2) ∧ m.length ≤ i ∧ Same H H') ?_ ?_ ?_ ?_
    · exact ⟨[], none, none, rfl, Nat.zero_le _, upd_same, List.nodup_nil, fun p h => by simp at h, Nat.le_refl _, fun c o e => by walk_at "hp"⟩
    · rintro i σ H' _ ⟨_, _, _, _, _, _, _, _, _, s1⟩
      exact s1.seq hl
    · rintro i x σ _ H1 hi ⟨m, x2, x3, rfl, hij, hm, nd, mp, lm, s1⟩ ⟨rfl, hx⟩
      obtain ⟨p, hp, t, rfl, ht⟩ := Paired.at hps hx
      have ht1 := s1 _ _ ht
      walk_at "go"
      by_cases hij2 : i = j
      · subst hij2
        rw [hj] at hp
        cases hp
        refine ite_dT z0 ?_
        refine r_mkO2v rfl rfl fun d' H' hd' s2 hx' => ?_
        exact q d' H' (s1.free hd') (fun c o e => s2 _ _ (s1 _ _ e)) hx'
      have p0 : 0 ≤ p.2 := h0 i p (by omega) hp
      refine ite_dF (by omega) ?_
      walk_at "go"
      refine ite_d (fun c => ?_) (fun c => ?_)
      · walk_at "go"
        refine ⟨Or.inl ⟨enc m, Or.inl hm⟩, ?_⟩
        walk_at "go"
        refine ⟨_, DGet_enc (r := look m p.1) (Or.inl hm) rfl, ?_⟩
        rw [get_look]
        walk_at "go"
        have gnn := get_nn mp nd p.1
        refine ⟨d, _, rfl, DPut_enc hm (szl (by omega)), put m p.1 (get m p.1 + p.2), _, _, rfl, by omega, upd_same, put_nodup nd, put_pos mp (by omega), ?_, fun c o e => ?_⟩
        · have := put_len m p.1 (get m p.1 + p.2)
          omega
        · have n1 : c ≠ d := ne_of_none e hd
          walk_at "hp"
      · walk_at "go"
        exact ⟨m, _, _, rfl, by omega, hm, nd, mp, by omega, s1⟩
    · rintro σ H1 ⟨m, x2, x3, rfl, hij, _⟩
      omega
abbrev sLotInitX : Stmt := inClass (top 14) 0
theorem scLotInitX : FnScope ["self", "pairs"] ["self", "pairs"] (defScope sLotInitX) := ⟨rfl, rfl, rfl, by decide +kernel, rfl, by decide +kernel, by decide +kernel⟩
def spLotInitX (K : PySem.W.Frag) (C CB : Addr) : Sp := fun vs H Q E => ∃ (p dx l : Addr) (xs : List V) (ps : AL) (j : Nat) (k : Str) (z : Int), vs = [.ref p, .ref l] ∧ H p = some (.ins C dx []) ∧ SqL K H l xs ∧ Paired (PrA H) xs ps ∧ xs.length ≤ 30 ∧ ps[j]? = some (k, z) ∧ z < 0 ∧ (∀ (i : Nat) p, i < j → ps[i]? = some p → 0 ≤ p.2) ∧
  ∀ (d : Addr) (H' : Hp), H d = none → Same H H' → H' d = some (.xd [("many", .int z), ("kind", .str k)]) → E (.ref CB) (some d) H'
theorem ok_lotInitX {f t0 : Addr} {fd : FuncData} (F : FunD K "__init__" "Lot.__init__" (defArgs sLotInitX) (defBody sLotInitX) (defScope sLotInitX) [.ref t0] [] f fd) (L : TxL K C) (Cc : Cal P w K mg base (CX P w) 3 "_counted" ["pairs"] (spOwnCountedX K CB)) : FnOk P w K mg base (CX P w) 4 f fd ["self", "pairs"] (spLotInitX K C CB) := by
  refine F.ok scLotInitX (fun vs H Q E h => ?_) (fun cdv A outer s H vs Q E hr h => ?_)
  · obtain ⟨p, dx, l, xs, ps, j, k, z, rfl, _⟩ := h
    rfl
  · obtain ⟨p, dx, l, xs, ps, j, k, z, rfl, hp, hl, hps, h30, hj, z0, h0, q⟩ := h
    obtain ⟨fC, fdC, FC, gC_, kC_, bC_⟩ := Cc.ex
    refine ⟨_, (pss_one (ps_fld (pv 0) (pe_callS FC hr (by rfl) gC_ kC_ bC_ (fun σ => passAt (takes_of rfl rfl rfl rfl) σ) (pa_cons (pv 1) pa_nil)) rfl)), ?_⟩
    walk_at "in"
    show tCallS (spOwnCountedX K CB) (fun σ => WE (fun cls d _ H => E cls d H) σ) (tCons (tVar 1) tNil) _ H _
    show tCons (tVar 1) tNil _ H (fun vs H1 => spOwnCountedX K CB vs H1 _ _)
    exact r_cons (r_var rfl (r_nil ⟨l, xs, ps, j, k, z, rfl, hl, hps, h30, hj, z0, h0, q⟩))
abbrev sLotSubX : Stmt := inClass (top 14) 13
theorem scLotSubX : FnScope ["self", "other", "kind", "many"] ["self", "other"] (defScope sLotSubX) := ⟨rfl, rfl, rfl, by decide +kernel, rfl, by decide +kernel, by decide +kernel⟩
def spLotSubX (C CS : Addr) : Sp := fun vs H Q E => ∃ (a b : Addr) (m m2 qs : AL) (j : Nat) (r : Str × Int), vs = [.ref a, .ref b] ∧ LoA C H a m ∧ LoA C H b m2 ∧ Cn m2 qs ∧ qs[j]? = some r ∧ get m r.1 < r.2 ∧ (∀ (i : Nat) p, i < j → qs[i]? = some p → p.2 ≤ get m p.1) ∧
  ∀ (d : Addr) (H' : Hp), H d = none → Same H H' → H' d = some (.xd [("lacking", .int (r.2 - get m r.1)), ("kind", .str r.1)]) → E (.ref CS) (some d) H'
theorem ok_lotSubX {f : Addr} {fd : FuncData} (F : Fun K "__sub__" "Lot.__sub__" sLotSubX f fd) (L : TxL K C) (OS : E2 P w K mg base CS "Short" "kind" "lacking") (Op : OCal P w K mg base CX0 2 C "pairs" ["self"] (spLotPairs C)) (Og : OCal P w K mg base CX0 1 C "__getitem__" ["self", "at"] (spLotGetitem C)) : FnOk P w K mg base (CX P w) 4 f fd ["self", "other"] (spLotSubX C CS) := by
  refine F.okX scLotSubX (fun vs H Q E h => ?_) (fun cdv A outer s H vs Q E hr h => ?_)
  · obtain ⟨a, b, m, m2, qs, j, r, rfl, _⟩ := h
    rfl
  · obtain ⟨a, b, m, m2, qs, j, r, rfl, La, Lb, cn, hj, lt, le, q⟩ := h
    obtain ⟨fI, fdI, iC, tI, FB, _, _, bB⟩ := OS.ex
    refine ⟨_, (pss_cons (ps_for (passes_of rfl) rfl (pi_tup (pe_methO0 Op L.oc.cl (hr.mono (by decide)) pass0 (pv 1))) (pg_tup rfl (pgs_cons (pg_name (i := 2) scLotSubX.nd rfl (Or.inl rfl)) (pgs_cons (pg_name (i := 3) scLotSubX.nd rfl (Or.inl rfl)) pgs_nil)))
  (pss_one (ps_if (pt_cmpR op_lt (pe_ixO Og (hr.mono (by decide)) pass0 (pv 0) (pv 2)) (pv 3) (nomark _))
  (pss_one (ps_raise rfl (takes_of rfl rfl rfl rfl) (pmk_oex OS.T iC tI FB (hr.mono (by decide)) bB .nil pass0 (by rfl) OS.gC (pa_cons (pv 2) (pa_cons (pe_op op_sub (pv 3) (pe_ixO Og (hr.mono (by decide)) pass0 (pv 0) (pv 2))) pa_nil)))))
  pss_nil)))
  (pss_one ps_never)), ?_⟩
    walk_at "in"
    walk_at "go"
    obtain ⟨⟨d, dx, h1, h2⟩, nd, mp, ml⟩ := id La
    obtain ⟨⟨d2, dx2, h12, h22⟩, nd2, mp2, ml2⟩ := id Lb
    refine r_meth0 ?_
    walk_at "go"
    refine ⟨b, dx2, _, rfl, h12, look1, b, m2, rfl, Lb, fun p2 ts2 qs2 H1 hp2 hp21 hts2 cn2 s1 => ?_⟩
    obtain rfl : qs2 = qs := cn_unique nd2 nd2 cn2 cn fun _ _ => rfl
    have hjl : j < qs2.length := (List.getElem?_eq_some_iff.mp hj).1
    have lq : ts2.length = qs2.length := Paired.len hts2
    walk_at "go"
    refine for_it (walk_tup (xs := ts2)) (fun i σ H' => ∃ (x2 x3 : Option V), σ = [some (.ref a), some (.ref b), x2, x3] ∧ i ≤ j ∧ Same H1 H') ?_ ?_ ?_ ?_
    · exact ⟨none, none, rfl, Nat.zero_le _, fun c o e => e⟩
    · rintro i σ H' _ ⟨_, _, _, _, s2⟩
      exact SqT.of (s2 _ _ hp21)
    · rintro i x σ _ H2 hi ⟨x2, x3, rfl, hij, s2⟩ ⟨rfl, hx⟩
      obtain ⟨r2, hr1, t, rfl, ht⟩ := Paired.at hts2 hx
      have ht2 := s2 _ _ ht
      walk_at "go"
      refine r_ixO ?_
      walk_at "go"
      refine ⟨a, dx, _, rfl, s2 _ _ (s1 _ _ h1), a, r2.1, m, rfl, (La.same s1).same s2, ?_⟩
      walk_at "go"
      by_cases hij2 : i = j
      · subst hij2
        rw [hj] at hr1
        cases hr1
        refine ite_dT (by omega) ?_
        show tCons (tVar 2) (tCons _ tNil) _ H2 _
        walk_at "go"
        refine r_ixO ?_
        walk_at "go"
        refine ⟨a, dx, _, rfl, s2 _ _ (s1 _ _ h1), a, r.1, m, rfl, (La.same s1).same s2, ?_⟩
        walk_at "go"
        have s12 : Same H H2 := fun c o e => s2 _ _ (s1 _ _ e)
        exact ⟨by simp, fun x hx => end2X (Q := E) hx fun d' H' hd' s3 hx' => q d' H' (s12.free hd') (fun c o e => s3 _ _ (s12 _ _ e)) hx'⟩
      · have := le i r2 (by omega) hr1
        refine ite_dF (by omega) ?_
        walk_at "go"
        exact ⟨_, _, rfl, by omega, s2⟩
    · rintro σ H2 ⟨x2, x3, rfl, hij, s2⟩
      omega
end
end My

namespace My
open PySem L2
local macro_rules | `(tactic| walk_at "bx1") => `(tactic| first | with_reducible assumption | ((with_reducible refine' Bx.upd ?h1 ?h2); (case h1 => walk_at "bx1"); (case h2 => walk_at "ne")) | ((with_reducible refine' Bx.same ?h1 (by with_reducible assumption)); (case h1 => walk_at "bx1")))
local macro_rules | `(tactic| walk_at "bx") => `(tactic| (refine' Bx.mono ?h1 ?h2; (case h1 => walk_at "bx1"); (case h2 => omega)))
local macro_rules | `(tactic| walk_at "ne") => `(tactic| first | with_reducible assumption | exact Ne.symm (by with_reducible assumption) | ((with_reducible refine' ne_of_none ?h1 (by with_reducible assumption)); (case h1 => walk_at "hp")) | ((with_reducible refine' Ne.symm (ne_of_none ?h1 (by with_reducible assumption))); (case h1 => walk_at "hp")) | ((with_reducible refine' Bx.ne ?h1 (by with_reducible assumption)); (case h1 => walk_at "bx1")) | ((with_reducible refine' Ne.symm (Bx.ne ?h1 (by with_reducible assumption))); (case h1 => walk_at "bx1")))
local macro_rules | `(tactic| walk_at "hp") => `(tactic| first | with_reducible assumption | ((with_reducible refine' (upd_same.trans ?h1)); (case h1 => rfl)) | ((with_reducible refine' My.upd_at ?h1 ?h2); (case h1 => walk_at "hp"); (case h2 => walk_at "ne")) | ((with_reducible refine' My.Kp.at (by with_reducible assumption) ?h1 ?h2); (case h1 => walk_at "hp"); (case h2 => walk_at "ne")) | ((with_reducible refine' My.Same.at (by with_reducible assumption) ?h1); (case h1 => walk_at "hp")))
local macro_rules | `(tactic| walk_at "sq") => `(tactic| first | with_reducible assumption | exact SqL.of (by walk_at "hp") | exact SqT.of (by walk_at "hp") | ((with_reducible refine' My.SqT.upd ?h1 (by with_reducible assumption)); (case h1 => walk_at "sq")) | ((with_reducible refine' My.SqL.upd ?h1 (by with_reducible assumption)); (case h1 => walk_at "sq")) | ((with_reducible refine' Same.seq (by with_reducible assumption) ?h1); (case h1 => walk_at "sq")) | ((with_reducible refine' My.SqT.same ?h1 (by with_reducible assumption)); (case h1 => walk_at "sq")) | ((with_reducible refine' My.SqT.kp ?h1 (by with_reducible assumption) ?h2); (case h1 => walk_at "sq"); (case h2 => walk_at "bx1")) | ((with_reducible refine' My.SqL.kp ?h1 (by with_reducible assumption) ?h2); (case h1 => walk_at "sq"); (case h2 => walk_at "ne")))
local macro_rules | `(tactic| walk_at "sd") => `(tactic| first | assumption | omega | decide | (refine ⟨?_, ?_⟩ <;> (first | omega | decide)) | (refine Or.inl ⟨?_, ?_⟩ <;> (first | omega | decide)) | (refine Or.inr ⟨?_, ?_⟩ <;> (first | omega | decide)) | (refine ⟨?_, ?_, ?_⟩ <;> (first | omega | decide)))
local macro_rules | `(tactic| walk_at "ps") => `(tactic| first
  | with_reducible refine r_seq ?_ | with_reducible refine r_asg ?_ | with_reducible refine r_op ?_ | with_reducible refine r_cons ?_ | with_reducible refine r_nil ?_ | with_reducible refine r_c ?_
  | with_reducible refine' r_var rfl ?_ | with_reducible refine r_gname ?_ | with_reducible refine r_cb ?_ | with_reducible refine r_I0 ?_ | with_reducible refine r_ret ?_ | with_reducible refine r_ifS ?_ | with_reducible refine r_test ?_ | with_reducible refine r_B ?_
  | with_reducible refine r_next ?_ | with_reducible refine r_drop ?_ | with_reducible refine r_if ?_ | with_reducible refine r_un ?_ | with_reducible refine r_U ?_ | with_reducible refine r_gsub ?_ | with_reducible refine r_tup ?_ | with_reducible refine r_lst ?_ | with_reducible refine r_bm ?_
  | with_reducible refine r_cal ?_ | with_reducible refine r_not ?_ | with_reducible refine r_and ?_ | with_reducible refine r_or ?_ | with_reducible refine r_andV ?_ | with_reducible refine r_orV ?_ | with_reducible refine r_notV ?_
  | with_reducible refine r_abs ?_ | with_reducible refine r_intI ?_ | with_reducible refine r_intB ?_ | with_reducible refine r_m1 ?_ | with_reducible refine r_slice ?_ | with_reducible refine r_part ?_ | with_reducible refine r_nopart ?_
  | with_reducible refine r_gcons ?_ | with_reducible refine r_gnil ?_
  | with_reducible refine r_par ?_ | with_reducible refine r_par3 ?_ | with_reducible refine r_ex2 ?_ | with_reducible refine r_ex3 ?_
  | with_reducible refine r_isN ?_ | with_reducible refine r_notN ?_
  | with_reducible refine r_iZipA ?_
  | with_reducible refine r_dget ?_ | with_reducible refine r_dget2 ?_ | with_reducible refine r_iKeys ?_ | with_reducible refine r_dput ?_
  | with_reducible refine r_for ?_ | with_reducible refine r_lc ?_ | with_reducible refine r_iList ?_ | with_reducible refine r_iTup ?_ | with_reducible refine r_iRng1 ?_ | with_reducible refine r_iEnum ?_ | with_reducible refine r_orT ?_ | with_reducible refine r_yes ?_ | with_reducible refine r_ixSl ?_)
local macro_rules | `(tactic| walk_at "st") => `(tactic| first
  | walk_at "ps"
  | ((with_reducible refine' r_ixL ?h1 ?h2 ?_); (case h1 => walk_at "sq"); (case h2 => rfl))
  | ((with_reducible refine' r_setL ?h1 ?h2 ?_); (case h1 => walk_at "hp"); (case h2 => rfl))
  | ((with_reducible refine' r_I ?h1 ?_); (case h1 => walk_at "sd"))
  | ((with_reducible refine' r_eq ?h1 ?_); (case h1 => rfl)) | ((with_reducible refine' r_ne ?h1 ?_); (case h1 => rfl))
  | ((with_reducible refine' r_lenL ?h1 ?_); (case h1 => walk_at "sq")) | ((with_reducible refine' r_lenT ?h1 ?_); (case h1 => walk_at "sq")) | ((with_reducible refine' r_lenD ?h1 ?_); (case h1 => walk_at "hp"))
  | ((with_reducible refine' r_slL ?h1 ?_); (case h1 => walk_at "sq"); intro _ _)
  | ((with_reducible refine' r_append ?h1 ?h2 ?_); (case h1 => walk_at "hp"); (case h2 => exact szl (by first | omega | (simp; omega))))
  | ((with_reducible refine' r_gtup ?h1 ?h2 ?_); (case h1 => walk_at "sq"); (case h2 => rfl))
  | ((with_reducible refine' r_cat ?h1 ?h2 ?h3 ?_); (case h1 => walk_at "hp"); (case h2 => walk_at "hp"); (case h3 => exact sz (by first | omega | (simp; omega))); intro _ _)
  | ((with_reducible refine' r_wLst ?h1 ?_); (case h1 => walk_at "sq")) | ((with_reducible refine' r_wTup ?h1 ?_); (case h1 => walk_at "sq"))
  | ((with_reducible refine' r_wRng ?h1 ?_); (case h1 => walk_at "sd"))
  | ((with_reducible refine' r_truL ?h1 ?_); (case h1 => walk_at "sq"))
  | ((with_reducible refine' r_list (Or.inl ?h1) ?_); (case h1 => walk_at "sq"); intro _ _) | ((with_reducible refine' r_list (Or.inr ?h1) ?_); (case h1 => walk_at "sq"); intro _ _)
  | ((with_reducible refine' r_tupL ?h1 ?_); (case h1 => walk_at "sq"); intro _ _) | ((with_reducible refine' r_tupT ?h1 ?_); (case h1 => walk_at "sq"))
  | ((with_reducible refine' r_disp ?h1 ?_); (case h1 => exact Nat.le_of_ble_eq_true rfl); intro _ _)
  | ((with_reducible refine r_dnewK ?_); intro _ _)
  | ((with_reducible refine' r_tyL ?h1 ?_); (case h1 => walk_at "sq")) | with_reducible refine r_strV ?_
  | with_reducible refine r_exb ?_ | with_reducible refine r_exi ?_ | with_reducible refine r_exr ?_ | with_reducible refine r_exs ?_ | with_reducible refine r_exli ?_)
local macro_rules | `(tactic| walk_at "go") => `(tactic| repeat walk_at "st")
local macro_rules | `(tactic| walk_at "in") => `(tactic| dsimp only [noxK, cxK, L2.start, List.map_cons, List.map_nil, List.length_cons, List.length_nil, Nat.reduceAdd, Nat.reduceSub, List.replicate, List.cons_append, List.nil_append])

section
variable {P : Program} {w : World} {K : PySem.W.Frag} {mg : Str → Option Value} {base : Heap} {C CB CS : Addr}
theorem passTk {X : Cx} {W : WX} (tk : Takes X W) : PassS (CX X.prog X.w) X (fun σ => WE W σ) := fun pins σ H s e s' I c => passAt tk σ pins H s e s' I c
def del (m : AL) (k : Str) : AL := m.filter fun p => decide (p.1 ≠ k)
theorem del_enc (m : AL) (k : Str) : dropK (enc m) (Sum.inr k) = enc (del m k) := by
  unfold dropK enc del
  rw [List.filter_map]
  congr 1
  refine List.filter_congr fun p _ => ?_
  show decide ((Sum.inr p.1 : Key) ≠ Sum.inr k) = decide (p.1 ≠ k)
  by_cases c : p.1 = k
  · simp [c]
  · simp [c]
theorem del_nodup {m : AL} {k : Str} (h : (keys m).Nodup) : (keys (del m k)).Nodup := h.sublist (List.Sublist.map _ List.filter_sublist)
theorem get_del : ∀ (m : AL) (k j : Str), get (del m k) j = if j = k then 0 else get m j
  | [], k, j => by
    show (0 : Int) = if j = k then 0 else 0
    split <;> rfl
  | p :: r, k, j => by
    have ih := get_del r k j
    unfold get at ih ⊢
    unfold del at ih ⊢
    by_cases c : p.1 = k
    · rw [List.filter_cons_of_neg (by simp [c]), ih, look_cons]
      by_cases c2 : j = k
      · rw [if_pos c2, if_pos c2]
      · rw [if_neg c2, if_neg c2, if_neg fun z => c2 (z.symm.trans c)]
    · rw [List.filter_cons_of_pos (by simp [c]), look_cons, look_cons]
      by_cases c2 : p.1 = j
      · rw [if_pos c2, if_pos c2, if_neg fun z => c (c2.trans z)]
      · rw [if_neg c2, if_neg c2]
        exact ih
abbrev sLotSetitem : Stmt := inClass (top 14) 3
theorem scLotSetitem : FnScope ["self", "at", "worth"] ["self", "at", "worth"] (defScope sLotSetitem) := ⟨rfl, rfl, rfl, by decide +kernel, rfl, by decide +kernel, by decide +kernel⟩
def spLotSet (C CB : Addr) : Sp := fun vs H Q E => ∃ (x d : Addr) (k : Str) (n : Int) (m : AL), vs = [.ref x, .str k, .int n] ∧ LoD C H x d m ∧ m.length ≤ 29 ∧
  ((0 ≤ n ∧ ∀ (m' : AL) (H' : Hp), LoD C H' x d m' → (∀ j, get m' j = if j = k then n else get m j) → m'.length ≤ m.length + 1 → Kx x d H H' → Q .non H') ∨
   (n < 0 ∧ ∀ (dd : Addr) (H' : Hp), H dd = none → Same H H' → H' dd = some (.xd [("many", .int n), ("kind", .str k)]) → E (.ref CB) (some dd) H'))
theorem ok_lotSet {f : Addr} {fd : FuncData} (F : Fun K "__setitem__" "Lot.__setitem__" sLotSetitem f fd) (L : TxL K C) (OB : E2 P w K mg base CB "Below" "kind" "many") : FnOk P w K mg base (CX P w) 3 f fd ["self", "at", "worth"] (spLotSet C CB) := by
  refine F.okX scLotSetitem (fun vs H Q E h => ?_) (fun cdv A outer s H vs Q E hr h => ?_)
  · obtain ⟨x, d, k, n, m, rfl, _⟩ := h
    rfl
  · obtain ⟨x, d, k, n, m, rfl, ⟨⟨dx, h1⟩, h2, nd, mp, ml⟩, l29, q⟩ := h
    have hu := hu_of hr
    obtain ⟨fI, fdI, iC, tI, FB, _, _, bB⟩ := OB.ex
    refine ⟨_, pss_cons (ps_if (pt_cmpR op_lt (pv 2) pe_int (nomark _)) (pss_one (ps_raise rfl (takes_of rfl rfl rfl rfl) (pmk_oex OB.T iC tI FB (hr.mono (by decide)) bB .nil pass0 (by rfl) OB.gC (pa_cons (pv 1) (pa_cons (pv 2) pa_nil))))) pss_nil)
      (pss_one (ps_if (pt_cmpR op_gt (pv 2) pe_int (nomark _)) (pss_one (ps_dput hu (pe_fld (pv 0) rfl) (pv 1) (pv 2) rfl)) (pss_one (ps_if (pt_cmp (pc_din hu (pv 1) (pe_fld (pv 0) rfl))) (pss_one (ps_ddel (pe_fld (pv 0) rfl) (pv 1))) pss_nil)))), ?_⟩
    walk_at "in"
    walk_at "go"
    rcases q with ⟨n0, q⟩ | ⟨n0, q⟩
    · refine ite_dF (by omega) ?_
      walk_at "go"
      refine ite_d (fun c => ?_) (fun c => ?_)
      · walk_at "go"
        refine r_many L h1 ?_
        walk_at "go"
        refine ⟨d, _, rfl, DPut_enc h2 (szl (by omega)), ?_⟩
        have pl := put_len m k n
        refine q (put m k n) _ ⟨⟨dx, ?_⟩, upd_same, put_nodup nd, put_pos mp (by omega), by omega⟩ (fun j => get_put m k j n) pl fun c o e n1 n2 => ?_
        · rw [upd_ne (fun z => by rw [z, h2] at h1; cases h1)]
          exact h1
        · rw [upd_ne n2]
          exact e
      · walk_at "go"
        refine r_var rfl (r_many L h1 ⟨d, (look m k).map V.int, rfl, DGet_enc (.inl h2) rfl, _, rfl, ?_⟩)
        rw [Option.isSome_map]
        have n00 : n = 0 := by omega
        cases e : look m k with
        | none =>
          refine iteF ?_
          refine q m H ⟨⟨dx, h1⟩, h2, nd, mp, ml⟩ (fun j => ?_) (by omega) fun c o e _ _ => e
          by_cases cj : j = k
          · rw [if_pos cj, cj, n00]
            unfold get
            rw [e]
            rfl
          · rw [if_neg cj]
        | some v =>
          refine iteT ?_
          walk_at "go"
          refine r_many L h1 (r_var rfl ⟨d, enc m, Sum.inr k, rfl, h2, rfl, ?_, ?_⟩)
          · rw [enc_look, e]
            rfl
          · rw [del_enc]
            refine q (del m k) _ ⟨⟨dx, ?_⟩, upd_same, del_nodup nd, fun p hp => mp p (List.mem_filter.mp hp).1, Nat.le_trans (List.length_filter_le _ _) ml⟩ (fun j => ?_) (Nat.le_succ_of_le (List.length_filter_le _ _)) fun c o e n1 n2 => ?_
            · rw [upd_ne (fun z => by rw [z, h2] at h1; cases h1)]
              exact h1
            · rw [get_del, n00]
            · rw [upd_ne n2]
              exact e
    · refine ite_dT n0 ?_
      refine r_mkO2v rfl rfl fun dd H' hd s2 hx => ?_
      exact q dd H' hd s2 hx
end
end My

namespace My
open PySem L2
local macro_rules | `(tactic| walk_at "bx1") => `(tactic| first | with_reducible assumption | ((with_reducible refine' Bx.upd ?h1 ?h2); (case h1 => walk_at "bx1"); (case h2 => walk_at "ne")) | ((with_reducible refine' Bx.same ?h1 (by with_reducible assumption)); (case h1 => walk_at "bx1")))
local macro_rules | `(tactic| walk_at "bx") => `(tactic| (refine' Bx.mono ?h1 ?h2; (case h1 => walk_at "bx1"); (case h2 => omega)))
local macro_rules | `(tactic| walk_at "ne") => `(tactic| first | with_reducible assumption | exact Ne.symm (by with_reducible assumption) | ((with_reducible refine' ne_of_none ?h1 (by with_reducible assumption)); (case h1 => walk_at "hp")) | ((with_reducible refine' Ne.symm (ne_of_none ?h1 (by with_reducible assumption))); (case h1 => walk_at "hp")) | ((with_reducible refine' Bx.ne ?h1 (by with_reducible assumption)); (case h1 => walk_at "bx1")) | ((with_reducible refine' Ne.symm (Bx.ne ?h1 (by with_reducible assumption))); (case h1 => walk_at "bx1")))
local macro_rules | `(tactic| walk_at "hp") => `(tactic| first | with_reducible assumption | ((with_reducible refine' (upd_same.trans ?h1)); (case h1 => rfl)) | ((with_reducible refine' My.upd_at ?h1 ?h2); (case h1 => walk_at "hp"); (case h2 => walk_at "ne")) | ((with_reducible refine' My.Kp.at (by with_reducible assumption) ?h1 ?h2); (case h1 => walk_at "hp"); (case h2 => walk_at "ne")) | ((with_reducible refine' My.Same.at (by with_reducible assumption) ?h1); (case h1 => walk_at "hp")))
local macro_rules | `(tactic| walk_at "sq") => `(tactic| first | with_reducible assumption | exact SqL.of (by walk_at "hp") | exact SqT.of (by walk_at "hp") | ((with_reducible refine' My.SqT.upd ?h1 (by with_reducible assumption)); (case h1 => walk_at "sq")) | ((with_reducible refine' My.SqL.upd ?h1 (by with_reducible assumption)); (case h1 => walk_at "sq")) | ((with_reducible refine' Same.seq (by with_reducible assumption) ?h1); (case h1 => walk_at "sq")) | ((with_reducible refine' My.SqT.same ?h1 (by with_reducible assumption)); (case h1 => walk_at "sq")) | ((with_reducible refine' My.SqT.kp ?h1 (by with_reducible assumption) ?h2); (case h1 => walk_at "sq"); (case h2 => walk_at "bx1")) | ((with_reducible refine' My.SqL.kp ?h1 (by with_reducible assumption) ?h2); (case h1 => walk_at "sq"); (case h2 => walk_at "ne")))
local macro_rules | `(tactic| walk_at "sd") => `(tactic| first | assumption | omega | decide | (refine ⟨?_, ?_⟩ <;> (first | omega | decide)) | (refine Or.inl ⟨?_, ?_⟩ <;> (first | omega | decide)) | (refine Or.inr ⟨?_, ?_⟩ <;> (first | omega | decide)) | (refine ⟨?_, ?_, ?_⟩ <;> (first | omega | decide)))
local macro_rules | `(tactic| walk_at "ps") => `(tactic| first
  | with_reducible refine r_seq ?_ | with_reducible refine r_asg ?_ | with_reducible refine r_op ?_ | with_reducible refine r_cons ?_ | with_reducible refine r_nil ?_ | with_reducible refine r_c ?_
  | with_reducible refine' r_var rfl ?_ | with_reducible refine r_gname ?_ | with_reducible refine r_cb ?_ | with_reducible refine r_I0 ?_ | with_reducible refine r_ret ?_ | with_reducible refine r_ifS ?_ | with_reducible refine r_test ?_ | with_reducible refine r_B ?_
  | with_reducible refine r_next ?_ | with_reducible refine r_drop ?_ | with_reducible refine r_if ?_ | with_reducible refine r_un ?_ | with_reducible refine r_U ?_ | with_reducible refine r_gsub ?_ | with_reducible refine r_tup ?_ | with_reducible refine r_lst ?_ | with_reducible refine r_bm ?_
  | with_reducible refine r_cal ?_ | with_reducible refine r_not ?_ | with_reducible refine r_and ?_ | with_reducible refine r_or ?_ | with_reducible refine r_andV ?_ | with_reducible refine r_orV ?_ | with_reducible refine r_notV ?_
  | with_reducible refine r_abs ?_ | with_reducible refine r_intI ?_ | with_reducible refine r_intB ?_ | with_reducible refine r_m1 ?_ | with_reducible refine r_slice ?_ | with_reducible refine r_part ?_ | with_reducible refine r_nopart ?_
  | with_reducible refine r_gcons ?_ | with_reducible refine r_gnil ?_
  | with_reducible refine r_par ?_ | with_reducible refine r_par3 ?_ | with_reducible refine r_ex2 ?_ | with_reducible refine r_ex3 ?_
  | with_reducible refine r_isN ?_ | with_reducible refine r_notN ?_
  | with_reducible refine r_iZipA ?_
  | with_reducible refine r_dget ?_ | with_reducible refine r_dget2 ?_ | with_reducible refine r_iKeys ?_ | with_reducible refine r_dput ?_
  | with_reducible refine r_for ?_ | with_reducible refine r_lc ?_ | with_reducible refine r_iList ?_ | with_reducible refine r_iTup ?_ | with_reducible refine r_iRng1 ?_ | with_reducible refine r_iEnum ?_ | with_reducible refine r_orT ?_ | with_reducible refine r_yes ?_ | with_reducible refine r_ixSl ?_)
local macro_rules | `(tactic| walk_at "st") => `(tactic| first
  | walk_at "ps"
  | ((with_reducible refine' r_ixL ?h1 ?h2 ?_); (case h1 => walk_at "sq"); (case h2 => rfl))
  | ((with_reducible refine' r_setL ?h1 ?h2 ?_); (case h1 => walk_at "hp"); (case h2 => rfl))
  | ((with_reducible refine' r_I ?h1 ?_); (case h1 => walk_at "sd"))
  | ((with_reducible refine' r_eq ?h1 ?_); (case h1 => rfl)) | ((with_reducible refine' r_ne ?h1 ?_); (case h1 => rfl))
  | ((with_reducible refine' r_lenL ?h1 ?_); (case h1 => walk_at "sq")) | ((with_reducible refine' r_lenT ?h1 ?_); (case h1 => walk_at "sq")) | ((with_reducible refine' r_lenD ?h1 ?_); (case h1 => walk_at "hp"))
  | ((with_reducible refine' r_slL ?h1 ?_); (case h1 => walk_at "sq"); intro _ _)
  | ((with_reducible refine' r_append ?h1 ?h2 ?_); (case h1 => walk_at "hp"); (case h2 => exact szl (by first | omega | (simp; omega))))
  | ((with_reducible refine' r_gtup ?h1 ?h2 ?_); (case h1 => walk_at "sq"); (case h2 => rfl))
  | ((with_reducible refine' r_cat ?h1 ?h2 ?h3 ?_); (case h1 => walk_at "hp"); (case h2 => walk_at "hp"); (case h3 => exact sz (by first | omega | (simp; omega))); intro _ _)
  | ((with_reducible refine' r_wLst ?h1 ?_); (case h1 => walk_at "sq")) | ((with_reducible refine' r_wTup ?h1 ?_); (case h1 => walk_at "sq"))
  | ((with_reducible refine' r_wRng ?h1 ?_); (case h1 => walk_at "sd"))
  | ((with_reducible refine' r_truL ?h1 ?_); (case h1 => walk_at "sq"))
  | ((with_reducible refine' r_list (Or.inl ?h1) ?_); (case h1 => walk_at "sq"); intro _ _) | ((with_reducible refine' r_list (Or.inr ?h1) ?_); (case h1 => walk_at "sq"); intro _ _)
  | ((with_reducible refine' r_tupL ?h1 ?_); (case h1 => walk_at "sq"); intro _ _) | ((with_reducible refine' r_tupT ?h1 ?_); (case h1 => walk_at "sq"))
  | ((with_reducible refine' r_disp ?h1 ?_); (case h1 => exact Nat.le_of_ble_eq_true rfl); intro _ _)
  | ((with_reducible refine r_dnewK ?_); intro _ _)
  | ((with_reducible refine' r_tyL ?h1 ?_); (case h1 => walk_at "sq")) | with_reducible refine r_strV ?_
  | with_reducible refine r_exb ?_ | with_reducible refine r_exi ?_ | with_reducible refine r_exr ?_ | with_reducible refine r_exs ?_ | with_reducible refine r_exli ?_)
local macro_rules | `(tactic| walk_at "go") => `(tactic| repeat walk_at "st")
local macro_rules | `(tactic| walk_at "in") => `(tactic| dsimp only [noxK, cxK, L2.start, List.map_cons, List.map_nil, List.length_cons, List.length_nil, Nat.reduceAdd, Nat.reduceSub, List.replicate, List.cons_append, List.nil_append])

section
variable {P : Program} {w : World} {K : PySem.W.Frag} {mg : Str → Option Value} {base : Heap} {C CB CS : Addr}
abbrev sLotIadd : Stmt := inClass (top 14) 20
theorem scLotIadd : FnScope ["self", "other"] ["self", "other"] (defScope sLotIadd) := ⟨rfl, rfl, rfl, by decide +kernel, rfl, by decide +kernel, by decide +kernel⟩
def spLotIadd (C : Addr) : Sp := fun vs H Q _ => ∃ (a b : Addr) (m m2 : AL), vs = [.ref a, .ref b] ∧ LoA C H a m ∧ LoA C H b m2 ∧ m.length + m2.length ≤ 30 ∧
  ∀ (d' : Addr) (m' : AL) (H' : Hp), H d' = none → LoD C H' a d' m' → (∀ k, get m' k = get m k + get m2 k) → Kp a H H' → Q (.ref a) H'
theorem ok_lotIadd {f : Addr} {fd : FuncData} (F : Fun K "__iadd__" "Lot.__iadd__" sLotIadd f fd) (L : TxL K C) (Op : OCal P w K mg base CX0 2 C "pairs" ["self"] (spLotPairs C)) (Cc : Cal P w K mg base CX0 1 "_counted" ["pairs"] (spOwnCountedT K)) : FnOk P w K mg base CX0 3 f fd ["self", "other"] (spLotIadd C) := by
  refine F.ok scLotIadd (fun vs H Q E h => ?_) (fun cdv A outer s H vs Q E hr h => ?_)
  · obtain ⟨a, b, m, m2, rfl, _⟩ := h
    rfl
  · obtain ⟨a, b, m, m2, rfl, La, Lb, lm, q⟩ := h
    refine ⟨_, (pss_cons (ps_fld (pv 0) (pe_cal Cc (hr.mono (by decide)) pass0 (pa_cons (pe_op op_catA (pe_methO0 Op L.oc.cl hr pass0 (pv 0)) (pe_methO0 Op L.oc.cl hr pass0 (pv 1))) pa_nil)) rfl)
  (pss_one (ps_ret (pv 0)))), ?_⟩
    walk_at "in"
    walk_at "go"
    obtain ⟨⟨d, dx, h1, h2⟩, nd, mp, ml⟩ := id La
    obtain ⟨⟨d2, dx2, h12, h22⟩, nd2, mp2, ml2⟩ := id Lb
    show tCal (spOwnCountedT K) E0 _ _ H _
    walk_at "go"
    refine r_meth0 ?_
    walk_at "go"
    refine ⟨a, dx, _, rfl, h1, look1, a, m, rfl, La, fun p ts qs H1 hp hp1 hts cn s1 => ?_⟩
    refine r_meth0 ?_
    walk_at "go"
    refine ⟨b, dx2, _, rfl, s1 _ _ h12, look1, b, m2, rfl, Lb.same s1, fun p2 ts2 qs2 H2 hp2 hp21 hts2 cn2 s2 => ?_⟩
    have l1 : ts.length = m.length := (Paired.len hts).trans (cn.len mp)
    have l2 : ts2.length = m2.length := (Paired.len hts2).trans (cn2.len mp2)
    refine r_catA (SqT.of (s2 _ _ hp1)) (SqT.of hp21) (sz (by omega)) fun c H3 hc s3 => ?_
    walk_at "go"
    have pp : Paired (PrA H3) (ts ++ ts2) (qs ++ qs2) := Paired.app (Paired.mapP hts fun _ _ z => (z.same s2).same s3) (Paired.mapP hts2 fun _ _ z => z.same s3)
    refine ⟨c, ts ++ ts2, qs ++ qs2, rfl, hc, pp, by rw [List.length_append]; omega, fun z hz => ?_, fun d' m' H4 hd' hm' nd' mp' hg lm' s4 => ?_⟩
    · rcases List.mem_append.mp hz with z' | z'
      · exact Int.le_of_lt (mp z ((cn.mem mp z).mp z'))
      · exact Int.le_of_lt (mp2 z ((cn2.mem mp2 z).mp z'))
    · have s13 : Same H H3 := fun c o e => s3 _ _ (s2 _ _ (s1 _ _ e))
      have s14 : Same H H4 := fun c o e => s4 _ _ (s3 _ _ (s2 _ _ (s1 _ _ e)))
      have ha4 := s14 _ _ h1
      have na : d' ≠ a := fun z => by rw [z, s3 _ _ (s2 _ _ (s1 _ _ h1))] at hd'; cases hd'
      refine ⟨_, rfl, a, C, dx, _, rfl, ha4, L.oc.cl, L.nM, by show 1 < 1000; decide, ?_⟩
      walk_at "go"
      rw [List.length_append] at lm'
      have ep : putF "_many" (V.ref d') [(("_many" : Str), V.ref d)] = [(("_many" : Str), V.ref d')] := by
        show (if ("_many" : Str) = "_many" then _ else _) = _
        rw [if_pos rfl]
      refine q d' m' _ (s13.free hd') ⟨⟨dx, by rw [ep]; exact upd_same⟩, by walk_at "hp", nd', mp', by omega⟩ (fun k => ?_) fun c o e n => ?_
      · have t1 := cn.totf mp nd (fun _ v => v) k
        have t2 := cn2.totf mp2 nd2 (fun _ v => v) k
        have e1 : (qs.map fun p => (p.1, p.2)) = qs := List.map_id' qs
        have e2 : (qs2.map fun p => (p.1, p.2)) = qs2 := List.map_id' qs2
        rw [e1] at t1
        rw [e2] at t2
        rw [hg k, tot_app, t1, t2]
        by_cases c1 : k ∈ keys m
        · rw [if_pos c1]
          by_cases c2 : k ∈ keys m2
          · rw [if_pos c2]
          · rw [if_neg c2, get_none c2]
        · rw [if_neg c1, get_none c1]
          by_cases c2 : k ∈ keys m2
          · rw [if_pos c2]
          · rw [if_neg c2, get_none c2]
      · have e4 := s14 _ _ e
        walk_at "hp"
end
end My

namespace My
open PySem L2
local macro_rules | `(tactic| walk_at "bx1") => `(tactic| first | with_reducible assumption | ((with_reducible refine' Bx.upd ?h1 ?h2); (case h1 => walk_at "bx1"); (case h2 => walk_at "ne")) | ((with_reducible refine' Bx.same ?h1 (by with_reducible assumption)); (case h1 => walk_at "bx1")))
local macro_rules | `(tactic| walk_at "bx") => `(tactic| (refine' Bx.mono ?h1 ?h2; (case h1 => walk_at "bx1"); (case h2 => omega)))
local macro_rules | `(tactic| walk_at "ne") => `(tactic| first | with_reducible assumption | exact Ne.symm (by with_reducible assumption) | ((with_reducible refine' ne_of_none ?h1 (by with_reducible assumption)); (case h1 => walk_at "hp")) | ((with_reducible refine' Ne.symm (ne_of_none ?h1 (by with_reducible assumption))); (case h1 => walk_at "hp")) | ((with_reducible refine' Bx.ne ?h1 (by with_reducible assumption)); (case h1 => walk_at "bx1")) | ((with_reducible refine' Ne.symm (Bx.ne ?h1 (by with_reducible assumption))); (case h1 => walk_at "bx1")))
local macro_rules | `(tactic| walk_at "hp") => `(tactic| first | with_reducible assumption | ((with_reducible refine' (upd_same.trans ?h1)); (case h1 => rfl)) | ((with_reducible refine' My.upd_at ?h1 ?h2); (case h1 => walk_at "hp"); (case h2 => walk_at "ne")) | ((with_reducible refine' My.Kp.at (by with_reducible assumption) ?h1 ?h2); (case h1 => walk_at "hp"); (case h2 => walk_at "ne")) | ((with_reducible refine' My.Same.at (by with_reducible assumption) ?h1); (case h1 => walk_at "hp")))
local macro_rules | `(tactic| walk_at "sq") => `(tactic| first | with_reducible assumption | exact SqL.of (by walk_at "hp") | exact SqT.of (by walk_at "hp") | ((with_reducible refine' My.SqT.upd ?h1 (by with_reducible assumption)); (case h1 => walk_at "sq")) | ((with_reducible refine' My.SqL.upd ?h1 (by with_reducible assumption)); (case h1 => walk_at "sq")) | ((with_reducible refine' Same.seq (by with_reducible assumption) ?h1); (case h1 => walk_at "sq")) | ((with_reducible refine' My.SqT.same ?h1 (by with_reducible assumption)); (case h1 => walk_at "sq")) | ((with_reducible refine' My.SqT.kp ?h1 (by with_reducible assumption) ?h2); (case h1 => walk_at "sq"); (case h2 => walk_at "bx1")) | ((with_reducible refine' My.SqL.kp ?h1 (by with_reducible assumption) ?h2); (case h1 => walk_at "sq"); (case h2 => walk_at "ne")))
local macro_rules | `(tactic| walk_at "sd") => `(tactic| first | assumption | omega | decide | (refine ⟨?_, ?_⟩ <;> (first | omega | decide)) | (refine Or.inl ⟨?_, ?_⟩ <;> (first | omega | decide)) | (refine Or.inr ⟨?_, ?_⟩ <;> (first | omega | decide)) | (refine ⟨?_, ?_, ?_⟩ <;> (first | omega | decide)))
local macro_rules | `(tactic| walk_at "ps") => `(tactic| first
  | with_reducible refine r_seq ?_ | with_reducible refine r_asg ?_ | with_reducible refine r_op ?_ | with_reducible refine r_cons ?_ | with_reducible refine r_nil ?_ | with_reducible refine r_c ?_
  | with_reducible refine' r_var rfl ?_ | with_reducible refine r_gname ?_ | with_reducible refine r_cb ?_ | with_reducible refine r_I0 ?_ | with_reducible refine r_ret ?_ | with_reducible refine r_ifS ?_ | with_reducible refine r_test ?_ | with_reducible refine r_B ?_
  | with_reducible refine r_next ?_ | with_reducible refine r_drop ?_ | with_reducible refine r_if ?_ | with_reducible refine r_un ?_ | with_reducible refine r_U ?_ | with_reducible refine r_gsub ?_ | with_reducible refine r_tup ?_ | with_reducible refine r_lst ?_ | with_reducible refine r_bm ?_
  | with_reducible refine r_cal ?_ | with_reducible refine r_not ?_ | with_reducible refine r_and ?_ | with_reducible refine r_or ?_ | with_reducible refine r_andV ?_ | with_reducible refine r_orV ?_ | with_reducible refine r_notV ?_
  | with_reducible refine r_abs ?_ | with_reducible refine r_intI ?_ | with_reducible refine r_intB ?_ | with_reducible refine r_m1 ?_ | with_reducible refine r_slice ?_ | with_reducible refine r_part ?_ | with_reducible refine r_nopart ?_
  | with_reducible refine r_gcons ?_ | with_reducible refine r_gnil ?_
  | with_reducible refine r_par ?_ | with_reducible refine r_par3 ?_ | with_reducible refine r_ex2 ?_ | with_reducible refine r_ex3 ?_
  | with_reducible refine r_isN ?_ | with_reducible refine r_notN ?_
  | with_reducible refine r_iZipA ?_
  | with_reducible refine r_dget ?_ | with_reducible refine r_dget2 ?_ | with_reducible refine r_iKeys ?_ | with_reducible refine r_dput ?_
  | with_reducible refine r_for ?_ | with_reducible refine r_lc ?_ | with_reducible refine r_iList ?_ | with_reducible refine r_iTup ?_ | with_reducible refine r_iRng1 ?_ | with_reducible refine r_iEnum ?_ | with_reducible refine r_orT ?_ | with_reducible refine r_yes ?_ | with_reducible refine r_ixSl ?_)
local macro_rules | `(tactic| walk_at "st") => `(tactic| first
  | walk_at "ps"
  | ((with_reducible refine' r_ixL ?h1 ?h2 ?_); (case h1 => walk_at "sq"); (case h2 => rfl))
  | ((with_reducible refine' r_setL ?h1 ?h2 ?_); (case h1 => walk_at "hp"); (case h2 => rfl))
  | ((with_reducible refine' r_I ?h1 ?_); (case h1 => walk_at "sd"))
  | ((with_reducible refine' r_eq ?h1 ?_); (case h1 => rfl)) | ((with_reducible refine' r_ne ?h1 ?_); (case h1 => rfl))
  | ((with_reducible refine' r_lenL ?h1 ?_); (case h1 => walk_at "sq")) | ((with_reducible refine' r_lenT ?h1 ?_); (case h1 => walk_at "sq")) | ((with_reducible refine' r_lenD ?h1 ?_); (case h1 => walk_at "hp"))
  | ((with_reducible refine' r_slL ?h1 ?_); (case h1 => walk_at "sq"); intro _ _)
  | ((with_reducible refine' r_append ?h1 ?h2 ?_); (case h1 => walk_at "hp"); (case h2 => exact szl (by first | omega | (simp; omega))))
  | ((with_reducible refine' r_gtup ?h1 ?h2 ?_); (case h1 => walk_at "sq"); (case h2 => rfl))
  | ((with_reducible refine' r_cat ?h1 ?h2 ?h3 ?_); (case h1 => walk_at "hp"); (case h2 => walk_at "hp"); (case h3 => exact sz (by first | omega | (simp; omega))); intro _ _)
  | ((with_reducible refine' r_wLst ?h1 ?_); (case h1 => walk_at "sq")) | ((with_reducible refine' r_wTup ?h1 ?_); (case h1 => walk_at "sq"))
  | ((with_reducible refine' r_wRng ?h1 ?_); (case h1 => walk_at "sd"))
  | ((with_reducible refine' r_truL ?h1 ?_); (case h1 => walk_at "sq"))
  | ((with_reducible refine' r_list (Or.inl ?h1) ?_); (case h1 => walk_at "sq"); intro _ _) | ((with_reducible refine' r_list (Or.inr ?h1) ?_); (case h1 => walk_at "sq"); intro _ _)
  | ((with_reducible refine' r_tupL ?h1 ?_); (case h1 => walk_at "sq"); intro _ _) | ((with_reducible refine' r_tupT ?h1 ?_); (case h1 => walk_at "sq"))
  | ((with_reducible refine' r_disp ?h1 ?_); (case h1 => exact Nat.le_of_ble_eq_true rfl); intro _ _)
  | ((with_reducible refine r_dnewK ?_); intro _ _)
  | ((with_reducible refine' r_tyL ?h1 ?_); (case h1 => walk_at "sq")) | with_reducible refine r_strV ?_
  | with_reducible refine r_exb ?_ | with_reducible refine r_exi ?_ | with_reducible refine r_exr ?_ | with_reducible refine r_exs ?_ | with_reducible refine r_exli ?_)
local macro_rules | `(tactic| walk_at "go") => `(tactic| repeat walk_at "st")
local macro_rules | `(tactic| walk_at "in") => `(tactic| dsimp only [noxK, cxK, L2.start, List.map_cons, List.map_nil, List.length_cons, List.length_nil, Nat.reduceAdd, Nat.reduceSub, List.replicate, List.cons_append, List.nil_append])

section
variable {P : Program} {w : World} {K : PySem.W.Frag} {mg : Str → Option Value} {base : Heap} {C : Addr}
def sAbc : Str := Str.ofString "abcdefghijklmnopqrstuvwxyz"
def sDig : Str := Str.ofString "0123456789"
/-- the program's constants -/
structure GlS (mg : Str → Option Value) : Prop where
  lt : ∃ u, mg "_LETTERS" = some u ∧ RelV (.str sAbc) u
  dg : ∃ u, mg "_DIGITS" = some u ∧ RelV (.str sDig) u
  lk : ∃ u, mg "_LONGEST_KIND" = some u ∧ RelV (.int 8) u
  md : ∃ u, mg "_MOST_DIGITS" = some u ∧ RelV (.int 300) u
theorem abc_mem {c : Nat} : c ∈ sAbc.cps.toList ↔ 97 ≤ c ∧ c ≤ 122 := by
  have e : sAbc.cps.toList = (List.range 26).map (97 + ·) := by decide +kernel
  rw [e, List.mem_map]
  exact ⟨fun ⟨d, hd, z⟩ => by have := List.mem_range.mp hd; omega, fun h => ⟨c - 97, List.mem_range.mpr (by omega), by omega⟩⟩
theorem dig_mem {c : Nat} : c ∈ sDig.cps.toList ↔ 48 ≤ c ∧ c ≤ 57 := by
  have e : sDig.cps.toList = (List.range 10).map (48 + ·) := by decide +kernel
  rw [e, List.mem_map]
  exact ⟨fun ⟨d, hd, z⟩ => by have := List.mem_range.mp hd; omega, fun h => ⟨c - 48, List.mem_range.mpr (by omega), by omega⟩⟩
theorem r_gc {v : V} {σ : L2.St} {H : Hp} {Q : VK} (q : Q v H) : tC v σ H Q := q
def rInS : V → V → Hp → VK → Prop := fun x y H Q => ∃ (c : Nat) (z : Str), x = .str ⟨#[c]⟩ ∧ y = .str z ∧ Q (.bl (decide (c ∈ z.cps.toList))) H
theorem op_inS {X : Cx} : OpR X (compareOp .In) rInS := op_in_sign
theorem r_inS {c : Nat} {z : Str} {H : Hp} {Q : VK} (q : Q (.bl (decide (c ∈ z.cps.toList))) H) : rInS (.str ⟨#[c]⟩) (.str z) H Q := ⟨c, z, rfl, rfl, q⟩
theorem r_chain {r r' : R2} {ta tb tc : TE} {σ : L2.St} {H : Hp} {Q : VK} (h : ta σ H fun x H1 => tb σ H1 fun y H2 => r x y H2 fun z H3 => ∃ k, z = .bl k ∧ (if k = true then tc σ H3 fun w' H4 => r' y w' H4 Q else Q (.bl false) H3)) : tChain r r' ta tb tc σ H Q := h
theorem r_iStr {te : TE} {σ : L2.St} {H : Hp} {R : It → Hp → Prop} (h : te σ H fun v H1 => ∃ x, v = .str x ∧ R (Its x) H1) : iStr te σ H R := h
/-- [c in L for c in z] -/
theorem lc_inL {σ : L2.St} {H : Hp} {Q : VK} {i j : Nat} {z L : Str} (hi : σ[i]? = some (some (.str z))) (hj : j < σ.length) (hz : z.length ≤ 100000)
    (hd : ∀ D H', H D = none → H' D = some (.lst (((cds z).map fun c => decide (c ∈ L.cps.toList)).map V.bl)) → Same H H' → Q (.ref D) H') :
    tLc (iStr (tVar i)) (gName j) tYes (tOp rInS (tVar j) (tC (.str L))) [j] σ H Q := by
  have hsl := PySem.sizeLine_eq
  refine r_lc (r_iStr (r_var hi ⟨z, rfl, fun D hD => ?_⟩))
  refine lc_it (walk_str (z := z)) (fun k H' => H' D = some (.lst ((((cds z).take k).map fun c => decide (c ∈ L.cps.toList)).map V.bl)) ∧ Same H H') ?_ (fun _ _ _ _ => trivial) ?_ ?_
  · exact ⟨upd_same, fun c o e => upd_at e (ne_of_none e hD)⟩
  · rintro k x H1 _ hk ⟨hD1, s1⟩ ⟨rfl, c, hc, rfl⟩
    refine r_gname ⟨by show ((wipe σ [j]).set j _).set j none = _; rw [List.set_set]; show (σ.set j none).set j none = σ.set j none; rw [List.set_set], ?_⟩
    refine r_yes (iteT ?_)
    refine r_op (r_var (by rw [List.getElem?_set_self (by rw [wipe_length]; exact hj)]) (r_c (r_inS ?_)))
    have hc' : (cds z)[k]? = some c := by rw [Array.getElem?_toList]; exact hc
    refine ⟨_, hD1, ?_, ?_, fun d o e => upd_at (s1 _ _ e) (ne_of_none e hD)⟩
    · rw [List.length_map, List.length_map, List.length_take, ← len_cds]; omega
    · rw [List.take_add_one, hc', List.map_append, List.map_append]
      exact upd_same
  · rintro H1 ⟨hD1, s1⟩
    have e : (cds z).take z.cps.size = cds z := List.take_of_length_le (by rw [Array.length_toList]; exact Nat.le_refl _)
    rw [e] at hD1
    exact hd D H1 hD hD1 s1
abbrev sIsKind : Stmt := top 11
theorem scIsKind : FnScope ["word", "letter"] ["word"] (defScope sIsKind) := ⟨rfl, rfl, rfl, by decide +kernel, rfl, by decide +kernel, by decide +kernel⟩
def spIsKind : Sp := fun vs H Q _ => ∃ z : Str, vs = [.str z] ∧ z.length ≤ 100000 ∧ ∀ (b : Bool) (H' : Hp), (b = true ↔ KindS z) → Same H H' → Q (.bl b) H'
theorem ok_isKind {f : Addr} {fd : FuncData} (F : Fun K "is_kind" "is_kind" sIsKind f fd) (T : Txt K mg) (G : GlS mg) : FnOk P w K mg base CX0 1 f fd ["word"] spIsKind := by
  refine F.ok scIsKind (fun vs H Q E h => ?_) (fun cdv A outer s H vs Q E hr h => ?_)
  · obtain ⟨z, rfl, _⟩ := h
    rfl
  · obtain ⟨z, rfl, hz, q⟩ := h
    have hsl := PySem.sizeLine_eq
    have hlc := len_cds z
    refine ⟨_, (pss_one (ps_ret (pe_and (pe_chain op_le op_le pe_int (pe_callB c_lenS (by rfl) T.len (by decide +kernel) (pa_cons (pv 0) pa_nil)) (C8.pe_gc (by rfl) G.lk)) (pe_one (pe_callB (cr_all rfl) (by rfl) T.all (by decide +kernel) (pa_cons (pe_lc (own := [("letter", 1)]) (g := gName 1) (tt := tYes) rfl scIsKind.nd (pi_str (pv 0)) (blkOk_by (N := ["word", "letter"]) (sc := defScope sIsKind) (by decide +kernel)) (fun _ _ _ _ _ => (pg_name (i := 1) scIsKind.nd rfl (Or.inl rfl))) (fun _ _ _ _ _ => pts_nil) (fun _ _ _ _ _ => (pe_cmpR op_inS (pv 1) (C8.pe_gc (by rfl) G.lt) (by rfl)))) pa_nil)))))), ?_⟩
    walk_at "in"
    walk_at "go"
    refine r_chain ?_
    walk_at "go"
    refine r_lenS (by omega) ?_
    walk_at "go"
    by_cases h1 : (1 : Int) ≤ (z.length : Int)
    · rw [if_pos (decide_eq_true h1)]
      walk_at "go"
      by_cases h2 : (z.length : Int) ≤ 8
      · rw [if_pos (decide_eq_true h2)]
        refine r_cb (r_cons ?_)
        refine lc_inL rfl (by simp) hz fun D H1 _ hD s1 => ?_
        walk_at "go"
        refine r_all (SqL.of hD) ?_
        refine q _ _ ?_ s1
        rw [List.all_map, List.all_eq_true]
        refine ⟨fun h => ⟨by omega, by omega, fun c hc => abc_mem.mp (of_decide_eq_true (h c hc))⟩, fun h c hc => decide_eq_true (abc_mem.mpr (h.2.2 c hc))⟩
      · rw [if_neg (by rw [decide_eq_false h2]; simp)]
        refine q _ _ ⟨fun h => ?_, fun h => absurd h.2.1 (by omega)⟩ fun _ _ e => e
        cases h
    · refine ite_dF h1 ?_
      refine ⟨false, rfl, ?_⟩
      rw [if_neg (by simp)]
      exact q _ _ ⟨fun h => (by cases h), fun h => absurd h.1 (by omega)⟩ fun _ _ e => e
abbrev sOwnIsMany : Stmt := top 12
theorem scOwnIsMany : FnScope ["word", "digit"] ["word"] (defScope sOwnIsMany) := ⟨rfl, rfl, rfl, by decide +kernel, rfl, by decide +kernel, by decide +kernel⟩
def spIsMany : Sp := fun vs H Q _ => ∃ z : Str, vs = [.str z] ∧ z.length ≤ 100000 ∧ ∀ (b : Bool) (H' : Hp), (b = true ↔ ManyS z) → Same H H' → Q (.bl b) H'
theorem ok_isMany {f : Addr} {fd : FuncData} (F : Fun K "_is_many" "_is_many" sOwnIsMany f fd) (T : Txt K mg) (G : GlS mg) : FnOk P w K mg base CX0 1 f fd ["word"] spIsMany := by
  refine F.ok scOwnIsMany (fun vs H Q E h => ?_) (fun cdv A outer s H vs Q E hr h => ?_)
  · obtain ⟨z, rfl, _⟩ := h
    rfl
  · obtain ⟨z, rfl, hz, q⟩ := h
    have hsl := PySem.sizeLine_eq
    have hlc := len_cds z
    refine ⟨_, (pss_cons (ps_if (PW.pt (pw_or (pt_not (pt_chain op_le op_le pe_int (pe_callB c_lenS (by rfl) T.len (by decide +kernel) (pa_cons (pv 0) pa_nil)) (C8.pe_gc (by rfl) G.md))) (pw_or1 (pt_cmpR op_eq (pe_ix ix_str (pv 0) pe_int (fun _ _ => rfl)) pe_str (nomark _)))))
  (pss_one (ps_ret pe_bl))
  pss_nil)
  (pss_one (ps_ret (pe_callB (cr_all rfl) (by rfl) T.all (by decide +kernel) (pa_cons (pe_lc (own := [("digit", 1)]) (g := gName 1) (tt := tYes) rfl scOwnIsMany.nd (pi_str (pv 0)) (blkOk_by (N := ["word", "digit"]) (sc := defScope sOwnIsMany) (by decide +kernel)) (fun _ _ _ _ _ => (pg_name (i := 1) scOwnIsMany.nd rfl (Or.inl rfl))) (fun _ _ _ _ _ => pts_nil) (fun _ _ _ _ _ => (pe_cmpR op_inS (pv 1) (C8.pe_gc (by rfl) G.dg) (by rfl)))) pa_nil))))), ?_⟩
    walk_at "in"
    walk_at "go"
    refine r_chain ?_
    walk_at "go"
    refine r_lenS (by omega) ?_
    walk_at "go"
    have no : ¬ (1 ≤ (cds z).length ∧ (cds z).length ≤ 300) → ¬ ManyS z := fun h g => h ⟨g.1, g.2.1⟩
    have none_ : ¬ ManyS z → Q (.bl false) H := fun h => q _ _ ⟨fun e => (by cases e), fun g => absurd g h⟩ fun _ _ e => e
    by_cases h1 : (1 : Int) ≤ (z.length : Int)
    · refine ite_dT h1 ?_
      walk_at "go"
      by_cases h2 : (z.length : Int) ≤ 300
      · refine ite_ndF h2 ?_
        walk_at "ps"
        walk_at "ps"
        obtain ⟨c, hc⟩ : ∃ c, (cds z)[0]? = some c := ⟨_, List.getElem?_eq_getElem (by omega)⟩
        refine r_op (r_var rfl (r_c ⟨z, 0, c, rfl, rfl, by omega, atI_nat (j := 0) hc, r_c (r_eq rfl ⟨_, rfl, ?_⟩)⟩))
        by_cases h3 : c = 48
        · subst h3
          refine ite_dT (by decide +kernel) ?_
          walk_at "go"
          exact none_ fun g => g.2.2.1 hc
        · refine ite_dF (fun e => h3 ?_) ?_
          · injection e with e
            have e2 : (⟨#[c]⟩ : Str).cps.toList = (Str.ofString "0").cps.toList := congrArg (fun z : Str => z.cps.toList) e
            rw [show (Str.ofString "0").cps.toList = [48] by decide +kernel] at e2
            injection e2
          · refine r_next ?_
            walk_at "ps"
            refine r_cb (r_cons ?_)
            refine lc_inL rfl (by simp) hz fun D H1 _ hD s1 => ?_
            walk_at "go"
            refine r_all (SqL.of hD) ?_
            refine q _ _ ?_ s1
            rw [List.all_map, List.all_eq_true]
            refine ⟨fun h => ⟨by omega, by omega, fun e => h3 ?_, fun c hc => dig_mem.mp (of_decide_eq_true (h c hc))⟩, fun h c hc => decide_eq_true (dig_mem.mpr (h.2.2.2 c hc))⟩
            rw [hc] at e
            injection e
      · refine ite_ndT h2 ?_
        refine iteT ?_
        walk_at "go"
        exact none_ (no (by omega))
    · refine ite_dF h1 ?_
      refine ⟨false, rfl, ?_⟩
      refine iteT ?_
      refine iteT ?_
      walk_at "go"
      exact none_ (no (by omega))
end
end My

namespace My
open PySem L2
local macro_rules | `(tactic| walk_at "bx1") => `(tactic| first | with_reducible assumption | ((with_reducible refine' Bx.upd ?h1 ?h2); (case h1 => walk_at "bx1"); (case h2 => walk_at "ne")) | ((with_reducible refine' Bx.same ?h1 (by with_reducible assumption)); (case h1 => walk_at "bx1")))
local macro_rules | `(tactic| walk_at "bx") => `(tactic| (refine' Bx.mono ?h1 ?h2; (case h1 => walk_at "bx1"); (case h2 => omega)))
local macro_rules | `(tactic| walk_at "ne") => `(tactic| first | with_reducible assumption | exact Ne.symm (by with_reducible assumption) | ((with_reducible refine' ne_of_none ?h1 (by with_reducible assumption)); (case h1 => walk_at "hp")) | ((with_reducible refine' Ne.symm (ne_of_none ?h1 (by with_reducible assumption))); (case h1 => walk_at "hp")) | ((with_reducible refine' Bx.ne ?h1 (by with_reducible assumption)); (case h1 => walk_at "bx1")) | ((with_reducible refine' Ne.symm (Bx.ne ?h1 (by with_reducible assumption))); (case h1 => walk_at "bx1")))
local macro_rules | `(tactic| walk_at "hp") => `(tactic| first | with_reducible assumption | ((with_reducible refine' (upd_same.trans ?h1)); (case h1 => rfl)) | ((with_reducible refine' My.upd_at ?h1 ?h2); (case h1 => walk_at "hp"); (case h2 => walk_at "ne")) | ((with_reducible refine' My.Kp.at (by with_reducible assumption) ?h1 ?h2); (case h1 => walk_at "hp"); (case h2 => walk_at "ne")) | ((with_reducible refine' My.Same.at (by with_reducible assumption) ?h1); (case h1 => walk_at "hp")))
local macro_rules | `(tactic| walk_at "sq") => `(tactic| first | with_reducible assumption | exact SqL.of (by walk_at "hp") | exact SqT.of (by walk_at "hp") | ((with_reducible refine' My.SqT.upd ?h1 (by with_reducible assumption)); (case h1 => walk_at "sq")) | ((with_reducible refine' My.SqL.upd ?h1 (by with_reducible assumption)); (case h1 => walk_at "sq")) | ((with_reducible refine' Same.seq (by with_reducible assumption) ?h1); (case h1 => walk_at "sq")) | ((with_reducible refine' My.SqT.same ?h1 (by with_reducible assumption)); (case h1 => walk_at "sq")) | ((with_reducible refine' My.SqT.kp ?h1 (by with_reducible assumption) ?h2); (case h1 => walk_at "sq"); (case h2 => walk_at "bx1")) | ((with_reducible refine' My.SqL.kp ?h1 (by with_reducible assumption) ?h2); (case h1 => walk_at "sq"); (case h2 => walk_at "ne")))
local macro_rules | `(tactic| walk_at "sd") => `(tactic| first | assumption | omega | decide | (refine ⟨?_, ?_⟩ <;> (first | omega | decide)) | (refine Or.inl ⟨?_, ?_⟩ <;> (first | omega | decide)) | (refine Or.inr ⟨?_, ?_⟩ <;> (first | omega | decide)) | (refine ⟨?_, ?_, ?_⟩ <;> (first | omega | decide)))
local macro_rules | `(tactic| walk_at "ps") => `(tactic| first
  | with_reducible refine r_seq ?_ | with_reducible refine r_asg ?_ | with_reducible refine r_op ?_ | with_reducible refine r_cons ?_ | with_reducible refine r_nil ?_ | with_reducible refine r_c ?_
  | with_reducible refine' r_var rfl ?_ | with_reducible refine r_gname ?_ | with_reducible refine r_cb ?_ | with_reducible refine r_I0 ?_ | with_reducible refine r_ret ?_ | with_reducible refine r_ifS ?_ | with_reducible refine r_test ?_ | with_reducible refine r_B ?_
  | with_reducible refine r_next ?_ | with_reducible refine r_drop ?_ | with_reducible refine r_if ?_ | with_reducible refine r_un ?_ | with_reducible refine r_U ?_ | with_reducible refine r_gsub ?_ | with_reducible refine r_tup ?_ | with_reducible refine r_lst ?_ | with_reducible refine r_bm ?_
  | with_reducible refine r_cal ?_ | with_reducible refine r_not ?_ | with_reducible refine r_and ?_ | with_reducible refine r_or ?_ | with_reducible refine r_andV ?_ | with_reducible refine r_orV ?_ | with_reducible refine r_notV ?_
  | with_reducible refine r_abs ?_ | with_reducible refine r_intI ?_ | with_reducible refine r_intB ?_ | with_reducible refine r_m1 ?_ | with_reducible refine r_slice ?_ | with_reducible refine r_part ?_ | with_reducible refine r_nopart ?_
  | with_reducible refine r_gcons ?_ | with_reducible refine r_gnil ?_
  | with_reducible refine r_par ?_ | with_reducible refine r_par3 ?_ | with_reducible refine r_ex2 ?_ | with_reducible refine r_ex3 ?_
  | with_reducible refine r_isN ?_ | with_reducible refine r_notN ?_
  | with_reducible refine r_iZipA ?_
  | with_reducible refine r_dget ?_ | with_reducible refine r_dget2 ?_ | with_reducible refine r_iKeys ?_ | with_reducible refine r_dput ?_
  | with_reducible refine r_for ?_ | with_reducible refine r_lc ?_ | with_reducible refine r_iList ?_ | with_reducible refine r_iTup ?_ | with_reducible refine r_iRng1 ?_ | with_reducible refine r_iEnum ?_ | with_reducible refine r_orT ?_ | with_reducible refine r_yes ?_ | with_reducible refine r_ixSl ?_)
local macro_rules | `(tactic| walk_at "st") => `(tactic| first
  | walk_at "ps"
  | ((with_reducible refine' r_ixL ?h1 ?h2 ?_); (case h1 => walk_at "sq"); (case h2 => rfl))
  | ((with_reducible refine' r_setL ?h1 ?h2 ?_); (case h1 => walk_at "hp"); (case h2 => rfl))
  | ((with_reducible refine' r_I ?h1 ?_); (case h1 => walk_at "sd"))
  | ((with_reducible refine' r_eq ?h1 ?_); (case h1 => rfl)) | ((with_reducible refine' r_ne ?h1 ?_); (case h1 => rfl))
  | ((with_reducible refine' r_lenL ?h1 ?_); (case h1 => walk_at "sq")) | ((with_reducible refine' r_lenT ?h1 ?_); (case h1 => walk_at "sq")) | ((with_reducible refine' r_lenD ?h1 ?_); (case h1 => walk_at "hp"))
  | ((with_reducible refine' r_slL ?h1 ?_); (case h1 => walk_at "sq"); intro _ _)
  | ((with_reducible refine' r_append ?h1 ?h2 ?_); (case h1 => walk_at "hp"); (case h2 => exact szl (by first | omega | (simp; omega))))
  | ((with_reducible refine' r_gtup ?h1 ?h2 ?_); (case h1 => walk_at "sq"); (case h2 => rfl))
  | ((with_reducible refine' r_cat ?h1 ?h2 ?h3 ?_); (case h1 => walk_at "hp"); (case h2 => walk_at "hp"); (case h3 => exact sz (by first | omega | (simp; omega))); intro _ _)
  | ((with_reducible refine' r_wLst ?h1 ?_); (case h1 => walk_at "sq")) | ((with_reducible refine' r_wTup ?h1 ?_); (case h1 => walk_at "sq"))
  | ((with_reducible refine' r_wRng ?h1 ?_); (case h1 => walk_at "sd"))
  | ((with_reducible refine' r_truL ?h1 ?_); (case h1 => walk_at "sq"))
  | ((with_reducible refine' r_list (Or.inl ?h1) ?_); (case h1 => walk_at "sq"); intro _ _) | ((with_reducible refine' r_list (Or.inr ?h1) ?_); (case h1 => walk_at "sq"); intro _ _)
  | ((with_reducible refine' r_tupL ?h1 ?_); (case h1 => walk_at "sq"); intro _ _) | ((with_reducible refine' r_tupT ?h1 ?_); (case h1 => walk_at "sq"))
  | ((with_reducible refine' r_disp ?h1 ?_); (case h1 => exact Nat.le_of_ble_eq_true rfl); intro _ _)
  | ((with_reducible refine r_dnewK ?_); intro _ _)
  | ((with_reducible refine' r_tyL ?h1 ?_); (case h1 => walk_at "sq")) | with_reducible refine r_strV ?_
  | with_reducible refine r_exb ?_ | with_reducible refine r_exi ?_ | with_reducible refine r_exr ?_ | with_reducible refine r_exs ?_ | with_reducible refine r_exli ?_)
local macro_rules | `(tactic| walk_at "go") => `(tactic| repeat walk_at "st")
local macro_rules | `(tactic| walk_at "in") => `(tactic| dsimp only [noxK, cxK, L2.start, List.map_cons, List.map_nil, List.length_cons, List.length_nil, Nat.reduceAdd, Nat.reduceSub, List.replicate, List.cons_append, List.nil_append])

section
variable {P : Program} {w : World} {K : PySem.W.Frag} {mg : Str → Option Value} {base : Heap} {C : Addr}
abbrev sFigures : Stmt := top 27
theorem scFigures : FnScope ["_law_word", "_law_sign"] ["_law_word"] (defScope sFigures) := ⟨rfl, rfl, rfl, by decide +kernel, rfl, by decide +kernel, by decide +kernel⟩
def spFigures : Sp := fun vs H Q _ => ∃ z : Str, vs = [.str z] ∧ z.length ≤ 100000 ∧ ∀ (b : Bool) (H' : Hp), (b = true ↔ ManyS z) → Same H H' → Q (.bl b) H'
theorem ok_figures {f : Addr} {fd : FuncData} (F : Fun K "_law_figures" "_law_figures" sFigures f fd) (T : Txt K mg) : FnOk P w K mg base CX0 1 f fd ["_law_word"] spFigures := by
  refine F.ok scFigures (fun vs H Q E h => ?_) (fun cdv A outer s H vs Q E hr h => ?_)
  · obtain ⟨z, rfl, _⟩ := h
    rfl
  · obtain ⟨z, rfl, hz, q⟩ := h
    have hsl := PySem.sizeLine_eq
    have hlc := len_cds z
    refine ⟨_, (pss_cons (ps_if (PW.pt (pw_or (pt_not (pt_chain op_lt op_lt pe_int (pe_callB c_lenS (by rfl) T.len (by decide +kernel) (pa_cons (pv 0) pa_nil)) pe_int)) (pw_or1 (pt_cmpR op_eq (pe_ix ix_str (pv 0) pe_int (fun _ _ => rfl)) pe_str (nomark _)))))
  (pss_one (ps_ret pe_bl))
  pss_nil)
  (pss_one (ps_ret (pe_callB (cr_all rfl) (by rfl) T.all (by decide +kernel) (pa_cons (pe_lc (own := [("_law_sign", 1)]) (g := gName 1) (tt := tYes) rfl scFigures.nd (pi_str (pv 0)) (blkOk_by (N := ["_law_word", "_law_sign"]) (sc := defScope sFigures) (by decide +kernel)) (fun _ _ _ _ _ => (pg_name (i := 1) scFigures.nd rfl (Or.inl rfl))) (fun _ _ _ _ _ => pts_nil) (fun _ _ _ _ _ => (pe_cmpR op_inS (pv 1) pe_str (by rfl)))) pa_nil))))), ?_⟩
    walk_at "in"
    walk_at "go"
    refine r_chain ?_
    walk_at "go"
    refine r_lenS (by omega) ?_
    walk_at "go"
    have no : ¬ (1 ≤ (cds z).length ∧ (cds z).length ≤ 300) → ¬ ManyS z := fun h g => h ⟨g.1, g.2.1⟩
    have none_ : ¬ ManyS z → Q (.bl false) H := fun h => q _ _ ⟨fun e => (by cases e), fun g => absurd g h⟩ fun _ _ e => e
    by_cases h1 : (0 : Int) < (z.length : Int)
    · refine ite_dT h1 ?_
      walk_at "go"
      by_cases h2 : (z.length : Int) < 301
      · refine ite_ndF h2 ?_
        walk_at "ps"
        walk_at "ps"
        obtain ⟨c, hc⟩ : ∃ c, (cds z)[0]? = some c := ⟨_, List.getElem?_eq_getElem (by omega)⟩
        refine r_op (r_var rfl (r_c ⟨z, 0, c, rfl, rfl, by omega, atI_nat (j := 0) hc, r_c (r_eq rfl ⟨_, rfl, ?_⟩)⟩))
        by_cases h3 : c = 48
        · subst h3
          refine ite_dT (by decide +kernel) ?_
          walk_at "go"
          exact none_ fun g => g.2.2.1 hc
        · refine ite_dF (fun e => h3 ?_) ?_
          · injection e with e
            have e2 : (⟨#[c]⟩ : Str).cps.toList = (Str.ofString "0").cps.toList := congrArg (fun z : Str => z.cps.toList) e
            rw [show (Str.ofString "0").cps.toList = [48] by decide +kernel] at e2
            injection e2
          · refine r_next ?_
            walk_at "ps"
            refine r_cb (r_cons ?_)
            refine lc_inL rfl (by simp) hz fun D H1 _ hD s1 => ?_
            walk_at "go"
            refine r_all (SqL.of hD) ?_
            refine q _ _ ?_ s1
            rw [List.all_map, List.all_eq_true]
            refine ⟨fun h => ⟨by omega, by omega, fun e => h3 ?_, fun c hc => dig_mem.mp (of_decide_eq_true (h c hc))⟩, fun h c hc => decide_eq_true (dig_mem.mpr (h.2.2.2 c hc))⟩
            rw [hc] at e
            injection e
      · refine ite_ndT h2 ?_
        refine iteT ?_
        walk_at "go"
        exact none_ (no (by omega))
    · refine ite_dF h1 ?_
      refine ⟨false, rfl, ?_⟩
      refine iteT ?_
      refine iteT ?_
      walk_at "go"
      exact none_ (no (by omega))
end
end My

namespace My
open PySem L2
local macro_rules | `(tactic| walk_at "bx1") => `(tactic| first | with_reducible assumption | ((with_reducible refine' Bx.upd ?h1 ?h2); (case h1 => walk_at "bx1"); (case h2 => walk_at "ne")) | ((with_reducible refine' Bx.same ?h1 (by with_reducible assumption)); (case h1 => walk_at "bx1")))
local macro_rules | `(tactic| walk_at "bx") => `(tactic| (refine' Bx.mono ?h1 ?h2; (case h1 => walk_at "bx1"); (case h2 => omega)))
local macro_rules | `(tactic| walk_at "ne") => `(tactic| first | with_reducible assumption | exact Ne.symm (by with_reducible assumption) | ((with_reducible refine' ne_of_none ?h1 (by with_reducible assumption)); (case h1 => walk_at "hp")) | ((with_reducible refine' Ne.symm (ne_of_none ?h1 (by with_reducible assumption))); (case h1 => walk_at "hp")) | ((with_reducible refine' Bx.ne ?h1 (by with_reducible assumption)); (case h1 => walk_at "bx1")) | ((with_reducible refine' Ne.symm (Bx.ne ?h1 (by with_reducible assumption))); (case h1 => walk_at "bx1")))
local macro_rules | `(tactic| walk_at "hp") => `(tactic| first | with_reducible assumption | ((with_reducible refine' (upd_same.trans ?h1)); (case h1 => rfl)) | ((with_reducible refine' My.upd_at ?h1 ?h2); (case h1 => walk_at "hp"); (case h2 => walk_at "ne")) | ((with_reducible refine' My.Kp.at (by with_reducible assumption) ?h1 ?h2); (case h1 => walk_at "hp"); (case h2 => walk_at "ne")) | ((with_reducible refine' My.Same.at (by with_reducible assumption) ?h1); (case h1 => walk_at "hp")))
local macro_rules | `(tactic| walk_at "sq") => `(tactic| first | with_reducible assumption | exact SqL.of (by walk_at "hp") | exact SqT.of (by walk_at "hp") | ((with_reducible refine' My.SqT.upd ?h1 (by with_reducible assumption)); (case h1 => walk_at "sq")) | ((with_reducible refine' My.SqL.upd ?h1 (by with_reducible assumption)); (case h1 => walk_at "sq")) | ((with_reducible refine' Same.seq (by with_reducible assumption) ?h1); (case h1 => walk_at "sq")) | ((with_reducible refine' My.SqT.same ?h1 (by with_reducible assumption)); (case h1 => walk_at "sq")) | ((with_reducible refine' My.SqT.kp ?h1 (by with_reducible assumption) ?h2); (case h1 => walk_at "sq"); (case h2 => walk_at "bx1")) | ((with_reducible refine' My.SqL.kp ?h1 (by with_reducible assumption) ?h2); (case h1 => walk_at "sq"); (case h2 => walk_at "ne")))
local macro_rules | `(tactic| walk_at "sd") => `(tactic| first | assumption | omega | decide | (refine ⟨?_, ?_⟩ <;> (first | omega | decide)) | (refine Or.inl ⟨?_, ?_⟩ <;> (first | omega | decide)) | (refine Or.inr ⟨?_, ?_⟩ <;> (first | omega | decide)) | (refine ⟨?_, ?_, ?_⟩ <;> (first | omega | decide)))
local macro_rules | `(tactic| walk_at "ps") => `(tactic| first
  | with_reducible refine r_seq ?_ | with_reducible refine r_asg ?_ | with_reducible refine r_op ?_ | with_reducible refine r_cons ?_ | with_reducible refine r_nil ?_ | with_reducible refine r_c ?_
  | with_reducible refine' r_var rfl ?_ | with_reducible refine r_gname ?_ | with_reducible refine r_cb ?_ | with_reducible refine r_I0 ?_ | with_reducible refine r_ret ?_ | with_reducible refine r_ifS ?_ | with_reducible refine r_test ?_ | with_reducible refine r_B ?_
  | with_reducible refine r_next ?_ | with_reducible refine r_drop ?_ | with_reducible refine r_if ?_ | with_reducible refine r_un ?_ | with_reducible refine r_U ?_ | with_reducible refine r_gsub ?_ | with_reducible refine r_tup ?_ | with_reducible refine r_lst ?_ | with_reducible refine r_bm ?_
  | with_reducible refine r_cal ?_ | with_reducible refine r_not ?_ | with_reducible refine r_and ?_ | with_reducible refine r_or ?_ | with_reducible refine r_andV ?_ | with_reducible refine r_orV ?_ | with_reducible refine r_notV ?_
  | with_reducible refine r_abs ?_ | with_reducible refine r_intI ?_ | with_reducible refine r_intB ?_ | with_reducible refine r_m1 ?_ | with_reducible refine r_slice ?_ | with_reducible refine r_part ?_ | with_reducible refine r_nopart ?_
  | with_reducible refine r_gcons ?_ | with_reducible refine r_gnil ?_
  | with_reducible refine r_par ?_ | with_reducible refine r_par3 ?_ | with_reducible refine r_ex2 ?_ | with_reducible refine r_ex3 ?_
  | with_reducible refine r_isN ?_ | with_reducible refine r_notN ?_
  | with_reducible refine r_iZipA ?_
  | with_reducible refine r_dget ?_ | with_reducible refine r_dget2 ?_ | with_reducible refine r_iKeys ?_ | with_reducible refine r_dput ?_
  | with_reducible refine r_for ?_ | with_reducible refine r_lc ?_ | with_reducible refine r_iList ?_ | with_reducible refine r_iTup ?_ | with_reducible refine r_iRng1 ?_ | with_reducible refine r_iEnum ?_ | with_reducible refine r_orT ?_ | with_reducible refine r_yes ?_ | with_reducible refine r_ixSl ?_)
local macro_rules | `(tactic| walk_at "st") => `(tactic| first
  | walk_at "ps"
  | ((with_reducible refine' r_ixL ?h1 ?h2 ?_); (case h1 => walk_at "sq"); (case h2 => rfl))
  | ((with_reducible refine' r_setL ?h1 ?h2 ?_); (case h1 => walk_at "hp"); (case h2 => rfl))
  | ((with_reducible refine' r_I ?h1 ?_); (case h1 => walk_at "sd"))
  | ((with_reducible refine' r_eq ?h1 ?_); (case h1 => rfl)) | ((with_reducible refine' r_ne ?h1 ?_); (case h1 => rfl))
  | ((with_reducible refine' r_lenL ?h1 ?_); (case h1 => walk_at "sq")) | ((with_reducible refine' r_lenT ?h1 ?_); (case h1 => walk_at "sq")) | ((with_reducible refine' r_lenD ?h1 ?_); (case h1 => walk_at "hp"))
  | ((with_reducible refine' r_slL ?h1 ?_); (case h1 => walk_at "sq"); intro _ _)
  | ((with_reducible refine' r_append ?h1 ?h2 ?_); (case h1 => walk_at "hp"); (case h2 => exact szl (by first | omega | (simp; omega))))
  | ((with_reducible refine' r_gtup ?h1 ?h2 ?_); (case h1 => walk_at "sq"); (case h2 => rfl))
  | ((with_reducible refine' r_cat ?h1 ?h2 ?h3 ?_); (case h1 => walk_at "hp"); (case h2 => walk_at "hp"); (case h3 => exact sz (by first | omega | (simp; omega))); intro _ _)
  | ((with_reducible refine' r_wLst ?h1 ?_); (case h1 => walk_at "sq")) | ((with_reducible refine' r_wTup ?h1 ?_); (case h1 => walk_at "sq"))
  | ((with_reducible refine' r_wRng ?h1 ?_); (case h1 => walk_at "sd"))
  | ((with_reducible refine' r_truL ?h1 ?_); (case h1 => walk_at "sq"))
  | ((with_reducible refine' r_list (Or.inl ?h1) ?_); (case h1 => walk_at "sq"); intro _ _) | ((with_reducible refine' r_list (Or.inr ?h1) ?_); (case h1 => walk_at "sq"); intro _ _)
  | ((with_reducible refine' r_tupL ?h1 ?_); (case h1 => walk_at "sq"); intro _ _) | ((with_reducible refine' r_tupT ?h1 ?_); (case h1 => walk_at "sq"))
  | ((with_reducible refine' r_disp ?h1 ?_); (case h1 => exact Nat.le_of_ble_eq_true rfl); intro _ _)
  | ((with_reducible refine r_dnewK ?_); intro _ _)
  | ((with_reducible refine' r_tyL ?h1 ?_); (case h1 => walk_at "sq")) | with_reducible refine r_strV ?_
  | with_reducible refine r_exb ?_ | with_reducible refine r_exi ?_ | with_reducible refine r_exr ?_ | with_reducible refine r_exs ?_ | with_reducible refine r_exli ?_)
local macro_rules | `(tactic| walk_at "go") => `(tactic| repeat walk_at "st")
local macro_rules | `(tactic| walk_at "in") => `(tactic| dsimp only [noxK, cxK, L2.start, List.map_cons, List.map_nil, List.length_cons, List.length_nil, Nat.reduceAdd, Nat.reduceSub, List.replicate, List.cons_append, List.nil_append])

section
variable {P : Program} {w : World} {K : PySem.W.Frag} {mg : Str → Option Value} {base : Heap} {C CB CN : Addr}
abbrev sLotOf : Stmt := inClass (top 14) 1
theorem scLotOf : FnScope ["cls", "text", "words", "counts", "kinds", "kind", "word"] ["cls", "text"] (defScope sLotOf) := ⟨rfl, rfl, rfl, by decide +kernel, rfl, by decide +kernel, by decide +kernel⟩
def spPred (R : Str → Prop) : Sp := fun vs H Q _ => ∃ z : Str, vs = [.str z] ∧ z.length ≤ 100000 ∧ ∀ (b : Bool) (H' : Hp), (b = true ↔ R z) → Same H H' → Q (.bl b) H'
/-- [f(y) for y in ys] -/
theorem lc_pred {R : Str → Prop} {σ : L2.St} {H : Hp} {Q : VK} {i j : Nat} {a : Addr} {ys : List Str} (hi : σ[i]? = some (some (.ref a))) (hj : j < σ.length) (hs : SqL K H a (ys.map V.str)) (hl : ys.length ≤ 100000) (hz : ∀ y ∈ ys, y.length ≤ 100000)
    (hd : ∀ D H' (bs : List Bool), H D = none → H' D = some (.lst (bs.map V.bl)) → (bs.all id = true ↔ ∀ y ∈ ys, R y) → Same H H' → Q (.ref D) H') :
    tLc (iList K (tVar i)) (gName j) tYes (tCal (spPred R) E0 (tCons (tVar j) tNil)) [j] σ H Q := by
  have hsl := PySem.sizeLine_eq
  refine r_lc (r_iList (r_var hi ⟨a, rfl, ⟨_, hs⟩, fun D hD => ?_⟩))
  refine lc_it (walk_list (xs := ys.map V.str)) (fun k H' => ∃ bs : List Bool, H' D = some (.lst (bs.map V.bl)) ∧ bs.length = k ∧ (bs.all id = true ↔ ∀ y ∈ ys.take k, R y) ∧ Same H H') ?_ ?_ ?_ ?_
  · exact ⟨[], upd_same, rfl, by simp, fun c o e => upd_at e (ne_of_none e hD)⟩
  · rintro k H' _ ⟨_, _, _, _, s1⟩
    exact s1.seq hs
  · rintro k x _ H1 hk ⟨bs, hD1, hb, hall, s1⟩ ⟨rfl, hx⟩
    rw [List.getElem?_map] at hx
    obtain ⟨y, hy, rfl⟩ := Option.map_eq_some_iff.mp hx
    refine r_gname ⟨by show ((wipe σ [j]).set j _).set j none = _; rw [List.set_set]; show (σ.set j none).set j none = σ.set j none; rw [List.set_set], ?_⟩
    refine r_yes (iteT ?_)
    refine r_cal (r_cons (r_var (by rw [List.getElem?_set_self (by rw [wipe_length]; exact hj)]) (r_nil ?_)))
    refine ⟨y, rfl, hz y (List.mem_of_getElem? hy), fun b H2 hb2 s2 => ?_⟩
    rw [List.length_map] at hk
    refine ⟨_, s2 _ _ hD1, by rw [List.length_map]; omega, bs ++ [b], by rw [List.map_append]; exact upd_same, by rw [List.length_append, hb]; rfl, ?_, fun c o e => upd_at (s2 _ _ (s1 _ _ e)) (ne_of_none e hD)⟩
    rw [List.take_add_one, hy, List.all_append, Bool.and_eq_true, hall]
    constructor
    · rintro ⟨g1, g2⟩ w hw
      rcases List.mem_append.mp hw with hw | hw
      · exact g1 w hw
      · rw [List.mem_singleton.mp hw]
        exact hb2.mp (by simpa using g2)
    · intro g
      exact ⟨fun w hw => g w (List.mem_append_left _ hw), by simpa using hb2.mpr (g y (List.mem_append_right _ (List.mem_singleton_self _)))⟩
  · rintro H1 ⟨bs, hD1, hb, hall, s1⟩
    rw [List.length_map, List.take_length] at hall
    exact hd D H1 bs hD hD1 hall s1
theorem r_sl2 {te : TE} {tl th ts : TO} {σ : L2.St} {H : Hp} {Q : VK} (h : te σ H fun x H1 => tl σ H1 fun l H2 => th σ H2 fun u H3 => ts σ H3 fun st H4 => u = none ∧ st = some 2 ∧ ∃ (p : Addr) (xs : List V) (a : Nat), x = .ref p ∧ (l = none ∧ a = 0 ∨ l = some (a : Int)) ∧ SqL K H4 p xs ∧ ∀ q, H4 q = none → Q (.ref q) (L2.upd H4 q (.lst (evs (xs.drop a))))) : tSl2 K te tl th ts σ H Q := h
theorem word_len {z w : Str} (h : w ∈ words z) : w.length ≤ z.length := by
  have e := words_sum z
  have : w.length ≤ ((words z).map (·.length)).sum := by
    generalize words z = ws at h
    induction ws with
    | nil => cases h
    | cons a r ih =>
      rw [List.map_cons, List.sum_cons]
      rcases List.mem_cons.mp h with rfl | h
      · omega
      · have := ih h
        omega
  omega
theorem evs_mem {α : Type} {x : α} {xs : List α} (h : x ∈ evs xs) : x ∈ xs := by
  obtain ⟨i, hi⟩ := List.mem_iff_getElem?.mp h
  rw [evs_at] at hi
  exact List.mem_of_getElem? hi
theorem ods_mem {α : Type} {x : α} {xs : List α} (h : x ∈ ods xs) : x ∈ xs := List.mem_of_mem_drop (evs_mem h)
/-- facts of the error BadText -/
structure TxBt (K : PySem.W.Frag) (mg : Str → Option Value) (CN : Addr) : Prop where
  g : mg "BadText" = some (.ref CN)
  x : PySem.W.excIn K CN [.type "ValueError", .type "Exception", .type "BaseException", .type "object"] "ValueError.__new__" = true
  k : PySem.W.keepIn K (.ref CN) = true
  b : PySem.W.subIn K (.ref CN) (.type "BaseException") = some true
  t : PySem.W.typeIn K (.ref CN) = some (.type "type")
/-- a Lot of just these -/
def LotQ (C : Addr) (H H' : Hp) (x : Addr) (qs : AL) : Prop := ∃ m, LoN C H H' x m ∧ Cn m qs
structure Fit (z : Str) : Prop where
  le : z.length ≤ 100000
  bl : (cds z).count 32 ≤ 50
def spLotOf (C CN : Addr) : Sp := fun vs H Q E => ∃ z : Str, vs = [.ref C, .str z] ∧ Fit z ∧
  (∀ qs (x : Addr) (H' : Hp), Reads z qs → H x = none → LotQ C H H' x qs → Same H H' → Q (.ref x) H') ∧ (∀ H', Bad z → Same H H' → E (.ref CN) none H')
theorem ok_lotOf {f t0 : Addr} {fd : FuncData} (F : Fun K "of" "Lot.of" sLotOf f fd) (T : Txt K mg) (L : TxL K C) (TB : TxBt K mg CN) (Om : OMk P w K mg base CX0 2 C "Lot" ["self", "pairs"] (spLotInit K C)) (OmD : OMkD P w K mg base CX0 2 C ["self", "pairs"] [.ref t0] (spLotInitT K C)) (e0 : ∀ H, SqT K H t0 [])
    (Ck : Cal P w K mg base CX0 1 "is_kind" ["word"] spIsKind) (Cm : Cal P w K mg base CX0 1 "_is_many" ["word"] spIsMany) : FnOk P w K mg base (CX P w) 4 f fd ["cls", "text"] (spLotOf C CN) := by
  refine F.okX scLotOf (fun vs H Q E h => ?_) (fun cdv A outer s H vs Q E hr h => ?_)
  · obtain ⟨z, rfl, _⟩ := h
    rfl
  · obtain ⟨z, rfl, ft, q, qe⟩ := h
    have hsl := PySem.sizeLine_eq
    refine ⟨_, (pss_cons (ps_if (pt_cmpR op_eq (pv 1) pe_str (nomark _))
  (pss_one (ps_ret (pe_makeV0 (i := 0) OmD hr pass0 rfl (Or.inl rfl))))
  pss_nil)
  (pss_cons (ps_set (i := 2) scLotOf.nd rfl (Or.inl rfl) (pe_split (pv 1) pe_str))
  (pss_cons (ps_set (i := 3) scLotOf.nd rfl (Or.inl rfl) (pe_slice2 (pv 2) po_none po_none (po_some pe_int)))
  (pss_cons (ps_set (i := 4) scLotOf.nd rfl (Or.inl rfl) (pe_slice2 (pv 2) (po_some pe_int) po_none (po_some pe_int)))
  (pss_cons (ps_if (PW.pt (pw_or (pt_cmpR op_ne (pe_callB c_lenL (by rfl) T.len (by decide +kernel) (pa_cons (pv 3) pa_nil)) (pe_callB c_lenL (by rfl) T.len (by decide +kernel) (pa_cons (pv 4) pa_nil)) (nomark _)) (pw_or1 (pt_not (pt_val (pe_callB (cr_all rfl) (by rfl) T.all (by decide +kernel) (pa_cons (pe_lc (own := [("word", 6)]) (g := gName 6) (tt := tYes) rfl scLotOf.nd (pi_list (pv 3)) (blkOk_by (N := ["cls", "text", "words", "counts", "kinds", "kind", "word"]) (sc := defScope sLotOf) (by decide +kernel)) (fun _ _ _ _ _ => (pg_name (i := 6) scLotOf.nd rfl (Or.inl rfl))) (fun _ _ _ _ _ => pts_nil) (fun _ _ _ _ _ => (pe_cal Cm (hr.mono (by decide)) pass0 (pa_cons (pv 6) pa_nil)))) pa_nil)))))))
  (pss_one (ps_raise rfl (takes_of rfl rfl rfl rfl) (pmk_own0 PySem.F.excBase_ValueError TB.x TB.g TB.k (raises_own TB.b TB.t) (by rfl))))
  pss_nil)
  (pss_cons (ps_if (PW.pt (pw_or (pt_not (pt_val (pe_callB (cr_all rfl) (by rfl) T.all (by decide +kernel) (pa_cons (pe_lc (own := [("word", 6)]) (g := gName 6) (tt := tYes) rfl scLotOf.nd (pi_list (pv 4)) (blkOk_by (N := ["cls", "text", "words", "counts", "kinds", "kind", "word"]) (sc := defScope sLotOf) (by decide +kernel)) (fun _ _ _ _ _ => (pg_name (i := 6) scLotOf.nd rfl (Or.inl rfl))) (fun _ _ _ _ _ => pts_nil) (fun _ _ _ _ _ => (pe_cal Ck (hr.mono (by decide)) pass0 (pa_cons (pv 6) pa_nil)))) pa_nil)))) (pw_or1 (pt_cmpR (op_neD hr.units) (pv 4) (pe_callB (cr_sortedSO rfl) (by rfl) T.sorted (by decide +kernel) (pa_cons (pe_callTy (cr_setL rfl) (by rfl) T.set (by decide +kernel) (pa_cons (pv 4) pa_nil)) pa_nil)) (nomark _)))))
  (pss_one (ps_raise rfl (takes_of rfl rfl rfl rfl) (pmk_own0 PySem.F.excBase_ValueError TB.x TB.g TB.k (raises_own TB.b TB.t) (by rfl))))
  pss_nil)
  (pss_one (ps_ret (pe_makeV (i := 0) Om hr pass0 rfl (Or.inl rfl) (pa_cons (pe_lc (own := [("kind", 5), ("word", 6)]) (g := gTup _ 2 (gCons (gName 5) (gCons (gName 6) gNil))) (tt := tYes) rfl scLotOf.nd (RZ.pi_zipA (by rfl) T.zip (pa_cons (pv 4) (pa_cons (pv 3) pa_nil))) (blkOk_by (N := ["cls", "text", "words", "counts", "kinds", "kind", "word"]) (sc := defScope sLotOf) (by decide +kernel)) (fun _ _ _ _ _ => (pg_tup rfl (pgs_cons (pg_name (i := 5) scLotOf.nd rfl (Or.inl rfl)) (pgs_cons (pg_name (i := 6) scLotOf.nd rfl (Or.inl rfl)) pgs_nil)))) (fun _ _ _ _ _ => pts_nil) (fun _ _ _ _ _ => (pe_tup (pa_cons (pv 5) (pa_cons (pe_callTy call_int_str (by rfl) T.int (by decide +kernel) (pa_cons (pv 6) pa_nil)) pa_nil))))) pa_nil)))))))))), ?_⟩
    walk_at "in"
    walk_at "go"
    have hw := words_len z
    have hb := ft.bl
    have hz := ft.le
    refine ite2 (fun c => ?_) (fun c => ?_)
    · have ez : z = dash := by
        have := of_decide_eq_true c
        injection this
      walk_at "ps"
      refine ⟨rfl, r_mk (r_nil ?_)⟩
      intro x dx hx hdx hne
      have sI : Same H (upd (upd H dx (.own x)) x (.ins C dx [])) := fun c o e => by
        have e1 := upd_at (a := dx) (o := HO.own x) e (ne_of_none e hdx)
        exact upd_at e1 (ne_of_none e hx)
      refine ⟨x, dx, t0, [], [], rfl, upd_same, e0 _, .nil, by decide, fun _ h => (by cases h), fun m H' La hg kp => ⟨rfl, ?_⟩⟩
      have s2 : Same H H' := fun c o e => kp c o (sI _ _ e) (ne_of_none e hx)
      exact q [] x H' ⟨.inl ⟨ez, rfl⟩⟩ hx ⟨m, La.mono sI, cn_tot La.lo.nd (by exact List.nodup_nil) (fun p hp => by cases hp) .nil hg⟩ s2
    · have nz : z ≠ dash := fun e => c (decide_eq_true (by rw [e]; rfl))
      walk_at "go"
      refine ⟨z, _, rfl, rfl, by decide +kernel, by omega, fun p hp => ?_⟩
      walk_at "go"
      refine r_sl2 ?_
      walk_at "go"
      refine ⟨rfl, rfl, p, (words z).map V.str, 0, rfl, .inl ⟨rfl, rfl⟩, SqL.of upd_same, fun p2 hp2 => ?_⟩
      walk_at "go"
      refine r_sl2 ?_
      walk_at "go"
      refine ⟨rfl, rfl, p, (words z).map V.str, 1, rfl, .inr rfl, SqL.of (upd_at upd_same (ne_of_none upd_same hp2)), fun p3 hp3 => ?_⟩
      walk_at "ps"
      have h2 : upd (upd (upd H p (HO.lst (List.map V.str (Txt.split z (Str.ofString " "))))) p2 (HO.lst (evs (List.drop 0 (List.map V.str (words z)))))) p3 (HO.lst (evs (List.drop 1 (List.map V.str (words z))))) p2 = some (.lst ((evs (words z)).map V.str)) := by
        refine (upd_at upd_same (ne_of_none upd_same hp3)).trans ?_
        rw [List.drop_zero, evs_map]
      have h3 : upd (upd (upd H p (HO.lst (List.map V.str (Txt.split z (Str.ofString " "))))) p2 (HO.lst (evs (List.drop 0 (List.map V.str (words z)))))) p3 (HO.lst (evs (List.drop 1 (List.map V.str (words z))))) p3 = some (.lst ((ods (words z)).map V.str)) := by
        refine upd_same.trans ?_
        rw [← List.map_drop, evs_map]
        rfl
      have s1 : Same H (upd (upd (upd H p (HO.lst (List.map V.str (Txt.split z (Str.ofString " "))))) p2 (HO.lst (evs (List.drop 0 (List.map V.str (words z)))))) p3 (HO.lst (evs (List.drop 1 (List.map V.str (words z)))))) := fun c o e => by
        have e1 := upd_at (a := p) (o := HO.lst (List.map V.str (Txt.split z (Str.ofString " ")))) e (ne_of_none e hp)
        have e2 := upd_at (a := p2) (o := HO.lst (evs (List.drop 0 (List.map V.str (words z))))) e1 (ne_of_none e1 hp2)
        exact upd_at e2 (ne_of_none e2 hp3)
      generalize upd (upd (upd H p (HO.lst (List.map V.str (Txt.split z (Str.ofString " "))))) p2 (HO.lst (evs (List.drop 0 (List.map V.str (words z)))))) p3 (HO.lst (evs (List.drop 1 (List.map V.str (words z))))) = H1 at h2 h3 s1 ⊢
      clear hp hp2 hp3
      have lc := evs_len (words z)
      have lk := ods_len (words z)
      walk_at "go"
      have no : ∀ H', Same H1 H' → ¬ OkW (words z) → E (.ref CN) none H' := fun H' s2 h => qe H' ⟨nz, h⟩ fun c o e => s2 _ _ (s1 _ _ e)
      by_cases ev : (words z).length % 2 = 0
      case neg =>
        refine ite_ndT (fun e => ?_) (iteT (no _ (fun _ _ e => e) fun h => ev h.ev))
        injection e with e
        rw [List.length_map, List.length_map] at e
        omega
      refine ite_ndF ?_ ?_
      · congr 1
        rw [List.length_map, List.length_map]
        omega
      walk_at "ps"
      walk_at "ps"
      walk_at "ps"
      walk_at "ps"
      refine lc_pred (R := ManyS) rfl (by simp) (SqL.of h2) (by omega) (fun y hy => Nat.le_trans (word_len (evs_mem hy)) hz) fun D H2 bs _ hD hbs s2 => ?_
      walk_at "go"
      refine r_all (SqL.of hD) ?_
      walk_at "go"
      cases hall : bs.all id with
      | false =>
        refine iteT (no _ s2 fun h => ?_)
        have := hbs.mpr h.nu
        rw [hall] at this
        cases this
      | true =>
        have nu := hbs.mp hall
        refine iteF ?_
        walk_at "ps"
        iterate 7 walk_at "ps"
        have h3' := s2 _ _ h3
        refine lc_pred (R := KindS) rfl (by simp) (SqL.of h3') (by omega) (fun y hy => Nat.le_trans (word_len (ods_mem hy)) hz) fun D2 H3 bs2 _ hD2 hbs2 s3 => ?_
        walk_at "go"
        refine r_all (SqL.of hD2) ?_
        walk_at "go"
        have s13 : Same H1 H3 := fun c o e => s3 _ _ (s2 _ _ e)
        cases hall2 : bs2.all id with
        | false =>
          refine iteT (iteT (no _ s13 fun h => ?_))
          have := hbs2.mpr h.ki
          rw [hall2] at this
          cases this
        | true =>
          have ki := hbs2.mp hall2
          refine iteF ?_
          have h33 := s13 _ _ h3
          have h23 := s13 _ _ h2
          clear hD hD2 h3' s2 s3 hall hall2 hbs hbs2
          walk_at "go"
          refine ⟨p3, ods (words z), rfl, SqL.of h33, by omega, fun a L ha nd me => ?_⟩
          walk_at "go"
          have ll := nodup_sub_len nd fun k hk => (me k).mp hk
          refine r_sortedSO upd_same (by omega) fun ys l hp hs hl => ?_
          have n1 : l ≠ a := fun z => by rw [z, upd_same] at hl; cases hl
          have hl0 : H3 l = none := by rw [upd_ne n1] at hl; exact hl
          have s4 : Same H3 (upd (upd H3 a (SetSO P w a L)) l (.lst (ys.map V.str))) := fun c o e => upd_at (upd_at e (ne_of_none e ha)) (ne_of_none e hl0)
          have h4 : upd (upd H3 a (SetSO P w a L)) l (.lst (ys.map V.str)) l = some (.lst (ys.map V.str)) := upd_same
          show rNeD K (V.ref p3) (V.ref l) (upd (upd H3 a (SetSO P w a L)) l (.lst (ys.map V.str))) _
          generalize upd (upd H3 a (SetSO P w a L)) l (.lst (ys.map V.str)) = H4 at s4 h4 ⊢
          clear hl ha
          have ky : ∀ k ∈ ys, KindS k := fun k hk => ki k ((me k).mp (hp.mem_iff.mp hk))
          refine ⟨sd (ods (words z)), sd ys, ?_, ?_, shaped_sd ki, shaped_sd ky, ?_⟩
          · exact .lst (SqL.of (s4 _ _ h33)) (dp_strs _)
          · exact .lst (SqL.of h4) (dp_strs _)
          rw [eqv_sd]
          have ai := asc_iff nd me hp hs
          refine ⟨_, rfl, ?_⟩
          by_cases up : ods (words z) = ys
          case neg =>
            refine ite_ndT up (no _ (fun c o e => s4 _ _ (s13 _ _ e)) fun h => up (ai.mpr h.up))
          refine ite_ndF up ?_
          have ok : OkW (words z) := ⟨ev, nu, ki, ai.mp up⟩
          walk_at "ps"
          walk_at "ps"
          refine ⟨rfl, r_mk (r_cons (r_lc (r_iZipA (r_cons (r_var rfl (r_cons (r_var rfl (r_nil ⟨p3, p2, _, _, rfl, .inl ⟨SqL.of (s4 _ _ h33), SqL.of (s4 _ _ h23), fun D3 hD3 => ?_⟩⟩))))))))⟩
          have l1 := qsOf_len ev
          refine lc_it (walk_zip (xs := (ods (words z)).map V.str) (ys := (evs (words z)).map V.str) (n := (qsOf (words z)).length) (by rw [List.length_map, List.length_map]; omega)) (fun i H' => ∃ xs, H' D3 = some (.lst xs) ∧ Paired (PrA H') xs ((qsOf (words z)).take i) ∧ Same H4 H') ?_ ?_ ?_ ?_
          · exact ⟨[], upd_same, .nil, fun c o e => upd_at e (ne_of_none e hD3)⟩
          · rintro i H' _ ⟨_, _, _, s5⟩
            exact ⟨SqL.of (s5 _ _ (s4 _ _ h33)), SqL.of (s5 _ _ (s4 _ _ h23))⟩
          · rintro i _ H5 _ hi ⟨xs, hD4, hxs, s5⟩ ⟨t, u, v, rfl, ht, rfl, hu, hv⟩
            replace hu : ((ods (words z)).map V.str)[i]? = some u := hu
            replace hv : ((evs (words z)).map V.str)[i]? = some v := hv
            rw [List.getElem?_map] at hu hv
            obtain ⟨k, hk, rfl⟩ := Option.map_eq_some_iff.mp hu
            obtain ⟨n, hn, rfl⟩ := Option.map_eq_some_iff.mp hv
            have mn := nu n (List.mem_of_getElem? hn)
            have mn2 := mn.2.1
            rw [← len_cds] at mn2
            have hat := qsOf_at hn hk
            walk_at "go"
            refine ⟨rfl, r_yes (iteT ?_)⟩
            walk_at "go"
            refine ⟨n, _, rfl, mn.reads, by omega, ?_⟩
            walk_at "go"
            rename_i u hu1
            have nt : D3 ≠ t := ne_of_none hD4 ht
            have hD5 : upd (upd H5 t (HO.tup [V.str k, V.str n])) u (HO.tup [V.str k, V.int (num n)]) D3 = some (.lst xs) := upd_at (upd_at hD4 nt) (ne_of_none (upd_at hD4 nt) hu1)
            have n2 : D3 ≠ u := ne_of_none (upd_at hD4 nt) hu1
            have lxs := Paired.len hxs
            have ltk : ((qsOf (words z)).take i).length ≤ i := by rw [List.length_take]; omega
            have s6 : Same H5 (upd (upd H5 t (HO.tup [V.str k, V.str n])) u (HO.tup [V.str k, V.int (num n)])) := fun c o e => by
              have e1 := upd_at (a := t) (o := HO.tup [V.str k, V.str n]) e (ne_of_none e ht)
              exact upd_at e1 (ne_of_none e1 hu1)
            have hu2 : upd (upd H5 t (HO.tup [V.str k, V.str n])) u (HO.tup [V.str k, V.int (num n)]) u = some (.tup [V.str k, V.int (num n)]) := upd_same
            generalize upd (upd H5 t (HO.tup [V.str k, V.str n])) u (HO.tup [V.str k, V.int (num n)]) = H6 at hD5 s6 hu2 ⊢
            have k2 : Kp D3 H5 (upd H6 D3 (.lst (xs ++ [V.ref u]))) := fun c o e n => upd_at (s6 _ _ e) n
            refine ⟨xs, hD5, szl (by omega), xs ++ [V.ref u], upd_same, ?_, fun c o e => ?_⟩
            · rw [List.take_add_one, hat]
              exact Paired.app (PrA.kpdAll hxs k2 hD4 (fun _ z => by cases z)) (.cons ⟨u, rfl, upd_at hu2 (fun e => n2 e.symm)⟩ .nil)
            · exact upd_at (s6 _ _ (s5 _ _ e)) (ne_of_none e hD3)
          · rintro H5 ⟨xs, hD4, hxs, s5⟩
            rw [List.take_length] at hxs
            have lxs := Paired.len hxs
            have sA : Same H H5 := fun c o e => s5 _ _ (s4 _ _ (s13 _ _ (s1 _ _ e)))
            refine r_nil (init_end hD4 hxs (by omega) (fun q hq => Int.le_of_lt (qsOf_pos ok q hq).1) fun x m' H6 hx Lx hg s6 => ?_)
            exact q (qsOf (words z)) x H6 ⟨.inr ⟨nz, ok, rfl⟩⟩ (sA.free hx) ⟨m', Lx.mono sA, cn_tot Lx.lo.nd (qsOf_nodup ok) (fun p hp => (qsOf_pos ok p hp).1) (qsOf_up ok) hg⟩ fun c o e => s6 _ _ (sA _ _ e)
end
end My

namespace My
open PySem L2
local macro_rules | `(tactic| walk_at "bx1") => `(tactic| first | with_reducible assumption | ((with_reducible refine' Bx.upd ?h1 ?h2); (case h1 => walk_at "bx1"); (case h2 => walk_at "ne")) | ((with_reducible refine' Bx.same ?h1 (by with_reducible assumption)); (case h1 => walk_at "bx1")))
local macro_rules | `(tactic| walk_at "bx") => `(tactic| (refine' Bx.mono ?h1 ?h2; (case h1 => walk_at "bx1"); (case h2 => omega)))
local macro_rules | `(tactic| walk_at "ne") => `(tactic| first | with_reducible assumption | exact Ne.symm (by with_reducible assumption) | ((with_reducible refine' ne_of_none ?h1 (by with_reducible assumption)); (case h1 => walk_at "hp")) | ((with_reducible refine' Ne.symm (ne_of_none ?h1 (by with_reducible assumption))); (case h1 => walk_at "hp")) | ((with_reducible refine' Bx.ne ?h1 (by with_reducible assumption)); (case h1 => walk_at "bx1")) | ((with_reducible refine' Ne.symm (Bx.ne ?h1 (by with_reducible assumption))); (case h1 => walk_at "bx1")))
local macro_rules | `(tactic| walk_at "hp") => `(tactic| first | with_reducible assumption | ((with_reducible refine' (upd_same.trans ?h1)); (case h1 => rfl)) | ((with_reducible refine' My.upd_at ?h1 ?h2); (case h1 => walk_at "hp"); (case h2 => walk_at "ne")) | ((with_reducible refine' My.Kp.at (by with_reducible assumption) ?h1 ?h2); (case h1 => walk_at "hp"); (case h2 => walk_at "ne")) | ((with_reducible refine' My.Same.at (by with_reducible assumption) ?h1); (case h1 => walk_at "hp")))
local macro_rules | `(tactic| walk_at "sq") => `(tactic| first | with_reducible assumption | exact SqL.of (by walk_at "hp") | exact SqT.of (by walk_at "hp") | ((with_reducible refine' My.SqT.upd ?h1 (by with_reducible assumption)); (case h1 => walk_at "sq")) | ((with_reducible refine' My.SqL.upd ?h1 (by with_reducible assumption)); (case h1 => walk_at "sq")) | ((with_reducible refine' Same.seq (by with_reducible assumption) ?h1); (case h1 => walk_at "sq")) | ((with_reducible refine' My.SqT.same ?h1 (by with_reducible assumption)); (case h1 => walk_at "sq")) | ((with_reducible refine' My.SqT.kp ?h1 (by with_reducible assumption) ?h2); (case h1 => walk_at "sq"); (case h2 => walk_at "bx1")) | ((with_reducible refine' My.SqL.kp ?h1 (by with_reducible assumption) ?h2); (case h1 => walk_at "sq"); (case h2 => walk_at "ne")))
local macro_rules | `(tactic| walk_at "sd") => `(tactic| first | assumption | omega | decide | (refine ⟨?_, ?_⟩ <;> (first | omega | decide)) | (refine Or.inl ⟨?_, ?_⟩ <;> (first | omega | decide)) | (refine Or.inr ⟨?_, ?_⟩ <;> (first | omega | decide)) | (refine ⟨?_, ?_, ?_⟩ <;> (first | omega | decide)))
local macro_rules | `(tactic| walk_at "ps") => `(tactic| first
  | with_reducible refine r_seq ?_ | with_reducible refine r_asg ?_ | with_reducible refine r_op ?_ | with_reducible refine r_cons ?_ | with_reducible refine r_nil ?_ | with_reducible refine r_c ?_
  | with_reducible refine' r_var rfl ?_ | with_reducible refine r_gname ?_ | with_reducible refine r_cb ?_ | with_reducible refine r_I0 ?_ | with_reducible refine r_ret ?_ | with_reducible refine r_ifS ?_ | with_reducible refine r_test ?_ | with_reducible refine r_B ?_
  | with_reducible refine r_next ?_ | with_reducible refine r_drop ?_ | with_reducible refine r_if ?_ | with_reducible refine r_un ?_ | with_reducible refine r_U ?_ | with_reducible refine r_gsub ?_ | with_reducible refine r_tup ?_ | with_reducible refine r_lst ?_ | with_reducible refine r_bm ?_
  | with_reducible refine r_cal ?_ | with_reducible refine r_not ?_ | with_reducible refine r_and ?_ | with_reducible refine r_or ?_ | with_reducible refine r_andV ?_ | with_reducible refine r_orV ?_ | with_reducible refine r_notV ?_
  | with_reducible refine r_abs ?_ | with_reducible refine r_intI ?_ | with_reducible refine r_intB ?_ | with_reducible refine r_m1 ?_ | with_reducible refine r_slice ?_ | with_reducible refine r_part ?_ | with_reducible refine r_nopart ?_
  | with_reducible refine r_gcons ?_ | with_reducible refine r_gnil ?_
  | with_reducible refine r_par ?_ | with_reducible refine r_par3 ?_ | with_reducible refine r_ex2 ?_ | with_reducible refine r_ex3 ?_
  | with_reducible refine r_isN ?_ | with_reducible refine r_notN ?_
  | with_reducible refine r_iZipA ?_
  | with_reducible refine r_dget ?_ | with_reducible refine r_dget2 ?_ | with_reducible refine r_iKeys ?_ | with_reducible refine r_dput ?_
  | with_reducible refine r_for ?_ | with_reducible refine r_lc ?_ | with_reducible refine r_iList ?_ | with_reducible refine r_iTup ?_ | with_reducible refine r_iRng1 ?_ | with_reducible refine r_iEnum ?_ | with_reducible refine r_orT ?_ | with_reducible refine r_yes ?_ | with_reducible refine r_ixSl ?_)
local macro_rules | `(tactic| walk_at "st") => `(tactic| first
  | walk_at "ps"
  | ((with_reducible refine' r_ixL ?h1 ?h2 ?_); (case h1 => walk_at "sq"); (case h2 => rfl))
  | ((with_reducible refine' r_setL ?h1 ?h2 ?_); (case h1 => walk_at "hp"); (case h2 => rfl))
  | ((with_reducible refine' r_I ?h1 ?_); (case h1 => walk_at "sd"))
  | ((with_reducible refine' r_eq ?h1 ?_); (case h1 => rfl)) | ((with_reducible refine' r_ne ?h1 ?_); (case h1 => rfl))
  | ((with_reducible refine' r_lenL ?h1 ?_); (case h1 => walk_at "sq")) | ((with_reducible refine' r_lenT ?h1 ?_); (case h1 => walk_at "sq")) | ((with_reducible refine' r_lenD ?h1 ?_); (case h1 => walk_at "hp"))
  | ((with_reducible refine' r_slL ?h1 ?_); (case h1 => walk_at "sq"); intro _ _)
  | ((with_reducible refine' r_append ?h1 ?h2 ?_); (case h1 => walk_at "hp"); (case h2 => exact szl (by first | omega | (simp; omega))))
  | ((with_reducible refine' r_gtup ?h1 ?h2 ?_); (case h1 => walk_at "sq"); (case h2 => rfl))
  | ((with_reducible refine' r_cat ?h1 ?h2 ?h3 ?_); (case h1 => walk_at "hp"); (case h2 => walk_at "hp"); (case h3 => exact sz (by first | omega | (simp; omega))); intro _ _)
  | ((with_reducible refine' r_wLst ?h1 ?_); (case h1 => walk_at "sq")) | ((with_reducible refine' r_wTup ?h1 ?_); (case h1 => walk_at "sq"))
  | ((with_reducible refine' r_wRng ?h1 ?_); (case h1 => walk_at "sd"))
  | ((with_reducible refine' r_truL ?h1 ?_); (case h1 => walk_at "sq"))
  | ((with_reducible refine' r_list (Or.inl ?h1) ?_); (case h1 => walk_at "sq"); intro _ _) | ((with_reducible refine' r_list (Or.inr ?h1) ?_); (case h1 => walk_at "sq"); intro _ _)
  | ((with_reducible refine' r_tupL ?h1 ?_); (case h1 => walk_at "sq"); intro _ _) | ((with_reducible refine' r_tupT ?h1 ?_); (case h1 => walk_at "sq"))
  | ((with_reducible refine' r_disp ?h1 ?_); (case h1 => exact Nat.le_of_ble_eq_true rfl); intro _ _)
  | ((with_reducible refine r_dnewK ?_); intro _ _)
  | ((with_reducible refine' r_tyL ?h1 ?_); (case h1 => walk_at "sq")) | with_reducible refine r_strV ?_
  | with_reducible refine r_exb ?_ | with_reducible refine r_exi ?_ | with_reducible refine r_exr ?_ | with_reducible refine r_exs ?_ | with_reducible refine r_exli ?_)
local macro_rules | `(tactic| walk_at "go") => `(tactic| repeat walk_at "st")
local macro_rules | `(tactic| walk_at "in") => `(tactic| dsimp only [noxK, cxK, L2.start, List.map_cons, List.map_nil, List.length_cons, List.length_nil, Nat.reduceAdd, Nat.reduceSub, List.replicate, List.cons_append, List.nil_append])

def tJoin (ts : List TE) : TE := fun σ H Q => tJs ts Str.empty σ H fun out H1 => Q (.str out) H1
theorem pe_joinedK {X : Cx} {v1 v2 : Expr} {rest : List Expr} {ts : List TE} {pos : Pos} (h : PJ X (v1 :: v2 :: rest) ts) : PE X (.JoinedStr (v1 :: v2 :: rest) pos) (tJoin ts) := pe_joined h
theorem r_joined {ts : List TE} {σ : L2.St} {H : Hp} {Q : VK} (h : tJs ts Str.empty σ H fun out H1 => Q (.str out) H1) : tJoin ts σ H Q := h
theorem r_js {t : TE} {ts : List TE} {acc : Str} {σ : L2.St} {H : Hp} {Q : Str → Hp → Prop} (h : t σ H fun x H1 => ∃ y : Str, x = .str y ∧ (acc ++ y).length ≤ sizeLine ∧ tJs ts (acc ++ y) σ H1 Q) : tJs (t :: ts) acc σ H Q := h
theorem r_fmtI {σ : L2.St} {H : Hp} {Q : VK} {i : Nat} {n : Int} (e : σ[i]? = some (some (.int n))) (h : n.natAbs.log2 < 1920) (q : Q (.str (toString n)) H) : tFmt (tVar i) σ H Q := r_var e (.inr ⟨n, rfl, h, q⟩)
theorem r_fmtT {σ : L2.St} {H : Hp} {Q : VK} {i : Nat} {z : Str} (e : σ[i]? = some (some (.str z))) (h : z.length ≤ sizeLine) (q : Q (.str z) H) : tFmt (tVar i) σ H Q := r_var e (.inl ⟨z, rfl, h, q⟩)
/-- one word of a Lot's text -/
def wd (p : Str × Int) : Str := ((Str.empty ++ (toString p.2 : String)) ++ " ") ++ p.1
def txt (qs : AL) : Str := Txt.join (Str.ofString " ") (qs.map wd)
theorem num_len {n : Int} (h : n.natAbs < 2 ^ 1000) : n.natAbs.log2 < 1000 := by
  by_cases z : n.natAbs = 0
  · rw [z]; decide
  · exact (Nat.log2_lt z).mpr h
theorem num_len2 {n : Int} (h : n.natAbs < 2 ^ 1000) : ((toString n : String) : Str).length ≤ 1001 := by
  show (Str.ofString (toString n)).length ≤ 1001
  have e := int_text_length_le (k := 1000) (by decide) (num_len h)
  rw [ofString_length]
  exact e
theorem wd_len {p : Str × Int} (h : p.2.natAbs < 2 ^ 1000) (hk : KindS p.1) : (wd p).length ≤ 1010 := by
  unfold wd
  rw [Str.length_append, Str.length_append, Str.length_append]
  have h1 := num_len2 h
  have h2 := hk.2.1
  rw [← len_cds] at h2
  have h3 : Str.empty.length = 0 := rfl
  have h4 : (Str.ofString " ").length = 1 := by decide +kernel
  omega
theorem sum_bound {B : Nat} : ∀ (ys : List Str), (∀ s ∈ ys, s.length ≤ B) → (ys.map (·.length)).sum ≤ ys.length * B
  | [], _ => Nat.zero_le _
  | y :: r, h => by
    rw [List.map_cons, List.sum_cons, List.length_cons, Nat.succ_mul]
    have h1 := sum_bound r fun s hs => h s (List.mem_cons_of_mem _ hs)
    have h2 := h y List.mem_cons_self
    omega
theorem txt_len {qs : AL} (h : ∀ p ∈ qs, p.2.natAbs < 2 ^ 1000) (hk : ∀ p ∈ qs, KindS p.1) (l : qs.length ≤ 30) : (txt qs).length ≤ 40000 := by
  unfold txt
  rw [TL.join_eq]
  have h1 := StrLaws.join_length_le (Str.ofString " ") (qs.map wd)
  have h2 := sum_bound (B := 1010) (qs.map wd) fun s hs => by
    obtain ⟨p, hp, rfl⟩ := List.mem_map.mp hs
    exact wd_len (h p hp) (hk p hp)
  have h4 : (Str.ofString " ").length = 1 := by decide +kernel
  rw [List.length_map] at h1 h2
  rw [h4] at h1
  omega
theorem lq_of {m qs : AL} (cn : Cn m qs) : qs.length ≤ m.length := by
  rw [cn.1.length_eq]
  exact List.length_filter_le _ _
theorem wd_lw (p : Str × Int) : wd p = lw p := by
  refine cds_inj ?_
  unfold wd lw
  rw [cds_app, cds_app, cds_app, cds_app, cds_app]
  rfl
theorem txt_ltx (qs : AL) : txt qs = ltx qs := by
  unfold txt ltx
  rw [List.map_congr_left fun p _ => wd_lw p]
  rfl
def ttx (qs : AL) : Str := if qs = [] then dash else ltx qs
section
variable {P : Program} {w : World} {K : PySem.W.Frag} {mg : Str → Option Value} {base : Heap} {C CB CS CO : Addr}
abbrev sLotText : Stmt := inClass (top 14) 22
theorem scLotText : FnScope ["self", "kind", "many"] ["self"] (defScope sLotText) := ⟨rfl, rfl, rfl, by decide +kernel, rfl, by decide +kernel, by decide +kernel⟩
def spLotText (C : Addr) : Sp := fun vs H Q _ => ∃ (x : Addr) (m : AL), vs = [.ref x] ∧ LoA C H x m ∧ (∀ p ∈ m, p.2.natAbs < 2 ^ 1000) ∧ (∀ p ∈ m, KindS p.1) ∧ ∀ (qs : AL) (H' : Hp), Cn m qs → Same H H' → Q (.str (ttx qs)) H'
theorem ok_lotText {f : Addr} {fd : FuncData} (F : Fun K "text" "Lot.text" sLotText f fd) (T : Txt K mg) (L : TxL K C) (Op : OCal P w K mg base CX0 2 C "pairs" ["self"] (spLotPairs C)) (Ol : OCal P w K mg base CX0 1 C "__len__" ["self"] (spLotLen C)) : FnOk P w K mg base CX0 3 f fd ["self"] (spLotText C) := by
  refine F.ok scLotText (fun vs H Q E h => ?_) (fun cdv A outer s H vs Q E hr h => ?_)
  · obtain ⟨x, m, rfl, _⟩ := h
    rfl
  · obtain ⟨x, m, rfl, Lx, nb, nk, q⟩ := h
    obtain ⟨⟨d, dx, h1, h2⟩, nd, mp, ml⟩ := id Lx
    refine ⟨_, (pss_cons (ps_if (pt_cmpR op_eq (pe_callB (c_lenO Ol (hr.mono (by decide)) pass0) (by rfl) T.len (by decide +kernel) (pa_cons (pv 0) pa_nil)) pe_int (nomark _))
  (pss_one (ps_ret pe_str))
  pss_nil)
  (pss_one (ps_ret (pe_joinR pe_str (pe_lc (own := [("kind", 1), ("many", 2)]) (g := gTup _ 2 (gCons (gName 1) (gCons (gName 2) gNil))) (tt := tYes) rfl scLotText.nd (pi_tup (pe_methO0 Op L.oc.cl (hr.mono (by decide)) pass0 (pv 0))) (blkOk_by (N := ["self", "kind", "many"]) (sc := defScope sLotText) (by decide +kernel)) (fun _ _ _ _ _ => (pg_tup rfl (pgs_cons (pg_name (i := 1) scLotText.nd rfl (Or.inl rfl)) (pgs_cons (pg_name (i := 2) scLotText.nd rfl (Or.inl rfl)) pgs_nil)))) (fun _ _ _ _ _ => pts_nil) (fun _ _ _ _ _ => (pe_joinedK (.cons (pe_fmt (pv 2)) (.cons pe_str (.cons (pe_fmt (pv 1)) .nil)))))))))), ?_⟩
    walk_at "in"
    walk_at "go"
    refine ⟨x, dx, _, rfl, h1, x, m, rfl, Lx, _, rfl, ⟨by omega, by omega⟩, ?_⟩
    walk_at "go"
    by_cases ne : m = []
    case pos =>
      subst ne
      refine ite_dT rfl ?_
      walk_at "go"
      exact q [] H ⟨.nil, .nil⟩ fun _ _ e => e
    have l0 : m.length ≠ 0 := fun z => ne (List.eq_nil_of_length_eq_zero z)
    refine ite_dF (fun z => by injection z with z; omega) ?_
    walk_at "go"
    refine r_meth0 ?_
    walk_at "go"
    refine ⟨x, dx, _, rfl, h1, look1, x, m, rfl, Lx, fun p ts qs H1 _ hp tp cn s1 => ?_⟩
    have lq := lq_of cn
    have lt := Paired.len tp
    have qb : ∀ p ∈ qs, p.2.natAbs < 2 ^ 1000 := fun p hp => nb p ((cn.mem mp p).mp hp)
    have qk : ∀ p ∈ qs, KindS p.1 := fun p hp => nk p ((cn.mem mp p).mp hp)
    walk_at "go"
    intro D hD
    refine lc_it (walk_tup (xs := ts)) (fun i H' => H' D = some (.lst (((qs.take i).map wd).map V.str)) ∧ Same H1 H') ?_ ?_ ?_ ?_
    · exact ⟨upd_same, fun c o e => upd_at e (ne_of_none e hD)⟩
    · rintro i H' _ ⟨_, s2⟩
      exact SqT.of (s2 _ _ hp)
    · rintro i x' _ H2 hi ⟨hD2, s2⟩ ⟨rfl, hx⟩
      obtain ⟨r, hr1, t, rfl, ht⟩ := Paired.at tp hx
      have ht2 := s2 _ _ ht
      have hrm := List.mem_of_getElem? hr1
      have k8 := (qk r hrm).2.1
      rw [← len_cds] at k8
      have nl := num_len2 (qb r hrm)
      have n4 : (Str.ofString " ").length = 1 := by decide +kernel
      have n5 : Str.empty.length = 0 := rfl
      have hsl := PySem.sizeLine_eq
      walk_at "go"
      refine ⟨rfl, ?_⟩
      walk_at "go"
      refine iteT (r_joined ?_)
      refine r_js (r_fmtI rfl (by have := num_len (qb r hrm); omega) ⟨_, rfl, by rw [Str.length_append]; omega, ?_⟩)
      refine r_js (r_c ⟨_, rfl, by rw [Str.length_append, Str.length_append]; omega, ?_⟩)
      refine r_js (r_fmtT rfl (by omega) ⟨_, rfl, by rw [Str.length_append, Str.length_append, Str.length_append]; omega, ?_⟩)
      refine ⟨_, hD2, szl (by rw [List.length_map, List.length_map, List.length_take]; omega), ?_, fun c o e => upd_at (s2 _ _ e) (ne_of_none e hD)⟩
      rw [List.take_add_one, hr1, List.map_append, List.map_append]
      exact upd_same
    rintro H2 ⟨hD2, s2⟩
    rw [Paired.len tp, List.take_length] at hD2
    refine r_join (ys := qs.map wd) (SqL.of hD2) ?_ ?_
    · have h2 := sum_bound (B := 1010) (qs.map wd) fun s hs => by
        obtain ⟨p, hp, rfl⟩ := List.mem_map.mp hs
        exact wd_len (qb p hp) (qk p hp)
      have h4 : (Str.ofString " ").length = 1 := by decide +kernel
      rw [List.length_map] at h2 ⊢
      rw [h4]
      omega
    have e : ttx qs = txt qs := by
        unfold ttx
        rw [if_neg fun z => l0 (by rw [← cn.len mp, z]; rfl), txt_ltx]
    have := q qs H2 cn fun c o e => s2 _ _ (s1 _ _ e)
    rw [e] at this
    exact this
end
end My

namespace My
open PySem L2
local macro_rules | `(tactic| walk_at "bx1") => `(tactic| first | with_reducible assumption | ((with_reducible refine' Bx.upd ?h1 ?h2); (case h1 => walk_at "bx1"); (case h2 => walk_at "ne")) | ((with_reducible refine' Bx.same ?h1 (by with_reducible assumption)); (case h1 => walk_at "bx1")))
local macro_rules | `(tactic| walk_at "bx") => `(tactic| (refine' Bx.mono ?h1 ?h2; (case h1 => walk_at "bx1"); (case h2 => omega)))
local macro_rules | `(tactic| walk_at "ne") => `(tactic| first | with_reducible assumption | exact Ne.symm (by with_reducible assumption) | ((with_reducible refine' ne_of_none ?h1 (by with_reducible assumption)); (case h1 => walk_at "hp")) | ((with_reducible refine' Ne.symm (ne_of_none ?h1 (by with_reducible assumption))); (case h1 => walk_at "hp")) | ((with_reducible refine' Bx.ne ?h1 (by with_reducible assumption)); (case h1 => walk_at "bx1")) | ((with_reducible refine' Ne.symm (Bx.ne ?h1 (by with_reducible assumption))); (case h1 => walk_at "bx1")))
local macro_rules | `(tactic| walk_at "hp") => `(tactic| first | with_reducible assumption | ((with_reducible refine' (upd_same.trans ?h1)); (case h1 => rfl)) | ((with_reducible refine' My.upd_at ?h1 ?h2); (case h1 => walk_at "hp"); (case h2 => walk_at "ne")) | ((with_reducible refine' My.Kp.at (by with_reducible assumption) ?h1 ?h2); (case h1 => walk_at "hp"); (case h2 => walk_at "ne")) | ((with_reducible refine' My.Same.at (by with_reducible assumption) ?h1); (case h1 => walk_at "hp")))
local macro_rules | `(tactic| walk_at "sq") => `(tactic| first | with_reducible assumption | exact SqL.of (by walk_at "hp") | exact SqT.of (by walk_at "hp") | ((with_reducible refine' My.SqT.upd ?h1 (by with_reducible assumption)); (case h1 => walk_at "sq")) | ((with_reducible refine' My.SqL.upd ?h1 (by with_reducible assumption)); (case h1 => walk_at "sq")) | ((with_reducible refine' Same.seq (by with_reducible assumption) ?h1); (case h1 => walk_at "sq")) | ((with_reducible refine' My.SqT.same ?h1 (by with_reducible assumption)); (case h1 => walk_at "sq")) | ((with_reducible refine' My.SqT.kp ?h1 (by with_reducible assumption) ?h2); (case h1 => walk_at "sq"); (case h2 => walk_at "bx1")) | ((with_reducible refine' My.SqL.kp ?h1 (by with_reducible assumption) ?h2); (case h1 => walk_at "sq"); (case h2 => walk_at "ne")))
local macro_rules | `(tactic| walk_at "sd") => `(tactic| first | assumption | omega | decide | (refine ⟨?_, ?_⟩ <;> (first | omega | decide)) | (refine Or.inl ⟨?_, ?_⟩ <;> (first | omega | decide)) | (refine Or.inr ⟨?_, ?_⟩ <;> (first | omega | decide)) | (refine ⟨?_, ?_, ?_⟩ <;> (first | omega | decide)))
local macro_rules | `(tactic| walk_at "ps") => `(tactic| first
  | with_reducible refine r_seq ?_ | with_reducible refine r_asg ?_ | with_reducible refine r_op ?_ | with_reducible refine r_cons ?_ | with_reducible refine r_nil ?_ | with_reducible refine r_c ?_
  | with_reducible refine' r_var rfl ?_ | with_reducible refine r_gname ?_ | with_reducible refine r_cb ?_ | with_reducible refine r_I0 ?_ | with_reducible refine r_ret ?_ | with_reducible refine r_ifS ?_ | with_reducible refine r_test ?_ | with_reducible refine r_B ?_
  | with_reducible refine r_next ?_ | with_reducible refine r_drop ?_ | with_reducible refine r_if ?_ | with_reducible refine r_un ?_ | with_reducible refine r_U ?_ | with_reducible refine r_gsub ?_ | with_reducible refine r_tup ?_ | with_reducible refine r_lst ?_ | with_reducible refine r_bm ?_
  | with_reducible refine r_cal ?_ | with_reducible refine r_not ?_ | with_reducible refine r_and ?_ | with_reducible refine r_or ?_ | with_reducible refine r_andV ?_ | with_reducible refine r_orV ?_ | with_reducible refine r_notV ?_
  | with_reducible refine r_abs ?_ | with_reducible refine r_intI ?_ | with_reducible refine r_intB ?_ | with_reducible refine r_m1 ?_ | with_reducible refine r_slice ?_ | with_reducible refine r_part ?_ | with_reducible refine r_nopart ?_
  | with_reducible refine r_gcons ?_ | with_reducible refine r_gnil ?_
  | with_reducible refine r_par ?_ | with_reducible refine r_par3 ?_ | with_reducible refine r_ex2 ?_ | with_reducible refine r_ex3 ?_
  | with_reducible refine r_isN ?_ | with_reducible refine r_notN ?_
  | with_reducible refine r_iZipA ?_
  | with_reducible refine r_dget ?_ | with_reducible refine r_dget2 ?_ | with_reducible refine r_iKeys ?_ | with_reducible refine r_dput ?_
  | with_reducible refine r_for ?_ | with_reducible refine r_lc ?_ | with_reducible refine r_iList ?_ | with_reducible refine r_iTup ?_ | with_reducible refine r_iRng1 ?_ | with_reducible refine r_iEnum ?_ | with_reducible refine r_orT ?_ | with_reducible refine r_yes ?_ | with_reducible refine r_ixSl ?_)
local macro_rules | `(tactic| walk_at "st") => `(tactic| first
  | walk_at "ps"
  | ((with_reducible refine' r_ixL ?h1 ?h2 ?_); (case h1 => walk_at "sq"); (case h2 => rfl))
  | ((with_reducible refine' r_setL ?h1 ?h2 ?_); (case h1 => walk_at "hp"); (case h2 => rfl))
  | ((with_reducible refine' r_I ?h1 ?_); (case h1 => walk_at "sd"))
  | ((with_reducible refine' r_eq ?h1 ?_); (case h1 => rfl)) | ((with_reducible refine' r_ne ?h1 ?_); (case h1 => rfl))
  | ((with_reducible refine' r_lenL ?h1 ?_); (case h1 => walk_at "sq")) | ((with_reducible refine' r_lenT ?h1 ?_); (case h1 => walk_at "sq")) | ((with_reducible refine' r_lenD ?h1 ?_); (case h1 => walk_at "hp"))
  | ((with_reducible refine' r_slL ?h1 ?_); (case h1 => walk_at "sq"); intro _ _)
  | ((with_reducible refine' r_append ?h1 ?h2 ?_); (case h1 => walk_at "hp"); (case h2 => exact szl (by first | omega | (simp; omega))))
  | ((with_reducible refine' r_gtup ?h1 ?h2 ?_); (case h1 => walk_at "sq"); (case h2 => rfl))
  | ((with_reducible refine' r_cat ?h1 ?h2 ?h3 ?_); (case h1 => walk_at "hp"); (case h2 => walk_at "hp"); (case h3 => exact sz (by first | omega | (simp; omega))); intro _ _)
  | ((with_reducible refine' r_wLst ?h1 ?_); (case h1 => walk_at "sq")) | ((with_reducible refine' r_wTup ?h1 ?_); (case h1 => walk_at "sq"))
  | ((with_reducible refine' r_wRng ?h1 ?_); (case h1 => walk_at "sd"))
  | ((with_reducible refine' r_truL ?h1 ?_); (case h1 => walk_at "sq"))
  | ((with_reducible refine' r_list (Or.inl ?h1) ?_); (case h1 => walk_at "sq"); intro _ _) | ((with_reducible refine' r_list (Or.inr ?h1) ?_); (case h1 => walk_at "sq"); intro _ _)
  | ((with_reducible refine' r_tupL ?h1 ?_); (case h1 => walk_at "sq"); intro _ _) | ((with_reducible refine' r_tupT ?h1 ?_); (case h1 => walk_at "sq"))
  | ((with_reducible refine' r_disp ?h1 ?_); (case h1 => exact Nat.le_of_ble_eq_true rfl); intro _ _)
  | ((with_reducible refine r_dnewK ?_); intro _ _)
  | ((with_reducible refine' r_tyL ?h1 ?_); (case h1 => walk_at "sq")) | with_reducible refine r_strV ?_
  | with_reducible refine r_exb ?_ | with_reducible refine r_exi ?_ | with_reducible refine r_exr ?_ | with_reducible refine r_exs ?_ | with_reducible refine r_exli ?_)
local macro_rules | `(tactic| walk_at "go") => `(tactic| repeat walk_at "st")
local macro_rules | `(tactic| walk_at "in") => `(tactic| dsimp only [noxK, cxK, L2.start, List.map_cons, List.map_nil, List.length_cons, List.length_nil, Nat.reduceAdd, Nat.reduceSub, List.replicate, List.cons_append, List.nil_append])

section
variable {P : Program} {w : World} {K : PySem.W.Frag} {mg : Str → Option Value} {base : Heap} {C CB CS CO : Addr}
abbrev sText : Stmt := top 26
theorem scText : FnScope ["_law_pairs_so", "_law_own", "_law_far"] ["_law_pairs_so"] (defScope sText) := ⟨rfl, rfl, rfl, by decide +kernel, rfl, by decide +kernel, by decide +kernel⟩
def spLText (K : PySem.W.Frag) : Sp := fun vs H Q _ => ∃ (l : Addr) (xs : List V) (qs : AL), vs = [.ref l] ∧ SqT K H l xs ∧ Paired (PrA H) xs qs ∧ qs.length ≤ 30 ∧ (∀ p ∈ qs, p.2.natAbs < 2 ^ 1000) ∧ (∀ p ∈ qs, KindS p.1) ∧ ∀ H', Same H H' → Q (.str (ttx qs)) H'
theorem ok_ltext {f : Addr} {fd : FuncData} (F : Fun K "_law_text" "_law_text" sText f fd) (T : Txt K mg) : FnOk P w K mg base CX0 1 f fd ["_law_pairs_so"] (spLText K) := by
  refine F.ok scText (fun vs H Q E h => ?_) (fun cdv A outer s H vs Q E hr h => ?_)
  · obtain ⟨l, xs, qs, rfl, _⟩ := h
    rfl
  · obtain ⟨l, xs, qs, rfl, hx, hp, hl, nb, nk, q⟩ := h
    refine ⟨_, (pss_one (ps_ret (pe_ifExp (pt_cmpR op_gt (pe_callB c_lenT (by rfl) T.len (by decide +kernel) (pa_cons (pv 0) pa_nil)) pe_int (nomark _)) (pe_joinR pe_str (pe_lc (own := [("_law_own", 1), ("_law_far", 2)]) (g := gTup _ 2 (gCons (gName 1) (gCons (gName 2) gNil))) (tt := tYes) rfl scText.nd (pi_tup (pv 0)) (blkOk_by (N := ["_law_pairs_so", "_law_own", "_law_far"]) (sc := defScope sText) (by decide +kernel)) (fun _ _ _ _ _ => (pg_tup rfl (pgs_cons (pg_name (i := 1) scText.nd rfl (Or.inl rfl)) (pgs_cons (pg_name (i := 2) scText.nd rfl (Or.inl rfl)) pgs_nil)))) (fun _ _ _ _ _ => pts_nil) (fun _ _ _ _ _ => (pe_op o_catS (pe_op o_catS (pe_callTy call_str_int (by rfl) T.str (by decide +kernel) (pa_cons (pv 2) pa_nil)) pe_str) (pv 1))))) pe_str))), ?_⟩
    walk_at "in"
    walk_at "go"
    have lx := Paired.len hp
    have hsl := PySem.sizeLine_eq
    by_cases ne : qs = []
    case pos =>
      subst ne
      refine ite_dF (by rw [lx]; exact Int.lt_irrefl 0) ?_
      walk_at "go"
      exact q H fun _ _ e => e
    have l0 : qs.length ≠ 0 := fun z => ne (List.eq_nil_of_length_eq_zero z)
    refine ite_dT (by rw [lx]; omega) ?_
    walk_at "go"
    intro D hD
    refine lc_it (walk_tup (xs := xs)) (fun i H' => H' D = some (.lst (((qs.take i).map lw).map V.str)) ∧ Same H H') ?_ ?_ ?_ ?_
    · exact ⟨upd_same, fun c o e => upd_at e (ne_of_none e hD)⟩
    · rintro i H' _ ⟨_, s2⟩
      exact My.SqT.same hx s2
    · rintro i x' _ H2 hi ⟨hD2, s2⟩ ⟨rfl, hx'⟩
      obtain ⟨r, hr1, t, rfl, ht⟩ := Paired.at hp hx'
      have ht2 := s2 _ _ ht
      have hrm := List.mem_of_getElem? hr1
      have k8 := (nk r hrm).2.1
      rw [← len_cds] at k8
      have nl := num_len2 (nb r hrm)
      have n4 : (Str.ofString " ").length = 1 := by decide +kernel
      walk_at "go"
      refine ⟨rfl, ?_⟩
      walk_at "go"
      refine iteT ?_
      walk_at "go"
      refine ⟨by have := num_len (nb r hrm); omega, ?_⟩
      walk_at "go"
      refine r_catS (by omega) ?_
      walk_at "go"
      refine r_catS (by rw [Str.length_append]; omega) ?_
      refine ⟨_, hD2, szl (by rw [List.length_map, List.length_map, List.length_take]; omega), ?_, fun c o e => upd_at (s2 _ _ e) (ne_of_none e hD)⟩
      rw [List.take_add_one, hr1, List.map_append, List.map_append]
      exact upd_same
    rintro H2 ⟨hD2, s2⟩
    rw [lx, List.take_length] at hD2
    refine r_join (ys := qs.map lw) (SqL.of hD2) ?_ ?_
    · rw [← List.map_congr_left fun p _ => wd_lw p]
      have h2 := sum_bound (B := 1010) (qs.map wd) fun s hs => by
        obtain ⟨p, hp, rfl⟩ := List.mem_map.mp hs
        exact wd_len (nb p hp) (nk p hp)
      have h4 : (Str.ofString " ").length = 1 := by decide +kernel
      rw [List.length_map] at h2 ⊢
      rw [h4]
      omega
    · have := q H2 s2
      unfold ttx at this
      rw [if_neg ne] at this
      exact this
end
end My

namespace My
open PySem L2
local macro_rules | `(tactic| walk_at "bx1") => `(tactic| first | with_reducible assumption | ((with_reducible refine' Bx.upd ?h1 ?h2); (case h1 => walk_at "bx1"); (case h2 => walk_at "ne")) | ((with_reducible refine' Bx.same ?h1 (by with_reducible assumption)); (case h1 => walk_at "bx1")))
local macro_rules | `(tactic| walk_at "bx") => `(tactic| (refine' Bx.mono ?h1 ?h2; (case h1 => walk_at "bx1"); (case h2 => omega)))
local macro_rules | `(tactic| walk_at "ne") => `(tactic| first | with_reducible assumption | exact Ne.symm (by with_reducible assumption) | ((with_reducible refine' ne_of_none ?h1 (by with_reducible assumption)); (case h1 => walk_at "hp")) | ((with_reducible refine' Ne.symm (ne_of_none ?h1 (by with_reducible assumption))); (case h1 => walk_at "hp")) | ((with_reducible refine' Bx.ne ?h1 (by with_reducible assumption)); (case h1 => walk_at "bx1")) | ((with_reducible refine' Ne.symm (Bx.ne ?h1 (by with_reducible assumption))); (case h1 => walk_at "bx1")))
local macro_rules | `(tactic| walk_at "hp") => `(tactic| first | with_reducible assumption | ((with_reducible refine' (upd_same.trans ?h1)); (case h1 => rfl)) | ((with_reducible refine' My.upd_at ?h1 ?h2); (case h1 => walk_at "hp"); (case h2 => walk_at "ne")) | ((with_reducible refine' My.Kp.at (by with_reducible assumption) ?h1 ?h2); (case h1 => walk_at "hp"); (case h2 => walk_at "ne")) | ((with_reducible refine' My.Same.at (by with_reducible assumption) ?h1); (case h1 => walk_at "hp")))
local macro_rules | `(tactic| walk_at "sq") => `(tactic| first | with_reducible assumption | exact SqL.of (by walk_at "hp") | exact SqT.of (by walk_at "hp") | ((with_reducible refine' My.SqT.upd ?h1 (by with_reducible assumption)); (case h1 => walk_at "sq")) | ((with_reducible refine' My.SqL.upd ?h1 (by with_reducible assumption)); (case h1 => walk_at "sq")) | ((with_reducible refine' Same.seq (by with_reducible assumption) ?h1); (case h1 => walk_at "sq")) | ((with_reducible refine' My.SqT.same ?h1 (by with_reducible assumption)); (case h1 => walk_at "sq")) | ((with_reducible refine' My.SqT.kp ?h1 (by with_reducible assumption) ?h2); (case h1 => walk_at "sq"); (case h2 => walk_at "bx1")) | ((with_reducible refine' My.SqL.kp ?h1 (by with_reducible assumption) ?h2); (case h1 => walk_at "sq"); (case h2 => walk_at "ne")))
local macro_rules | `(tactic| walk_at "sd") => `(tactic| first | assumption | omega | decide | (refine ⟨?_, ?_⟩ <;> (first | omega | decide)) | (refine Or.inl ⟨?_, ?_⟩ <;> (first | omega | decide)) | (refine Or.inr ⟨?_, ?_⟩ <;> (first | omega | decide)) | (refine ⟨?_, ?_, ?_⟩ <;> (first | omega | decide)))
local macro_rules | `(tactic| walk_at "ps") => `(tactic| first
  | with_reducible refine r_seq ?_ | with_reducible refine r_asg ?_ | with_reducible refine r_op ?_ | with_reducible refine r_cons ?_ | with_reducible refine r_nil ?_ | with_reducible refine r_c ?_
  | with_reducible refine' r_var rfl ?_ | with_reducible refine r_gname ?_ | with_reducible refine r_cb ?_ | with_reducible refine r_I0 ?_ | with_reducible refine r_ret ?_ | with_reducible refine r_ifS ?_ | with_reducible refine r_test ?_ | with_reducible refine r_B ?_
  | with_reducible refine r_next ?_ | with_reducible refine r_drop ?_ | with_reducible refine r_if ?_ | with_reducible refine r_un ?_ | with_reducible refine r_U ?_ | with_reducible refine r_gsub ?_ | with_reducible refine r_tup ?_ | with_reducible refine r_lst ?_ | with_reducible refine r_bm ?_
  | with_reducible refine r_cal ?_ | with_reducible refine r_not ?_ | with_reducible refine r_and ?_ | with_reducible refine r_or ?_ | with_reducible refine r_andV ?_ | with_reducible refine r_orV ?_ | with_reducible refine r_notV ?_
  | with_reducible refine r_abs ?_ | with_reducible refine r_intI ?_ | with_reducible refine r_intB ?_ | with_reducible refine r_m1 ?_ | with_reducible refine r_slice ?_ | with_reducible refine r_part ?_ | with_reducible refine r_nopart ?_
  | with_reducible refine r_gcons ?_ | with_reducible refine r_gnil ?_
  | with_reducible refine r_par ?_ | with_reducible refine r_par3 ?_ | with_reducible refine r_ex2 ?_ | with_reducible refine r_ex3 ?_
  | with_reducible refine r_isN ?_ | with_reducible refine r_notN ?_
  | with_reducible refine r_iZipA ?_
  | with_reducible refine r_dget ?_ | with_reducible refine r_dget2 ?_ | with_reducible refine r_iKeys ?_ | with_reducible refine r_dput ?_
  | with_reducible refine r_for ?_ | with_reducible refine r_lc ?_ | with_reducible refine r_iList ?_ | with_reducible refine r_iTup ?_ | with_reducible refine r_iRng1 ?_ | with_reducible refine r_iEnum ?_ | with_reducible refine r_orT ?_ | with_reducible refine r_yes ?_ | with_reducible refine r_ixSl ?_)
local macro_rules | `(tactic| walk_at "st") => `(tactic| first
  | walk_at "ps"
  | ((with_reducible refine' r_ixL ?h1 ?h2 ?_); (case h1 => walk_at "sq"); (case h2 => rfl))
  | ((with_reducible refine' r_setL ?h1 ?h2 ?_); (case h1 => walk_at "hp"); (case h2 => rfl))
  | ((with_reducible refine' r_I ?h1 ?_); (case h1 => walk_at "sd"))
  | ((with_reducible refine' r_eq ?h1 ?_); (case h1 => rfl)) | ((with_reducible refine' r_ne ?h1 ?_); (case h1 => rfl))
  | ((with_reducible refine' r_lenL ?h1 ?_); (case h1 => walk_at "sq")) | ((with_reducible refine' r_lenT ?h1 ?_); (case h1 => walk_at "sq")) | ((with_reducible refine' r_lenD ?h1 ?_); (case h1 => walk_at "hp"))
  | ((with_reducible refine' r_slL ?h1 ?_); (case h1 => walk_at "sq"); intro _ _)
  | ((with_reducible refine' r_append ?h1 ?h2 ?_); (case h1 => walk_at "hp"); (case h2 => exact szl (by first | omega | (simp; omega))))
  | ((with_reducible refine' r_gtup ?h1 ?h2 ?_); (case h1 => walk_at "sq"); (case h2 => rfl))
  | ((with_reducible refine' r_cat ?h1 ?h2 ?h3 ?_); (case h1 => walk_at "hp"); (case h2 => walk_at "hp"); (case h3 => exact sz (by first | omega | (simp; omega))); intro _ _)
  | ((with_reducible refine' r_wLst ?h1 ?_); (case h1 => walk_at "sq")) | ((with_reducible refine' r_wTup ?h1 ?_); (case h1 => walk_at "sq"))
  | ((with_reducible refine' r_wRng ?h1 ?_); (case h1 => walk_at "sd"))
  | ((with_reducible refine' r_truL ?h1 ?_); (case h1 => walk_at "sq"))
  | ((with_reducible refine' r_list (Or.inl ?h1) ?_); (case h1 => walk_at "sq"); intro _ _) | ((with_reducible refine' r_list (Or.inr ?h1) ?_); (case h1 => walk_at "sq"); intro _ _)
  | ((with_reducible refine' r_tupL ?h1 ?_); (case h1 => walk_at "sq"); intro _ _) | ((with_reducible refine' r_tupT ?h1 ?_); (case h1 => walk_at "sq"))
  | ((with_reducible refine' r_disp ?h1 ?_); (case h1 => exact Nat.le_of_ble_eq_true rfl); intro _ _)
  | ((with_reducible refine r_dnewK ?_); intro _ _)
  | ((with_reducible refine' r_tyL ?h1 ?_); (case h1 => walk_at "sq")) | with_reducible refine r_strV ?_
  | with_reducible refine r_exb ?_ | with_reducible refine r_exi ?_ | with_reducible refine r_exr ?_ | with_reducible refine r_exs ?_ | with_reducible refine r_exli ?_)
local macro_rules | `(tactic| walk_at "go") => `(tactic| repeat walk_at "st")
local macro_rules | `(tactic| walk_at "in") => `(tactic| dsimp only [noxK, cxK, L2.start, List.map_cons, List.map_nil, List.length_cons, List.length_nil, Nat.reduceAdd, Nat.reduceSub, List.replicate, List.cons_append, List.nil_append])

section
variable {P : Program} {w : World} {K : PySem.W.Frag} {mg : Str → Option Value} {base : Heap} {C CB CS CO : Addr}
abbrev sRead : Stmt := top 28
theorem scRead : FnScope ["_law_line_so", "_law_k", "_law_words", "_law_done", "_law_own", "_law_sign"] ["_law_line_so"] (defScope sRead) := ⟨rfl, rfl, rfl, by decide +kernel, rfl, by decide +kernel, by decide +kernel⟩
def spLRead : Sp := fun vs H Q _ => ∃ z : Str, vs = [.str z] ∧ Fit z ∧ (∀ qs (p : Addr) (xs : List V) (H' : Hp), Reads z qs → H p = none → H' p = some (.tup xs) → Paired (PrA H') xs qs → Same H H' → Q (.ref p) H') ∧ (∀ H', Bad z → Same H H' → Q .non H')
def pl (qs : AL) : PyData := .list (qs.map pd1)
theorem shaped_pl {qs : AL} (h : ∀ p ∈ qs, KindS p.1) : SeqAt.shaped (pl qs) = true := shaped_pd h
theorem eqv_pl (qs : AL) : (pl qs).eqv (.list []) = qs.isEmpty := by
  cases qs with
  | nil => rfl
  | cons p r => rfl
theorem r_iRng3 {ta : TA} {σ : L2.St} {H : Hp} {R : It → Hp → Prop} (h : ta σ H fun vs H1 => ∃ (i j c : Int) (n : Nat), vs = [.int i, .int j, .int c] ∧ RgC i j c n ∧ R (Itc i c n) H1) : iRng3 ta σ H R := h
theorem rg2 : ∀ L : Nat, L < 60 → RgC 0 (L : Int) 2 ((L + 1) / 2) := by
  unfold RgC
  decide +kernel
theorem asc_snoc {ks : List Str} {k : Str} (h : ks.Pairwise fun a b => cds a < cds b) (hl : ∀ j, ks[ks.length - 1]? = some j → cds j < cds k) : (ks ++ [k]).Pairwise fun a b => cds a < cds b := by
  refine List.pairwise_append.mpr ⟨h, List.pairwise_singleton _ _, fun a ha b hb => ?_⟩
  rw [List.mem_singleton.mp hb]
  obtain ⟨i, hi, e⟩ := List.mem_iff_getElem.mp ha
  have hlt : ks.length - 1 < ks.length := by omega
  have h1 := hl _ (List.getElem?_eq_getElem hlt)
  by_cases c : i = ks.length - 1
  · subst c
    rw [← e]
    exact h1
  · have h2 := (List.pairwise_iff_getElem.mp h) i (ks.length - 1) hi hlt (by omega)
    rw [← e]
    exact List.lt_trans h2 h1
theorem ok_lread {f : Addr} {fd : FuncData} (F : Fun K "_law_read" "_law_read" sRead f fd) (T : Txt K mg) (Cf : Cal P w K mg base CX0 1 "_law_figures" ["_law_word"] spFigures) : FnOk P w K mg base CX0 2 f fd ["_law_line_so"] spLRead := by
  refine F.ok scRead (fun vs H Q E h => ?_) (fun cdv A outer s H vs Q E hr h => ?_)
  · obtain ⟨z, rfl, _⟩ := h
    rfl
  · obtain ⟨z, rfl, ft, q, qn⟩ := h
    have hsl := PySem.sizeLine_eq
    refine ⟨_, (pss_cons (ps_if (pt_cmpR op_eq (pv 0) pe_str (nomark _))
  (pss_one (ps_ret (pe_tup pa_nil)))
  pss_nil)
  (pss_cons (ps_par (i := 2) (j := 3) rfl scRead.nd rfl rfl (by decide) rfl rfl (pa_cons (pe_split (pv 0) pe_str) (pa_cons (pe_lst pa_nil) pa_nil)) (by rfl))
  (pss_cons (ps_if (pt_cmpR op_ne (pe_callB c_lenL (by rfl) T.len (by decide +kernel) (pa_cons (pv 2) pa_nil)) (pe_op op_mul (pe_op op_fdiv (pe_callB c_lenL (by rfl) T.len (by decide +kernel) (pa_cons (pv 2) pa_nil)) pe_int) pe_int) (nomark _))
  (pss_one (ps_ret pe_non))
  pss_nil)
  (pss_cons (ps_for PassesOwn.never rfl (pi_range3 rfl T.range (pa_cons pe_int (pa_cons (pe_callB c_lenL (by rfl) T.len (by decide +kernel) (pa_cons (pv 2) pa_nil)) (pa_cons pe_int pa_nil)))) (pg_name (i := 1) scRead.nd rfl (Or.inl rfl))
  (pss_cons (ps_set (i := 4) scRead.nd rfl (Or.inl rfl) (pe_ix ix_list (pv 2) (pe_op op_add (pv 1) pe_int) (fun _ _ => rfl)))
  (pss_cons (ps_if (PW.pt (pw_or (pt_not (pt_val (pe_cal Cf hr pass0 (pa_cons (pe_ix ix_list (pv 2) (pv 1) (fun _ _ => rfl)) pa_nil)))) (pw_or1 (pt_not (pt_chain op_lt op_lt pe_int (pe_callB c_lenS (by rfl) T.len (by decide +kernel) (pa_cons (pv 4) pa_nil)) pe_int)))))
  (pss_one (ps_ret pe_non))
  pss_nil)
  (pss_cons (ps_if (pt_not (pt_val (pe_callB (cr_all rfl) (by rfl) T.all (by decide +kernel) (pa_cons (pe_lc (own := [("_law_sign", 5)]) (g := gName 5) (tt := tYes) rfl scRead.nd (pi_str (pv 4)) (blkOk_by (N := ["_law_line_so", "_law_k", "_law_words", "_law_done", "_law_own", "_law_sign"]) (sc := defScope sRead) (by decide +kernel)) (fun _ _ _ _ _ => (pg_name (i := 5) scRead.nd rfl (Or.inl rfl))) (fun _ _ _ _ _ => pts_nil) (fun _ _ _ _ _ => (pe_cmpR op_inS (pv 5) pe_str (by rfl)))) pa_nil))))
  (pss_one (ps_ret pe_non))
  pss_nil)
  (pss_cons (ps_if (PW.pt (pw_and (pt_cmpR (op_neD (hu64 hr)) (pv 3) (pe_lst pa_nil) (nomark _)) (pw_and1 (pt_not (pt_cmpR op_lt_str (pe_ix ix_tup (pe_ix ix_list (pv 3) (pe_un un_neg pe_int) (fun _ _ => rfl)) pe_int (fun _ _ => rfl)) (pv 4) (nomark _))))))
  (pss_one (ps_ret pe_non))
  pss_nil)
  (pss_one (ps_expr (pe_bm PySem.F.plainAttrs_list PySem.F.slot_list_append PySem.F.type_list_append mt_append (pv 3) (pa_cons (pe_tup (pa_cons (pv 4) (pa_cons (pe_callTy call_int_str (by rfl) T.int (by decide +kernel) (pa_cons (pe_ix ix_list (pv 2) (pv 1) (fun _ _ => rfl)) pa_nil)) pa_nil))) pa_nil)))))))))
  (pss_one (ps_ret (pe_callTy c_tupL (by rfl) T.tuple (by decide +kernel) (pa_cons (pv 3) pa_nil)))))))), ?_⟩
    have hw := words_len z
    have hb := ft.bl
    have hz := ft.le
    walk_at "in"
    walk_at "go"
    refine ite2 (fun c => ?_) (fun c => ?_)
    · have ez : z = dash := by
        have := of_decide_eq_true c
        injection this
      walk_at "go"
      rename_i p hp
      exact q [] p [] _ ⟨.inl ⟨ez, rfl⟩⟩ hp upd_same .nil fun c o e => upd_at e (ne_of_none e hp)
    · have nz : z ≠ dash := fun e => c (decide_eq_true (by rw [e]; rfl))
      walk_at "go"
      refine ⟨z, _, rfl, rfl, by decide +kernel, by omega, fun p hp => ?_⟩
      walk_at "go"
      rename_i d hd
      have hd0 : H d = none := by
        by_cases e : d = p
        · rw [e, upd_same] at hd; cases hd
        · rw [upd_ne e] at hd; exact hd
      have hdp : d ≠ p := fun e => by rw [e, upd_same] at hd; cases hd
      have hH1 : ∃ H1, H1 = upd (upd H p (HO.lst (List.map V.str (Txt.split z (Str.ofString " "))))) d (HO.lst []) := ⟨_, rfl⟩
      obtain ⟨H1, eH1⟩ := hH1
      have sH : Same H H1 := fun c o e => by
        rw [eH1]
        exact upd_at (upd_at e (ne_of_none e hp)) (ne_of_none e hd0)
      have hwp : H1 p = some (.lst ((words z).map V.str)) := by rw [eH1]; exact upd_at upd_same (fun e => hdp e.symm)
      have hd1 : H1 d = some (.lst []) := by rw [eH1]; exact upd_same
      rw [← eH1]
      clear eH1 hd
      have hlw : (List.map V.str (Txt.split z (Str.ofString " "))).length = (words z).length := List.length_map _
      rw [hlw]
      by_cases ev : (words z).length % 2 = 0
      case neg =>
        refine ite_ndT (fun e => ?_) ?_
        · injection e with e
          omega
        · walk_at "go"
          exact qn H1 ⟨nz, fun h => ev h.ev⟩ sH
      refine ite_ndF (by congr 1; omega) ?_
      have no : ∀ H', Same H H' → ¬ OkW (words z) → Q .non H' := fun H' s h => qn H' ⟨nz, h⟩ s
      walk_at "ps"
      walk_at "ps"
      walk_at "ps"
      refine r_iRng3 ?_
      walk_at "go"
      have hwl : (words z).length < 60 := by omega
      rw [List.length_map]
      refine ⟨0, _, 2, _, rfl, rg2 _ hwl, ?_⟩
      have hn : ((words z).length + 1) / 2 = (words z).length / 2 := by omega
      have l1 := qsOf_len ev
      have le_ := evs_len (words z)
      have lo_ := ods_len (words z)
      refine for_it walk_rangeC (fun i σ H' => ∃ (x1 x4 : Option V) (xs : List V), σ = [some (.str z), x1, some (.ref p), some (.ref d), x4, none] ∧ H' d = some (.lst xs) ∧ Paired (PrA H') xs ((qsOf (words z)).take i) ∧ (∀ c ∈ (evs (words z)).take i, ManyS c) ∧ (∀ k ∈ (ods (words z)).take i, KindS k) ∧ ((ods (words z)).take i).Pairwise (fun a b => cds a < cds b) ∧ H' p = some (.lst ((words z).map V.str)) ∧ Same H H') ?_ (fun _ _ _ _ _ => trivial) ?_ ?_
      · exact ⟨none, none, [], rfl, hd1, .nil, fun _ h => (by cases h), fun _ h => (by cases h), .nil, hwp, sH⟩
      · rintro i x _ _ H2 hi ⟨x1, x4, xs, rfl, hD, hxs, nu, ki, up, hwp2, s2⟩ ⟨rfl, hx⟩
        obtain rfl : x = .int (0 + ((i : Nat) : Int) * 2) := hx
        obtain ⟨c, hc⟩ : ∃ c, (words z)[2 * i]? = some c := ⟨_, List.getElem?_eq_getElem (by omega)⟩
        obtain ⟨k, hk⟩ : ∃ k, (words z)[2 * i + 1]? = some k := ⟨_, List.getElem?_eq_getElem (by omega)⟩
        have hc' : (evs (words z))[i]? = some c := by rw [evs_at]; exact hc
        have hk' : (ods (words z))[i]? = some k := by rw [ods_at]; exact hk
        have at1 : atI ((words z).map V.str) (0 + ((i : Nat) : Int) * 2) = some (.str c) := by
          rw [show (0 : Int) + ((i : Nat) : Int) * 2 = ((2 * i : Nat) : Int) by omega]
          exact atI_nat (by rw [List.getElem?_map, hc]; rfl)
        have at2 : atI ((words z).map V.str) (0 + ((i : Nat) : Int) * 2 + 1) = some (.str k) := by
          rw [show (0 : Int) + ((i : Nat) : Int) * 2 + 1 = ((2 * i + 1 : Nat) : Int) by omega]
          exact atI_nat (by rw [List.getElem?_map, hk]; rfl)
        have cl := word_len (List.mem_of_getElem? hc)
        have kl := word_len (List.mem_of_getElem? hk)
        have nuS : ¬ ManyS c → ¬ OkW (words z) := fun h g => h (g.nu c (List.mem_of_getElem? hc'))
        have kiS : ¬ KindS k → ¬ OkW (words z) := fun h g => h (g.ki k (List.mem_of_getElem? hk'))
        walk_at "go"
        refine r_ixL (SqL.of hwp2) at2 ?_
        walk_at "go"
        refine r_ixL (SqL.of hwp2) at1 ?_
        walk_at "go"
        refine ⟨c, rfl, by omega, fun b1 H3 hb1 s3 => ?_⟩
        have s23 : Same H H3 := fun c o e => s3 _ _ (s2 _ _ e)
        walk_at "go"
        cases b1 with
        | false =>
          refine iteT (iteT ?_)
          walk_at "go"
          exact no _ s23 (nuS fun h => by have := hb1.mpr h; cases this)
        | true =>
        have mc := hb1.mp rfl
        refine iteF ?_
        walk_at "go"
        refine r_chain ?_
        walk_at "go"
        refine r_lenS (by omega) ?_
        walk_at "go"
        have lk := len_cds k
        by_cases g1 : (0 : Int) < (k.length : Int)
        case neg =>
          refine ite_dF g1 ⟨false, rfl, iteT ?_⟩
          walk_at "go"
          exact no _ s23 (kiS fun h => by have := h.1; omega)
        refine ite_dT g1 ?_
        walk_at "go"
        by_cases g2 : (k.length : Int) < 9
        case neg =>
          refine ite_ndT g2 ?_
          walk_at "go"
          exact no _ s23 (kiS fun h => by have := h.2.1; omega)
        refine ite_ndF g2 ?_
        iterate 7 walk_at "ps"
        refine lc_inL (L := Str.ofString "abcdefghijklmnopqrstuvwxyz") rfl (by simp) (by omega) fun D H4 hD0 hD4 s4 => ?_
        walk_at "go"
        refine r_all (SqL.of hD4) ?_
        walk_at "go"
        have s34 : Same H H4 := fun c o e => s4 _ _ (s23 _ _ e)
        rw [List.all_map]
        cases hall : ((cds k).all (id ∘ fun c => decide (c ∈ (Str.ofString "abcdefghijklmnopqrstuvwxyz").cps.toList))) with
        | false =>
          refine iteT ?_
          walk_at "go"
          refine no _ s34 (kiS fun h => ?_)
          have : ((cds k).all (id ∘ fun c => decide (c ∈ (Str.ofString "abcdefghijklmnopqrstuvwxyz").cps.toList))) = true := List.all_eq_true.mpr fun c hc => decide_eq_true (abc_mem.mpr (h.2.2 c hc))
          rw [hall] at this
          cases this
        | true =>
        have kk : KindS k := ⟨by omega, by omega, fun c hc => abc_mem.mp (of_decide_eq_true (List.all_eq_true.mp hall c hc))⟩
        refine iteF ?_
        have hd4 : H4 d = some (.lst xs) := s4 _ _ (s3 _ _ hD)
        have hx4 : Paired (PrA H4) xs ((qsOf (words z)).take i) := PrA.all (PrA.all hxs s3) s4
        have hw4 := s4 _ _ (s3 _ _ hwp2)
        walk_at "go"
        rename_i e he
        have s5 : Same H4 (upd H4 e (.lst [])) := fun c o e' => upd_at e' (ne_of_none e' he)
        have ki2 : ∀ p ∈ (qsOf (words z)).take i, KindS p.1 := fun p hp => ki p.1 (by
          have : p.1 ∈ keys ((qsOf (words z)).take i) := List.mem_map.mpr ⟨p, hp, rfl⟩
          unfold keys at this
          rw [List.map_take] at this
          rw [← keys_qsOf ev]
          exact this)
        refine ⟨pl ((qsOf (words z)).take i), .list [], .lst (SqL.of (s5 _ _ hd4)) (dp_all (PrA.all hx4 s5)), .lst (SqL.of upd_same) .nil, shaped_pl ki2, by decide, ?_⟩
        rw [eqv_pl]
        walk_at "go"
        have hd5 := s5 _ _ hd4
        have hx5 := PrA.all hx4 s5
        have hw5 := s5 _ _ hw4
        have sA : Same H (upd H4 e (.lst [])) := fun c o e' => s5 _ _ (s34 _ _ e')
        generalize upd H4 e (.lst []) = H5 at hd5 hx5 hw5 sA ⊢
        have tk1 : (qsOf (words z)).take (i + 1) = (qsOf (words z)).take i ++ [(k, num c)] := by rw [List.take_add_one, qsOf_at hc' hk']; rfl
        have tk2 : (evs (words z)).take (i + 1) = (evs (words z)).take i ++ [c] := by rw [List.take_add_one, hc']; rfl
        have tk3 : (ods (words z)).take (i + 1) = (ods (words z)).take i ++ [k] := by rw [List.take_add_one, hk']; rfl
        have mcl := mc.2.1
        rw [← len_cds] at mcl
        have lxs := Paired.len hx5
        rw [List.length_take] at lxs
        by_cases ne : (qsOf (words z)).take i = []
        case pos =>
          have up2 : ((ods (words z)).take i ++ [k]).Pairwise fun a b => cds a < cds b := by
            have e0 : (ods (words z)).take i = [] := by
              have := congrArg List.length ne
              rw [List.length_take] at this
              replace this : min i (qsOf (words z)).length = 0 := this
              refine List.eq_nil_of_length_eq_zero ?_
              rw [List.length_take]
              omega
            rw [e0]
            exact List.pairwise_singleton _ _
          rw [show ((qsOf (words z)).take i).isEmpty = true by rw [ne]; rfl]
          refine iteF (iteF ?_)
          walk_at "go"
          refine r_ixL (SqL.of hw5) at1 ?_
          walk_at "go"
          refine ⟨c, _, rfl, mc.reads, by omega, ?_⟩
          walk_at "go"
          rename_i u hu
          have hdu : d ≠ u := ne_of_none hd5 hu
          have hpu : p ≠ u := ne_of_none hw5 hu
          have kp : Kp d H5 (upd (upd H5 u (.tup [V.str k, V.int (num c)])) d (.lst (xs ++ [V.ref u]))) := fun c o e' n => upd_at (upd_at e' (ne_of_none e' hu)) n
          refine ⟨_, _, _, rfl, upd_same, ?_, ?_, ?_, ?_, ?_, fun c o e' => ?_⟩
          · rw [tk1]
            exact Paired.app (PrA.kpdAll hx5 kp hd5 (fun _ z => by cases z)) (.cons ⟨u, rfl, upd_at upd_same (fun e => hdu e.symm)⟩ .nil)
          · rw [tk2]
            intro w hw
            rcases List.mem_append.mp hw with h | h
            · exact nu w h
            · rw [List.mem_singleton.mp h]; exact mc
          · rw [tk3]
            intro w hw
            rcases List.mem_append.mp hw with h | h
            · exact ki w h
            · rw [List.mem_singleton.mp h]; exact kk
          · rw [tk3]
            exact up2
          · exact upd_at (upd_at hw5 hpu) (fun e => hdp e.symm)
          · exact upd_at (upd_at (sA _ _ e') (ne_of_none (sA _ _ e') hu)) (ne_of_none e' hd0)
        have l0 : 0 < ((qsOf (words z)).take i).length := List.length_pos_iff.mpr ne
        rw [show ((qsOf (words z)).take i).isEmpty = false by cases h : (qsOf (words z)).take i with | nil => exact absurd h ne | cons a r => rfl]
        refine iteT ?_
        rw [List.length_take] at l0
        obtain ⟨j, hj⟩ : ∃ j, ((ods (words z)).take i)[i - 1]? = some j := ⟨_, List.getElem?_eq_getElem (by rw [List.length_take]; omega)⟩
        obtain ⟨r, hr⟩ : ∃ r, ((qsOf (words z)).take i)[i - 1]? = some r := ⟨_, List.getElem?_eq_getElem (by rw [List.length_take]; omega)⟩
        have hrj : r.1 = j := by
          have h1 : (keys ((qsOf (words z)).take i))[i - 1]? = some r.1 := by unfold keys; rw [List.getElem?_map, hr]; rfl
          have h2 : keys ((qsOf (words z)).take i) = (ods (words z)).take i := by
            rw [← keys_qsOf ev]
            unfold keys
            rw [List.map_take]
          rw [h2, hj] at h1
          exact (Option.some.inj h1).symm
        obtain ⟨v, hv⟩ : ∃ v, xs[i - 1]? = some v := ⟨_, List.getElem?_eq_getElem (by omega)⟩
        obtain ⟨r2, hr2, t, rfl, ht⟩ := Paired.at hx5 hv
        obtain rfl : r2 = r := Option.some.inj (hr2.symm.trans hr)
        have at3 : atI xs (-1) = some (.ref t) := by
          have hlx : xs.length = i - 1 + 1 := by omega
          unfold atI ixN
          rw [if_neg (by decide), if_pos (by omega)]
          show xs[_]? = _
          rw [show (-1 + (xs.length : Int)).toNat = i - 1 by omega]
          exact hv
        walk_at "go"
        refine r_ixL (SqL.of hd5) at3 ?_
        walk_at "go"
        refine r_ixT (SqT.of ht) (atI_nat (j := 0) rfl) ?_
        walk_at "go"
        refine ⟨r2.1, k, rfl, rfl, ?_⟩
        walk_at "go"
        by_cases lt : cds r2.1 < cds k
        case neg =>
          refine ite_ndT lt ?_
          walk_at "go"
          refine no _ sA fun g => lt ?_
          have hj2 : (ods (words z))[i - 1]? = some j := by rw [List.getElem?_take_of_lt (by omega)] at hj; exact hj
          obtain ⟨a1, e1⟩ := List.getElem?_eq_some_iff.mp hj2
          obtain ⟨a2, e2⟩ := List.getElem?_eq_some_iff.mp hk'
          have := (List.pairwise_iff_getElem.mp g.up) (i - 1) i a1 a2 (by omega)
          rw [e1, e2] at this
          rw [hrj]
          exact this
        case pos =>
          have up2 : ((ods (words z)).take i ++ [k]).Pairwise fun a b => cds a < cds b := asc_snoc up fun j2 hj2 => by
            rw [List.length_take, show min i (ods (words z)).length = i by omega, hj] at hj2
            rw [← Option.some.inj hj2, ← hrj]
            exact lt
          refine ite_ndF lt ?_
          walk_at "go"
          refine r_ixL (SqL.of hw5) at1 ?_
          walk_at "go"
          refine ⟨c, _, rfl, mc.reads, by omega, ?_⟩
          walk_at "go"
          rename_i u hu
          have hdu : d ≠ u := ne_of_none hd5 hu
          have hpu : p ≠ u := ne_of_none hw5 hu
          have kp : Kp d H5 (upd (upd H5 u (.tup [V.str k, V.int (num c)])) d (.lst (xs ++ [V.ref u]))) := fun c o e' n => upd_at (upd_at e' (ne_of_none e' hu)) n
          refine ⟨_, _, _, rfl, upd_same, ?_, ?_, ?_, ?_, ?_, fun c o e' => ?_⟩
          · rw [tk1]
            exact Paired.app (PrA.kpdAll hx5 kp hd5 (fun _ z => by cases z)) (.cons ⟨u, rfl, upd_at upd_same (fun e => hdu e.symm)⟩ .nil)
          · rw [tk2]
            intro w hw
            rcases List.mem_append.mp hw with h | h
            · exact nu w h
            · rw [List.mem_singleton.mp h]; exact mc
          · rw [tk3]
            intro w hw
            rcases List.mem_append.mp hw with h | h
            · exact ki w h
            · rw [List.mem_singleton.mp h]; exact kk
          · rw [tk3]
            exact up2
          · exact upd_at (upd_at hw5 hpu) (fun e => hdp e.symm)
          · exact upd_at (upd_at (sA _ _ e') (ne_of_none (sA _ _ e') hu)) (ne_of_none e' hd0)
      · rintro σ H2 ⟨x1, x4, xs, rfl, hD, hxs, nu, ki, up, hwp2, s2⟩
        rw [hn] at hxs nu ki up
        rw [List.take_of_length_le (by omega)] at hxs
        rw [List.take_of_length_le (by omega)] at nu ki up
        walk_at "go"
        rename_i r hr0
        exact q (qsOf (words z)) r xs _ ⟨.inr ⟨nz, ⟨ev, nu, ki, up⟩, rfl⟩⟩ (s2.free hr0) upd_same (PrA.all hxs fun c o e => upd_at e (ne_of_none e hr0)) fun c o e => upd_at (s2 _ _ e) (ne_of_none (s2 _ _ e) hr0)
end
end My

namespace My
open PySem L2
local macro_rules | `(tactic| walk_at "bx1") => `(tactic| first | with_reducible assumption | ((with_reducible refine' Bx.upd ?h1 ?h2); (case h1 => walk_at "bx1"); (case h2 => walk_at "ne")) | ((with_reducible refine' Bx.same ?h1 (by with_reducible assumption)); (case h1 => walk_at "bx1")))
local macro_rules | `(tactic| walk_at "bx") => `(tactic| (refine' Bx.mono ?h1 ?h2; (case h1 => walk_at "bx1"); (case h2 => omega)))
local macro_rules | `(tactic| walk_at "ne") => `(tactic| first | with_reducible assumption | exact Ne.symm (by with_reducible assumption) | ((with_reducible refine' ne_of_none ?h1 (by with_reducible assumption)); (case h1 => walk_at "hp")) | ((with_reducible refine' Ne.symm (ne_of_none ?h1 (by with_reducible assumption))); (case h1 => walk_at "hp")) | ((with_reducible refine' Bx.ne ?h1 (by with_reducible assumption)); (case h1 => walk_at "bx1")) | ((with_reducible refine' Ne.symm (Bx.ne ?h1 (by with_reducible assumption))); (case h1 => walk_at "bx1")))
local macro_rules | `(tactic| walk_at "hp") => `(tactic| first | with_reducible assumption | ((with_reducible refine' (upd_same.trans ?h1)); (case h1 => rfl)) | ((with_reducible refine' My.upd_at ?h1 ?h2); (case h1 => walk_at "hp"); (case h2 => walk_at "ne")) | ((with_reducible refine' My.Kp.at (by with_reducible assumption) ?h1 ?h2); (case h1 => walk_at "hp"); (case h2 => walk_at "ne")) | ((with_reducible refine' My.Same.at (by with_reducible assumption) ?h1); (case h1 => walk_at "hp")))
local macro_rules | `(tactic| walk_at "sq") => `(tactic| first | with_reducible assumption | exact SqL.of (by walk_at "hp") | exact SqT.of (by walk_at "hp") | ((with_reducible refine' My.SqT.upd ?h1 (by with_reducible assumption)); (case h1 => walk_at "sq")) | ((with_reducible refine' My.SqL.upd ?h1 (by with_reducible assumption)); (case h1 => walk_at "sq")) | ((with_reducible refine' Same.seq (by with_reducible assumption) ?h1); (case h1 => walk_at "sq")) | ((with_reducible refine' My.SqT.same ?h1 (by with_reducible assumption)); (case h1 => walk_at "sq")) | ((with_reducible refine' My.SqT.kp ?h1 (by with_reducible assumption) ?h2); (case h1 => walk_at "sq"); (case h2 => walk_at "bx1")) | ((with_reducible refine' My.SqL.kp ?h1 (by with_reducible assumption) ?h2); (case h1 => walk_at "sq"); (case h2 => walk_at "ne")))
local macro_rules | `(tactic| walk_at "sd") => `(tactic| first | assumption | omega | decide | (refine ⟨?_, ?_⟩ <;> (first | omega | decide)) | (refine Or.inl ⟨?_, ?_⟩ <;> (first | omega | decide)) | (refine Or.inr ⟨?_, ?_⟩ <;> (first | omega | decide)) | (refine ⟨?_, ?_, ?_⟩ <;> (first | omega | decide)))
local macro_rules | `(tactic| walk_at "ps") => `(tactic| first
  | with_reducible refine r_seq ?_ | with_reducible refine r_asg ?_ | with_reducible refine r_op ?_ | with_reducible refine r_cons ?_ | with_reducible refine r_nil ?_ | with_reducible refine r_c ?_
  | with_reducible refine' r_var rfl ?_ | with_reducible refine r_gname ?_ | with_reducible refine r_cb ?_ | with_reducible refine r_I0 ?_ | with_reducible refine r_ret ?_ | with_reducible refine r_ifS ?_ | with_reducible refine r_test ?_ | with_reducible refine r_B ?_
  | with_reducible refine r_next ?_ | with_reducible refine r_drop ?_ | with_reducible refine r_if ?_ | with_reducible refine r_un ?_ | with_reducible refine r_U ?_ | with_reducible refine r_gsub ?_ | with_reducible refine r_tup ?_ | with_reducible refine r_lst ?_ | with_reducible refine r_bm ?_
  | with_reducible refine r_cal ?_ | with_reducible refine r_not ?_ | with_reducible refine r_and ?_ | with_reducible refine r_or ?_ | with_reducible refine r_andV ?_ | with_reducible refine r_orV ?_ | with_reducible refine r_notV ?_
  | with_reducible refine r_abs ?_ | with_reducible refine r_intI ?_ | with_reducible refine r_intB ?_ | with_reducible refine r_m1 ?_ | with_reducible refine r_slice ?_ | with_reducible refine r_part ?_ | with_reducible refine r_nopart ?_
  | with_reducible refine r_gcons ?_ | with_reducible refine r_gnil ?_
  | with_reducible refine r_par ?_ | with_reducible refine r_par3 ?_ | with_reducible refine r_ex2 ?_ | with_reducible refine r_ex3 ?_
  | with_reducible refine r_isN ?_ | with_reducible refine r_notN ?_
  | with_reducible refine r_iZipA ?_
  | with_reducible refine r_dget ?_ | with_reducible refine r_dget2 ?_ | with_reducible refine r_iKeys ?_ | with_reducible refine r_dput ?_
  | with_reducible refine r_for ?_ | with_reducible refine r_lc ?_ | with_reducible refine r_iList ?_ | with_reducible refine r_iTup ?_ | with_reducible refine r_iRng1 ?_ | with_reducible refine r_iEnum ?_ | with_reducible refine r_orT ?_ | with_reducible refine r_yes ?_ | with_reducible refine r_ixSl ?_)
local macro_rules | `(tactic| walk_at "st") => `(tactic| first
  | walk_at "ps"
  | ((with_reducible refine' r_ixL ?h1 ?h2 ?_); (case h1 => walk_at "sq"); (case h2 => rfl))
  | ((with_reducible refine' r_setL ?h1 ?h2 ?_); (case h1 => walk_at "hp"); (case h2 => rfl))
  | ((with_reducible refine' r_I ?h1 ?_); (case h1 => walk_at "sd"))
  | ((with_reducible refine' r_eq ?h1 ?_); (case h1 => rfl)) | ((with_reducible refine' r_ne ?h1 ?_); (case h1 => rfl))
  | ((with_reducible refine' r_lenL ?h1 ?_); (case h1 => walk_at "sq")) | ((with_reducible refine' r_lenT ?h1 ?_); (case h1 => walk_at "sq")) | ((with_reducible refine' r_lenD ?h1 ?_); (case h1 => walk_at "hp"))
  | ((with_reducible refine' r_slL ?h1 ?_); (case h1 => walk_at "sq"); intro _ _)
  | ((with_reducible refine' r_append ?h1 ?h2 ?_); (case h1 => walk_at "hp"); (case h2 => exact szl (by first | omega | (simp; omega))))
  | ((with_reducible refine' r_gtup ?h1 ?h2 ?_); (case h1 => walk_at "sq"); (case h2 => rfl))
  | ((with_reducible refine' r_cat ?h1 ?h2 ?h3 ?_); (case h1 => walk_at "hp"); (case h2 => walk_at "hp"); (case h3 => exact sz (by first | omega | (simp; omega))); intro _ _)
  | ((with_reducible refine' r_wLst ?h1 ?_); (case h1 => walk_at "sq")) | ((with_reducible refine' r_wTup ?h1 ?_); (case h1 => walk_at "sq"))
  | ((with_reducible refine' r_wRng ?h1 ?_); (case h1 => walk_at "sd"))
  | ((with_reducible refine' r_truL ?h1 ?_); (case h1 => walk_at "sq"))
  | ((with_reducible refine' r_list (Or.inl ?h1) ?_); (case h1 => walk_at "sq"); intro _ _) | ((with_reducible refine' r_list (Or.inr ?h1) ?_); (case h1 => walk_at "sq"); intro _ _)
  | ((with_reducible refine' r_tupL ?h1 ?_); (case h1 => walk_at "sq"); intro _ _) | ((with_reducible refine' r_tupT ?h1 ?_); (case h1 => walk_at "sq"))
  | ((with_reducible refine' r_disp ?h1 ?_); (case h1 => exact Nat.le_of_ble_eq_true rfl); intro _ _)
  | ((with_reducible refine r_dnewK ?_); intro _ _)
  | ((with_reducible refine' r_tyL ?h1 ?_); (case h1 => walk_at "sq")) | with_reducible refine r_strV ?_
  | with_reducible refine r_exb ?_ | with_reducible refine r_exi ?_ | with_reducible refine r_exr ?_ | with_reducible refine r_exs ?_ | with_reducible refine r_exli ?_)
local macro_rules | `(tactic| walk_at "go") => `(tactic| repeat walk_at "st")
local macro_rules | `(tactic| walk_at "in") => `(tactic| dsimp only [noxK, cxK, L2.start, List.map_cons, List.map_nil, List.length_cons, List.length_nil, Nat.reduceAdd, Nat.reduceSub, List.replicate, List.cons_append, List.nil_append])

section
variable {P : Program} {w : World} {K : PySem.W.Frag} {mg : Str → Option Value} {base : Heap} {C CB CS CO CN : Addr}
/-- more facts of the error BadText -/
structure TxBe (K : PySem.W.Frag) (mg : Str → Option Value) (CN : Addr) : Prop where
  m : PySem.W.exmOne K (.ref CN) (.ref CN) = some true
  c : ExcC K CN
  v : PySem.W.kitOne K (.ref CN) (.type "ValueError") = some true
  gv : mg "ValueError" = none
abbrev sAsked : Stmt := top 29
theorem scAsked : FnScope ["_law_line_so", "error_so", "_law_caught", "_law_lot_so"] ["_law_line_so"] (defScope sAsked) := ⟨rfl, rfl, rfl, by decide +kernel, rfl, by decide +kernel, by decide +kernel⟩
theorem ok_asked {f : Addr} {fd : FuncData} (F : Fun K "_law_asked" "_law_asked" sAsked f fd) (T : Txt K mg) (L : TxL K C) (TB : TxBt K mg CN) (TE : TxBe K mg CN) (gC : mg "Lot" = some (.ref C))
    (Co : CCal P w K mg base (CX P w) 4 C "of" ["cls", "text"] ["text"] (spLotOf C CN)) (Op : OCal P w K mg base CX0 2 C "pairs" ["self"] (spLotPairs C)) : FnOk P w K mg base CX0 5 f fd ["_law_line_so"] spLRead := by
  refine F.ok scAsked (fun vs H Q E h => ?_) (fun cdv A outer s H vs Q E hr h => ?_)
  · obtain ⟨z, rfl, _⟩ := h
    rfl
  · obtain ⟨z, rfl, ft, q, qn⟩ := h
    refine ⟨_, pss_cons (ps_asg (pe_tup (pa_cons pe_non (pa_cons pe_non pa_nil))) (pg_tup rfl (pgs_cons (pg_name (i := 2) scAsked.nd rfl (Or.inl rfl)) (pgs_cons (pg_name (i := 3) scAsked.nd rfl (Or.inl rfl)) pgs_nil))))
      (pss_cons (ps_try_asT (i := 1) (cls := .ref CN) rfl rfl scAsked.nd rfl rfl (by rfl) (by decide) TB.g rfl TE.m
        (fun W pn xe tk _ => pss_one (ps_set (i := 3) scAsked.nd rfl (Or.inl rfl) (pe_cmS Co hr (passTk tk) (pe_glob (v := .ref C) (by rfl) gC rfl) (pa_cons (pv 0) pa_nil))))
        (fun a oe pn hz hf => pss_one (ps_set (i := 2) scAsked.nd rfl (Or.inl rfl) (pv 1))))
      (pss_cons (ps_if (pt_cmpR o_notN (pv 2) pe_non (nomark _))
        (pss_one (ps_ret (pe_ifExp (pt_val (pe_callB (call_isT TE.c) (by rfl) T.isinstance (by decide +kernel) (pa_cons (pv 2) (pa_cons (pe_bltn (v := .ty "ValueError") (by rfl) TE.gv (by decide +kernel) rfl) pa_nil)))) pe_non pe_str))) pss_nil)
      (pss_one (ps_ret (pe_methO0 Op L.oc.cl (hr.mono (by decide)) pass0 (pv 3)))))), ?_⟩
    walk_at "in"
    walk_at "go"
    rename_i p hp
    have s1 : Same H (upd H p (.tup [V.non, V.non])) := fun c o e => upd_at e (ne_of_none e hp)
    obtain ⟨H1, e1⟩ : ∃ H1, H1 = upd H p (.tup [V.non, V.non]) := ⟨_, rfl⟩
    rw [← e1] at s1 ⊢
    clear e1 hp
    refine r_cmS (r_c ⟨rfl, r_cons (r_var rfl (r_nil ⟨z, rfl, ft, fun qs x H2 rd hx ⟨m, Ln, cm⟩ s2 => ?_, fun H2 bad s2 => ?_⟩))⟩)
    · have s12 : Same H H2 := fun c o e => s2 _ _ (s1 _ _ e)
      have Lm := Ln.lo
      obtain ⟨⟨d, dx, h1, h2⟩, nd, mp, ml⟩ := id Lm
      walk_at "go"
      refine iteF ?_
      walk_at "go"
      refine r_meth0 ?_
      walk_at "go"
      refine ⟨x, dx, _, rfl, h1, look1, x, m, rfl, Lm, fun p2 ts qs2 H3 hp2 hp3 hts cn s3 => ?_⟩
      have e : qs2 = qs := cn_unique nd nd cn cm fun _ _ => rfl
      subst e
      exact q _ p2 ts H3 rd (s12.free hp2) hp3 hts fun c o e => s3 _ _ (s12 _ _ e)
    · have s12 : Same H H2 := fun c o e => s2 _ _ (s1 _ _ e)
      refine ⟨rfl, rfl, fun e he => ?_⟩
      walk_at "go"
      intro _
      walk_at "go"
      refine ite_ndT (by intro z; cases z) ?_
      walk_at "go"
      refine ⟨e, .ty "ValueError", .type "ValueError", true, rfl, upd_same, fun u hu => hu, TE.v, ?_⟩
      walk_at "go"
      refine iteT ?_
      walk_at "go"
      exact qn _ bad fun c o e' => upd_at (s12 _ _ e') (ne_of_none (s12 _ _ e') he)
end
end My

namespace My
open PySem L2
local macro_rules | `(tactic| walk_at "bx1") => `(tactic| first | with_reducible assumption | ((with_reducible refine' Bx.upd ?h1 ?h2); (case h1 => walk_at "bx1"); (case h2 => walk_at "ne")) | ((with_reducible refine' Bx.same ?h1 (by with_reducible assumption)); (case h1 => walk_at "bx1")))
local macro_rules | `(tactic| walk_at "bx") => `(tactic| (refine' Bx.mono ?h1 ?h2; (case h1 => walk_at "bx1"); (case h2 => omega)))
local macro_rules | `(tactic| walk_at "ne") => `(tactic| first | with_reducible assumption | exact Ne.symm (by with_reducible assumption) | ((with_reducible refine' ne_of_none ?h1 (by with_reducible assumption)); (case h1 => walk_at "hp")) | ((with_reducible refine' Ne.symm (ne_of_none ?h1 (by with_reducible assumption))); (case h1 => walk_at "hp")) | ((with_reducible refine' Bx.ne ?h1 (by with_reducible assumption)); (case h1 => walk_at "bx1")) | ((with_reducible refine' Ne.symm (Bx.ne ?h1 (by with_reducible assumption))); (case h1 => walk_at "bx1")))
local macro_rules | `(tactic| walk_at "hp") => `(tactic| first | with_reducible assumption | ((with_reducible refine' (upd_same.trans ?h1)); (case h1 => rfl)) | ((with_reducible refine' My.upd_at ?h1 ?h2); (case h1 => walk_at "hp"); (case h2 => walk_at "ne")) | ((with_reducible refine' My.Kp.at (by with_reducible assumption) ?h1 ?h2); (case h1 => walk_at "hp"); (case h2 => walk_at "ne")) | ((with_reducible refine' My.Same.at (by with_reducible assumption) ?h1); (case h1 => walk_at "hp")))
local macro_rules | `(tactic| walk_at "sq") => `(tactic| first | with_reducible assumption | exact SqL.of (by walk_at "hp") | exact SqT.of (by walk_at "hp") | ((with_reducible refine' My.SqT.upd ?h1 (by with_reducible assumption)); (case h1 => walk_at "sq")) | ((with_reducible refine' My.SqL.upd ?h1 (by with_reducible assumption)); (case h1 => walk_at "sq")) | ((with_reducible refine' Same.seq (by with_reducible assumption) ?h1); (case h1 => walk_at "sq")) | ((with_reducible refine' My.SqT.same ?h1 (by with_reducible assumption)); (case h1 => walk_at "sq")) | ((with_reducible refine' My.SqT.kp ?h1 (by with_reducible assumption) ?h2); (case h1 => walk_at "sq"); (case h2 => walk_at "bx1")) | ((with_reducible refine' My.SqL.kp ?h1 (by with_reducible assumption) ?h2); (case h1 => walk_at "sq"); (case h2 => walk_at "ne")))
local macro_rules | `(tactic| walk_at "sd") => `(tactic| first | assumption | omega | decide | (refine ⟨?_, ?_⟩ <;> (first | omega | decide)) | (refine Or.inl ⟨?_, ?_⟩ <;> (first | omega | decide)) | (refine Or.inr ⟨?_, ?_⟩ <;> (first | omega | decide)) | (refine ⟨?_, ?_, ?_⟩ <;> (first | omega | decide)))
local macro_rules | `(tactic| walk_at "ps") => `(tactic| first
  | with_reducible refine r_seq ?_ | with_reducible refine r_asg ?_ | with_reducible refine r_op ?_ | with_reducible refine r_cons ?_ | with_reducible refine r_nil ?_ | with_reducible refine r_c ?_
  | with_reducible refine' r_var rfl ?_ | with_reducible refine r_gname ?_ | with_reducible refine r_cb ?_ | with_reducible refine r_I0 ?_ | with_reducible refine r_ret ?_ | with_reducible refine r_ifS ?_ | with_reducible refine r_test ?_ | with_reducible refine r_B ?_
  | with_reducible refine r_next ?_ | with_reducible refine r_drop ?_ | with_reducible refine r_if ?_ | with_reducible refine r_un ?_ | with_reducible refine r_U ?_ | with_reducible refine r_gsub ?_ | with_reducible refine r_tup ?_ | with_reducible refine r_lst ?_ | with_reducible refine r_bm ?_
  | with_reducible refine r_cal ?_ | with_reducible refine r_not ?_ | with_reducible refine r_and ?_ | with_reducible refine r_or ?_ | with_reducible refine r_andV ?_ | with_reducible refine r_orV ?_ | with_reducible refine r_notV ?_
  | with_reducible refine r_abs ?_ | with_reducible refine r_intI ?_ | with_reducible refine r_intB ?_ | with_reducible refine r_m1 ?_ | with_reducible refine r_slice ?_ | with_reducible refine r_part ?_ | with_reducible refine r_nopart ?_
  | with_reducible refine r_gcons ?_ | with_reducible refine r_gnil ?_
  | with_reducible refine r_par ?_ | with_reducible refine r_par3 ?_ | with_reducible refine r_ex2 ?_ | with_reducible refine r_ex3 ?_
  | with_reducible refine r_isN ?_ | with_reducible refine r_notN ?_
  | with_reducible refine r_iZipA ?_
  | with_reducible refine r_dget ?_ | with_reducible refine r_dget2 ?_ | with_reducible refine r_iKeys ?_ | with_reducible refine r_dput ?_
  | with_reducible refine r_for ?_ | with_reducible refine r_lc ?_ | with_reducible refine r_iList ?_ | with_reducible refine r_iTup ?_ | with_reducible refine r_iRng1 ?_ | with_reducible refine r_iEnum ?_ | with_reducible refine r_orT ?_ | with_reducible refine r_yes ?_ | with_reducible refine r_ixSl ?_)
local macro_rules | `(tactic| walk_at "st") => `(tactic| first
  | walk_at "ps"
  | ((with_reducible refine' r_ixL ?h1 ?h2 ?_); (case h1 => walk_at "sq"); (case h2 => rfl))
  | ((with_reducible refine' r_setL ?h1 ?h2 ?_); (case h1 => walk_at "hp"); (case h2 => rfl))
  | ((with_reducible refine' r_I ?h1 ?_); (case h1 => walk_at "sd"))
  | ((with_reducible refine' r_eq ?h1 ?_); (case h1 => rfl)) | ((with_reducible refine' r_ne ?h1 ?_); (case h1 => rfl))
  | ((with_reducible refine' r_lenL ?h1 ?_); (case h1 => walk_at "sq")) | ((with_reducible refine' r_lenT ?h1 ?_); (case h1 => walk_at "sq")) | ((with_reducible refine' r_lenD ?h1 ?_); (case h1 => walk_at "hp"))
  | ((with_reducible refine' r_slL ?h1 ?_); (case h1 => walk_at "sq"); intro _ _)
  | ((with_reducible refine' r_append ?h1 ?h2 ?_); (case h1 => walk_at "hp"); (case h2 => exact szl (by first | omega | (simp; omega))))
  | ((with_reducible refine' r_gtup ?h1 ?h2 ?_); (case h1 => walk_at "sq"); (case h2 => rfl))
  | ((with_reducible refine' r_cat ?h1 ?h2 ?h3 ?_); (case h1 => walk_at "hp"); (case h2 => walk_at "hp"); (case h3 => exact sz (by first | omega | (simp; omega))); intro _ _)
  | ((with_reducible refine' r_wLst ?h1 ?_); (case h1 => walk_at "sq")) | ((with_reducible refine' r_wTup ?h1 ?_); (case h1 => walk_at "sq"))
  | ((with_reducible refine' r_wRng ?h1 ?_); (case h1 => walk_at "sd"))
  | ((with_reducible refine' r_truL ?h1 ?_); (case h1 => walk_at "sq"))
  | ((with_reducible refine' r_list (Or.inl ?h1) ?_); (case h1 => walk_at "sq"); intro _ _) | ((with_reducible refine' r_list (Or.inr ?h1) ?_); (case h1 => walk_at "sq"); intro _ _)
  | ((with_reducible refine' r_tupL ?h1 ?_); (case h1 => walk_at "sq"); intro _ _) | ((with_reducible refine' r_tupT ?h1 ?_); (case h1 => walk_at "sq"))
  | ((with_reducible refine' r_disp ?h1 ?_); (case h1 => exact Nat.le_of_ble_eq_true rfl); intro _ _)
  | ((with_reducible refine r_dnewK ?_); intro _ _)
  | ((with_reducible refine' r_tyL ?h1 ?_); (case h1 => walk_at "sq")) | with_reducible refine r_strV ?_
  | with_reducible refine r_exb ?_ | with_reducible refine r_exi ?_ | with_reducible refine r_exr ?_ | with_reducible refine r_exs ?_ | with_reducible refine r_exli ?_)
local macro_rules | `(tactic| walk_at "go") => `(tactic| repeat walk_at "st")
local macro_rules | `(tactic| walk_at "in") => `(tactic| dsimp only [noxK, cxK, L2.start, List.map_cons, List.map_nil, List.length_cons, List.length_nil, Nat.reduceAdd, Nat.reduceSub, List.replicate, List.cons_append, List.nil_append])

section
variable {P : Program} {w : World} {K : PySem.W.Frag} {mg : Str → Option Value} {base : Heap} {C CB CS CO CN : Addr}
abbrev sBent : Stmt := top 30
theorem scBent : FnScope ["_law_box_here", "_law_line_so", "_law_at_so", "_law_sign", "_law_sort", "_law_words", "_law_k", "_law_j", "_law_ahead", "_law_low", "_law_high"] ["_law_box_here", "_law_line_so"] (defScope sBent) := ⟨rfl, rfl, rfl, by decide +kernel, rfl, by decide +kernel, by decide +kernel⟩
def sgn : List Str := [Str.ofString " ", Str.ofString "0", Str.ofString "1", Str.ofString "9", Str.ofString "a", Str.ofString "z", Str.ofString "-", Str.ofString "A", Str.ofString ".", Str.ofString "+", Str.ofString "_"]
theorem sgn_len : ∀ s ∈ sgn, (cds s).length ≤ 1 := by decide +kernel
theorem fit_of {y : Str} (l : (cds y).length ≤ 100000) (b : (cds y).count 32 ≤ 50) : Fit y := ⟨by rw [len_cds]; exact l, b⟩
theorem cnt_take (l : List Nat) (k : Nat) : (l.take k).count 32 ≤ l.count 32 := (List.take_sublist k l).count_le 32
theorem cnt_drop (l : List Nat) (k : Nat) : (l.drop k).count 32 ≤ l.count 32 := (List.drop_sublist k l).count_le 32
theorem len_to (z : Str) (k : Nat) : (cutS z none (some (k : Int))).length ≤ (cds z).length := by
  rw [len_cds, cds_to, List.length_take]
  omega
theorem len_from (z : Str) (k : Nat) : (cutS z (some (k : Int)) none).length ≤ (cds z).length := by
  rw [len_cds, cds_from, List.length_drop]
  omega
def spBent : Sp := fun vs H Q _ => ∃ (a : Addr) (b : Nat) (z : Str), vs = [.ref a, .str z] ∧ Bx H a (b + 5) ∧ (cds z).length ≤ 4000 ∧ (cds z).count 32 ≤ 20 ∧
  ∀ (y : Str) (H' : Hp), Fit y → Bx H' a b → Kp a H H' → Q (.str y) H'
theorem ok_bent {f : Addr} {fd : FuncData} (F : Fun K "_law_bent" "_law_bent" sBent f fd) (T : Txt K mg) (Ct : Cal P w K mg base CX0 1 "_law_take" ["_law_box_here", "_law_below"] spTake) (Co : Cal P w K mg base CX0 2 "_law_of" ["_law_box_here", "_law_some"] spOf) : FnOk P w K mg base CX0 3 f fd ["_law_box_here", "_law_line_so"] spBent := by
  refine F.ok scBent (fun vs H Q E h => ?_) (fun cdv A outer s H vs Q E hr h => ?_)
  · obtain ⟨a, b, z, rfl, _⟩ := h
    rfl
  · obtain ⟨a, b, z, rfl, bx, hz, hc, q⟩ := h
    have hsl := PySem.sizeLine_eq
    have lz := len_cds z
    refine ⟨_, (pss_cons (ps_set (i := 2) scBent.nd rfl (Or.inl rfl) (pe_cal Ct (hr.mono (by decide)) pass0 (pa_cons (pv 0) (pa_cons (pe_op op_add (pe_callB c_lenS (by rfl) T.len (by decide +kernel) (pa_cons (pv 1) pa_nil)) pe_int) pa_nil))))
  (pss_cons (ps_set (i := 3) scBent.nd rfl (Or.inl rfl) (pe_cal Co hr pass0 (pa_cons (pv 0) (pa_cons (pe_lst (pa_cons pe_str (pa_cons pe_str (pa_cons pe_str (pa_cons pe_str (pa_cons pe_str (pa_cons pe_str (pa_cons pe_str (pa_cons pe_str (pa_cons pe_str (pa_cons pe_str (pa_cons pe_str pa_nil)))))))))))) pa_nil))))
  (pss_cons (ps_set (i := 4) scBent.nd rfl (Or.inl rfl) (pe_cal Ct (hr.mono (by decide)) pass0 (pa_cons (pv 0) (pa_cons pe_int pa_nil))))
  (pss_cons (ps_if (pt_cmpR op_eq (pv 4) pe_int (nomark _))
  (pss_one (ps_ret (pe_op o_catS (pe_op o_catS (pe_slice sl_str (pv 1) po_none (po_some (pv 2))) (pv 3)) (pe_slice sl_str (pv 1) (po_some (pv 2)) po_none))))
  pss_nil)
  (pss_cons (ps_if (pt_cmpR op_eq (pv 4) pe_int (nomark _))
  (pss_one (ps_ret (pe_op o_catS (pe_slice sl_str (pv 1) po_none (po_some (pv 2))) (pe_slice sl_str (pv 1) (po_some (pe_op op_add (pv 2) pe_int)) po_none))))
  pss_nil)
  (pss_cons (ps_if (pt_cmpR op_eq (pv 4) pe_int (nomark _))
  (pss_one (ps_ret (pe_op o_catS (pe_op o_catS (pe_slice sl_str (pv 1) po_none (po_some (pv 2))) (pv 3)) (pe_slice sl_str (pv 1) (po_some (pe_op op_add (pv 2) pe_int)) po_none))))
  pss_nil)
  (pss_cons (ps_set (i := 5) scBent.nd rfl (Or.inl rfl) (pe_split (pv 1) pe_str))
  (pss_cons (ps_set (i := 6) scBent.nd rfl (Or.inl rfl) (pe_cal Ct (hr.mono (by decide)) pass0 (pa_cons (pv 0) (pa_cons (pe_callB c_lenL (by rfl) T.len (by decide +kernel) (pa_cons (pv 5) pa_nil)) pa_nil))))
  (pss_cons (ps_set (i := 7) scBent.nd rfl (Or.inl rfl) (pe_cal Ct (hr.mono (by decide)) pass0 (pa_cons (pv 0) (pa_cons (pe_callB c_lenL (by rfl) T.len (by decide +kernel) (pa_cons (pv 5) pa_nil)) pa_nil))))
  (pss_cons (ps_asg (pe_ifExp (pt_cmpR op_lt (pv 6) (pv 7) (nomark _)) (pe_tup (pa_cons (pv 6) (pa_cons (pv 7) pa_nil))) (pe_tup (pa_cons (pv 7) (pa_cons (pv 6) pa_nil)))) (pg_tup rfl (pgs_cons (pg_name (i := 9) scBent.nd rfl (Or.inl rfl)) (pgs_cons (pg_name (i := 10) scBent.nd rfl (Or.inl rfl)) pgs_nil))))
  (pss_cons (ps_if (pt_cmpR op_eq (pv 9) (pv 10) (nomark _))
  (pss_one (ps_ret (pe_op o_catS (pe_op o_catS (pv 1) pe_str) (pv 1))))
  pss_nil)
  (pss_cons (ps_set (i := 8) scBent.nd rfl (Or.inl rfl) (pe_op op_cat (pe_op op_cat (pe_slice sl_list (pv 5) po_none (po_some (pv 9))) (pe_lst (pa_cons (pe_ix ix_list (pv 5) (pv 10) (fun _ _ => rfl)) pa_nil))) (pe_slice sl_list (pv 5) (po_some (pe_op op_add (pv 9) pe_int)) (po_some (pv 10)))))
  (pss_one (ps_ret (pe_joinR pe_str (pe_op op_cat (pe_op op_cat (pv 8) (pe_lst (pa_cons (pe_ix ix_list (pv 5) (pv 9) (fun _ _ => rfl)) pa_nil))) (pe_slice sl_list (pv 5) (po_some (pe_op op_add (pv 10) pe_int)) po_none))))))))))))))))), ?_⟩
    walk_at "in"
    walk_at "go"
    refine r_lenS (by omega) ?_
    walk_at "go"
    refine ⟨a, b + 4, _, rfl, bx, by omega, by have : (2 : Int) ^ 100 = 1267650600228229401496703205376 := by decide
                                               omega, fun d H1 d0 d1 bx1 kp1 => ?_⟩
    obtain ⟨at_, rfl⟩ : ∃ k : Nat, d = k := ⟨d.toNat, by omega⟩
    walk_at "go"
    rename_i l hl
    have bx1' : Bx (upd H1 l (.lst (sgn.map V.str))) a (b + 4) := bx1.upd (bx1.ne hl)
    have kp1' : Kp a H (upd H1 l (.lst (sgn.map V.str))) := fun c o e n => upd_at (kp1 _ _ e n) (ne_of_none (kp1 _ _ e n) hl)
    refine ⟨a, l, b + 3, sgn.map V.str, rfl, bx1', upd_same, (bx1.ne hl).symm, by decide, by decide, fun x i H2 hx bx2 kp2 => ?_⟩
    rw [List.getElem?_map] at hx
    obtain ⟨sg, hsg, rfl⟩ := Option.map_eq_some_iff.mp hx
    have ls := sgn_len sg (List.mem_of_getElem? hsg)
    have kp2' : Kp a H H2 := fun c o e n => kp2 _ _ (kp1' _ _ e n) n
    walk_at "go"
    refine ⟨a, b + 2, 4, rfl, bx2, by decide, by decide, fun d3 H3 d30 d31 bx3 kp3 => ?_⟩
    have kp3' : Kp a H H3 := fun c o e n => kp3 _ _ (kp2' _ _ e n) n
    clear kp1 kp1' kp2 kp2' kp3 bx1 bx1' bx2
    walk_at "go"
    have cs := List.count_le_length (a := 32) (l := cds sg)
    refine ite2 (fun c1 => ?_) (fun c1 => ?_)
    · walk_at "go"
      refine r_slS (by omega) ?_
      walk_at "go"
      have t1 := len_to z at_
      have c2 := cnt_take (cds z) at_
      have m2 := List.length_take_le at_ (cds z)
      have t2 := len_from z at_
      have c3 := cnt_drop (cds z) at_
      have m3 : ((cds z).drop at_).length ≤ (cds z).length := by rw [List.length_drop]; omega
      have lsg := len_cds sg
      refine r_catS (by omega) ?_
      walk_at "go"
      refine r_slS (by omega) ?_
      walk_at "go"
      refine r_catS (by rw [Str.length_append]; omega) ?_
      refine q _ H3 (fit_of ?_ ?_) (bx3.mono (by omega)) kp3'
      · rw [cds_app, cds_app, cds_to, cds_from, List.length_append, List.length_append]
        omega
      · rw [cds_app, cds_app, cds_to, cds_from, List.count_append, List.count_append]
        omega
    walk_at "go"
    refine ite2 (fun c2 => ?_) (fun c2 => ?_)
    · walk_at "go"
      refine r_slS (by omega) ?_
      walk_at "go"
      have t1 := len_to z at_
      have c4 := cnt_take (cds z) at_
      have m2 := List.length_take_le at_ (cds z)
      have t2 := len_from z (at_ + 1)
      have c3 := cnt_drop (cds z) (at_ + 1)
      have m3 : ((cds z).drop (at_ + 1)).length ≤ (cds z).length := by rw [List.length_drop]; omega
      have lsg := len_cds sg
      have t2' : (cutS z (some ((at_ : Int) + 1)) none).length ≤ (cds z).length := t2
      refine r_slS (by omega) ?_
      walk_at "go"
      refine r_catS (by omega) ?_
      refine q _ H3 (fit_of ?_ ?_) (bx3.mono (by omega)) kp3'
      · rw [cds_app, cds_to, show cds (cutS z (some ((at_ : Int) + 1)) none) = (cds z).drop (at_ + 1) from cds_from z (at_ + 1), List.length_append]
        omega
      · rw [cds_app, cds_to, show cds (cutS z (some ((at_ : Int) + 1)) none) = (cds z).drop (at_ + 1) from cds_from z (at_ + 1), List.count_append]
        omega
    walk_at "go"
    refine ite2 (fun c3 => ?_) (fun c3 => ?_)
    · walk_at "go"
      refine r_slS (by omega) ?_
      walk_at "go"
      have t1 := len_to z at_
      have c4 := cnt_take (cds z) at_
      have m2 := List.length_take_le at_ (cds z)
      have t2 := len_from z (at_ + 1)
      have c5 := cnt_drop (cds z) (at_ + 1)
      have m3 : ((cds z).drop (at_ + 1)).length ≤ (cds z).length := by rw [List.length_drop]; omega
      have lsg := len_cds sg
      have t2' : (cutS z (some ((at_ : Int) + 1)) none).length ≤ (cds z).length := t2
      refine r_catS (by omega) ?_
      walk_at "go"
      refine r_slS (by omega) ?_
      walk_at "go"
      refine r_catS (by rw [Str.length_append]; omega) ?_
      refine q _ H3 (fit_of ?_ ?_) (bx3.mono (by omega)) kp3'
      · rw [cds_app, cds_app, cds_to, show cds (cutS z (some ((at_ : Int) + 1)) none) = (cds z).drop (at_ + 1) from cds_from z (at_ + 1), List.length_append, List.length_append]
        omega
      · rw [cds_app, cds_app, cds_to, show cds (cutS z (some ((at_ : Int) + 1)) none) = (cds z).drop (at_ + 1) from cds_from z (at_ + 1), List.count_append, List.count_append]
        omega
    walk_at "go"
    refine ⟨z, _, rfl, rfl, by decide +kernel, by omega, fun p hp => ?_⟩
    walk_at "go"
    have hlw : (List.map V.str (Txt.split z (Str.ofString " "))).length = (words z).length := List.length_map _
    have hwl := words_len z
    have bx4 : Bx (upd H3 p (.lst ((words z).map V.str))) a (b + 2) := bx3.upd (bx3.ne hp)
    have kp4 : Kp a H (upd H3 p (.lst ((words z).map V.str))) := fun c o e n => upd_at (kp3' _ _ e n) (ne_of_none (kp3' _ _ e n) hp)
    have npa : a ≠ p := bx3.ne hp
    have h4 : upd H3 p (.lst ((words z).map V.str)) p = some (.lst ((words z).map V.str)) := upd_same
    show spTake [V.ref a, V.int ((List.map V.str (Txt.split z (Str.ofString " "))).length : Nat)] (upd H3 p (.lst ((words z).map V.str))) _ _
    rw [hlw]
    generalize upd H3 p (.lst ((words z).map V.str)) = H4 at bx4 kp4 h4 ⊢
    have big : (2 : Int) ^ 100 = 1267650600228229401496703205376 := by decide
    refine ⟨a, b + 1, _, rfl, bx4, by omega, by omega, fun dk H5 k0 k1 bx5 kp5 => ?_⟩
    obtain ⟨k, rfl⟩ : ∃ n : Nat, dk = n := ⟨dk.toNat, by omega⟩
    have h5 := kp5 _ _ h4 (fun e => npa e.symm)
    have kp5' : Kp a H H5 := fun c o e n => kp5 _ _ (kp4 _ _ e n) n
    walk_at "go"
    rw [List.length_map]
    refine ⟨a, b, _, rfl, bx5, by omega, by omega, fun dj H6 j0 j1 bx6 kp6 => ?_⟩
    obtain ⟨j, rfl⟩ : ∃ n : Nat, dj = n := ⟨dj.toNat, by omega⟩
    have h6 := kp6 _ _ h5 (fun e => npa e.symm)
    have kp6' : Kp a H H6 := fun c o e n => kp6 _ _ (kp5' _ _ e n) n
    walk_at "go"
    have dbl : ∀ H', Bx H' a b → Kp a H H' → Q (.str ((z ++ Str.ofString " ") ++ z)) H' := fun H' bx' kp' => by
      refine q _ H' (fit_of ?_ ?_) bx' kp'
      · rw [cds_app, cds_app, show cds (Str.ofString " ") = [32] from tl_sp1, List.length_append, List.length_append]
        simp only [List.length_cons, List.length_nil]
        omega
      · rw [cds_app, cds_app, show cds (Str.ofString " ") = [32] from tl_sp1, List.count_append, List.count_append]
        have : [32].count 32 = 1 := rfl
        omega
    have n4 : (Str.ofString " ").length = 1 := by decide +kernel
    refine ite2 (fun ck => ?_) (fun ck => ?_)
    · have hkj : (k : Int) < j := of_decide_eq_true ck
      walk_at "go"
      rename_i t ht
      have bx7 : Bx (upd H6 t (HO.tup [V.int (k : Nat), V.int (j : Nat)])) a b := bx6.upd (bx6.ne ht)
      have kp7 : Kp a H (upd H6 t (HO.tup [V.int (k : Nat), V.int (j : Nat)])) := fun c o e n => upd_at (kp6' _ _ e n) (ne_of_none (kp6' _ _ e n) ht)
      have h7 : upd H6 t (HO.tup [V.int (k : Nat), V.int (j : Nat)]) p = some (.lst ((words z).map V.str)) := upd_at h6 (ne_of_none h6 ht)
      generalize upd H6 t (HO.tup [V.int (k : Nat), V.int (j : Nat)]) = H7 at bx7 kp7 h7 ⊢
      clear ht
      refine ite2 (fun ce => ?_) (fun ce => ?_)
      · walk_at "go"
        refine r_catS (by omega) ?_
        walk_at "go"
        refine r_catS (by rw [Str.length_append]; omega) ?_
        exact dbl H7 bx7 kp7
      have hne : k < j := by
        have : k ≠ j := fun e => ce (decide_eq_true (by rw [e]))
        omega
      walk_at "go"
      obtain ⟨wl, hwl2⟩ : ∃ wl, (words z)[k]? = some wl := ⟨_, List.getElem?_eq_getElem (by omega)⟩
      obtain ⟨wh, hwh⟩ : ∃ wh, (words z)[j]? = some wh := ⟨_, List.getElem?_eq_getElem (by omega)⟩
      rename_i u1 hu1
      rw [cutV_to, ← List.map_take]
      have l1 : ((words z).take k).length = k := by rw [List.length_take]; omega
      refine r_ixL (SqL.of (upd_at h7 (ne_of_none h7 hu1))) (atI_nat (by rw [List.getElem?_map, hwh]; rfl)) ?_
      walk_at "go"
      rename_i u2 hu2 u3 hu3 u4 hu4
      have hP : ∃ L1 : List Str, ((words z).map V.str).take k ++ [V.str wh] ++ ((((words z).map V.str).drop (k + 1)).take (j - (k + 1))) = L1.map V.str ∧ L1.length ≤ j ∧ ∀ w ∈ L1, w ∈ words z := by
        refine ⟨(words z).take k ++ [wh] ++ (((words z).drop (k + 1)).take (j - (k + 1))), ?_, ?_, fun w hw => ?_⟩
        · rw [List.map_append, List.map_append, List.map_take, List.map_take, List.map_drop]
          rfl
        · rw [List.length_append, List.length_append, List.length_take, List.length_take, List.length_drop, List.length_singleton]
          omega
        · rcases List.mem_append.mp hw with h | h
          · rcases List.mem_append.mp h with h | h
            · exact List.mem_of_mem_take h
            · rw [List.mem_singleton.mp h]; exact List.mem_of_getElem? hwh
          · exact List.mem_of_mem_drop (List.mem_of_mem_take h)
      obtain ⟨L1, eL1, lL1, mL1⟩ := hP
      rw [show (((k : Nat) : Int) + 1) = ((k + 1 : Nat) : Int) from rfl, cutV_mid]
      simp only [List.map_take] at hu2 hu3 hu4 ⊢
      have v3 : ∀ o, (upd (upd (upd (upd H7 u1 (HO.lst (List.take k (List.map V.str (words z))))) u2 (HO.lst [V.str wh])) u3 (HO.lst (List.take k (List.map V.str (words z)) ++ [V.str wh]))) u4 o) u3 = some (.lst (List.take k (List.map V.str (words z)) ++ [V.str wh])) := fun o => upd_at upd_same (ne_of_none upd_same hu4)
      refine r_cat (v3 _) upd_same (sz (by rw [List.length_append, List.length_take, List.length_take, List.length_drop, List.length_map, List.length_singleton]; omega)) fun u5 hu5 => ?_
      rw [eL1]
      have k8 : Kp a H7 (upd (upd (upd (upd (upd H7 u1 (HO.lst (List.take k (List.map V.str (words z))))) u2 (HO.lst [V.str wh])) u3 (HO.lst (List.take k (List.map V.str (words z)) ++ [V.str wh]))) u4 (HO.lst (List.take (j - (k + 1)) (List.drop (k + 1) (List.map V.str (words z)))))) u5 (HO.lst (L1.map V.str))) := fun c o e n => by walk_at "hp"
      have b8 : Bx (upd (upd (upd (upd (upd H7 u1 (HO.lst (List.take k (List.map V.str (words z))))) u2 (HO.lst [V.str wh])) u3 (HO.lst (List.take k (List.map V.str (words z)) ++ [V.str wh]))) u4 (HO.lst (List.take (j - (k + 1)) (List.drop (k + 1) (List.map V.str (words z)))))) u5 (HO.lst (L1.map V.str))) a b := by walk_at "bx"
      have h8 := k8 _ _ h7 (fun e => npa e.symm)
      have v5 : (upd (upd (upd (upd (upd H7 u1 (HO.lst (List.take k (List.map V.str (words z))))) u2 (HO.lst [V.str wh])) u3 (HO.lst (List.take k (List.map V.str (words z)) ++ [V.str wh]))) u4 (HO.lst (List.take (j - (k + 1)) (List.drop (k + 1) (List.map V.str (words z)))))) u5 (HO.lst (L1.map V.str))) u5 = some (.lst (L1.map V.str)) := upd_same
      generalize (upd (upd (upd (upd (upd H7 u1 (HO.lst (List.take k (List.map V.str (words z))))) u2 (HO.lst [V.str wh])) u3 (HO.lst (List.take k (List.map V.str (words z)) ++ [V.str wh]))) u4 (HO.lst (List.take (j - (k + 1)) (List.drop (k + 1) (List.map V.str (words z)))))) u5 (HO.lst (L1.map V.str))) = H8 at k8 b8 h8 v5 ⊢
      clear hu1 hu2 hu3 hu4 hu5 v3
      have kp8 : Kp a H H8 := fun c o e n => k8 _ _ (kp7 _ _ e n) n
      walk_at "go"
      refine r_ixL (SqL.of h8) (atI_nat (by rw [List.getElem?_map, hwl2]; rfl)) ?_
      walk_at "go"
      rename_i u6 hu6 u7 hu7 u8 hu8
      have eL2 : L1.map V.str ++ [V.str wl] ++ ((words z).map V.str).drop (j + 1) = (L1 ++ [wl] ++ (words z).drop (j + 1)).map V.str := by
        rw [List.map_append, List.map_append, List.map_drop]
        rfl
      have lL2 : (L1 ++ [wl] ++ (words z).drop (j + 1)).length ≤ (words z).length := by
        rw [List.length_append, List.length_append, List.length_drop, List.length_singleton]
        omega
      have mL2 : ∀ w ∈ L1 ++ [wl] ++ (words z).drop (j + 1), w ∈ words z := fun w hw => by
        rcases List.mem_append.mp hw with h | h
        · rcases List.mem_append.mp h with h | h
          · exact mL1 w h
          · rw [List.mem_singleton.mp h]; exact List.mem_of_getElem? hwl2
        · exact List.mem_of_mem_drop h
      have nL2 : L1 ++ [wl] ++ (words z).drop (j + 1) ≠ [] := by simp
      rw [show (((j : Nat) : Int) + 1) = ((j + 1 : Nat) : Int) from rfl, cutV_from]
      refine r_cat (upd_at upd_same (ne_of_none upd_same hu8)) upd_same (sz (by rw [List.length_append, List.length_drop, List.length_map, List.length_map, List.length_singleton]; omega)) fun u9 hu9 => ?_
      rw [eL2]
      generalize L1 ++ [wl] ++ (words z).drop (j + 1) = L2 at lL2 mL2 nL2 ⊢
      have sb := sum_bound (B := 4000) L2 fun s hs => by have := word_len (mL2 s hs); omega
      have jl := join_ln (ps := L2) (fun w hw => words_free (mL2 w hw)) nL2
      have sb2 : L2.length * 4000 ≤ 21 * 4000 := Nat.mul_le_mul_right _ (by omega)
      refine r_join (ys := L2) (SqL.of upd_same) (by rw [n4]; omega) ?_
      refine q _ _ (fit_of (by show (cds (Txt.join sp1 L2)).length ≤ _; omega) (by show (cds (Txt.join sp1 L2)).count 32 ≤ _; omega)) (by walk_at "bx") fun c o e n => ?_
      have e8 := kp8 _ _ e n
      walk_at "hp"
    · have hkj : ¬ (k : Int) < j := fun e => ck (decide_eq_true e)
      walk_at "go"
      rename_i t ht
      have bx7 : Bx (upd H6 t (HO.tup [V.int (j : Nat), V.int (k : Nat)])) a b := bx6.upd (bx6.ne ht)
      have kp7 : Kp a H (upd H6 t (HO.tup [V.int (j : Nat), V.int (k : Nat)])) := fun c o e n => upd_at (kp6' _ _ e n) (ne_of_none (kp6' _ _ e n) ht)
      have h7 : upd H6 t (HO.tup [V.int (j : Nat), V.int (k : Nat)]) p = some (.lst ((words z).map V.str)) := upd_at h6 (ne_of_none h6 ht)
      generalize upd H6 t (HO.tup [V.int (j : Nat), V.int (k : Nat)]) = H7 at bx7 kp7 h7 ⊢
      clear ht
      refine ite2 (fun ce => ?_) (fun ce => ?_)
      · walk_at "go"
        refine r_catS (by omega) ?_
        walk_at "go"
        refine r_catS (by rw [Str.length_append]; omega) ?_
        exact dbl H7 bx7 kp7
      have hne : j < k := by
        have : j ≠ k := fun e => ce (decide_eq_true (by rw [e]))
        omega
      walk_at "go"
      obtain ⟨wl, hwl2⟩ : ∃ wl, (words z)[j]? = some wl := ⟨_, List.getElem?_eq_getElem (by omega)⟩
      obtain ⟨wh, hwh⟩ : ∃ wh, (words z)[k]? = some wh := ⟨_, List.getElem?_eq_getElem (by omega)⟩
      rename_i u1 hu1
      rw [cutV_to, ← List.map_take]
      have l1 : ((words z).take j).length = j := by rw [List.length_take]; omega
      refine r_ixL (SqL.of (upd_at h7 (ne_of_none h7 hu1))) (atI_nat (by rw [List.getElem?_map, hwh]; rfl)) ?_
      walk_at "go"
      rename_i u2 hu2 u3 hu3 u4 hu4
      have hP : ∃ L1 : List Str, ((words z).map V.str).take j ++ [V.str wh] ++ ((((words z).map V.str).drop (j + 1)).take (k - (j + 1))) = L1.map V.str ∧ L1.length ≤ k ∧ ∀ w ∈ L1, w ∈ words z := by
        refine ⟨(words z).take j ++ [wh] ++ (((words z).drop (j + 1)).take (k - (j + 1))), ?_, ?_, fun w hw => ?_⟩
        · rw [List.map_append, List.map_append, List.map_take, List.map_take, List.map_drop]
          rfl
        · rw [List.length_append, List.length_append, List.length_take, List.length_take, List.length_drop, List.length_singleton]
          omega
        · rcases List.mem_append.mp hw with h | h
          · rcases List.mem_append.mp h with h | h
            · exact List.mem_of_mem_take h
            · rw [List.mem_singleton.mp h]; exact List.mem_of_getElem? hwh
          · exact List.mem_of_mem_drop (List.mem_of_mem_take h)
      obtain ⟨L1, eL1, lL1, mL1⟩ := hP
      rw [show (((j : Nat) : Int) + 1) = ((j + 1 : Nat) : Int) from rfl, cutV_mid]
      simp only [List.map_take] at hu2 hu3 hu4 ⊢
      have v3 : ∀ o, (upd (upd (upd (upd H7 u1 (HO.lst (List.take j (List.map V.str (words z))))) u2 (HO.lst [V.str wh])) u3 (HO.lst (List.take j (List.map V.str (words z)) ++ [V.str wh]))) u4 o) u3 = some (.lst (List.take j (List.map V.str (words z)) ++ [V.str wh])) := fun o => upd_at upd_same (ne_of_none upd_same hu4)
      refine r_cat (v3 _) upd_same (sz (by rw [List.length_append, List.length_take, List.length_take, List.length_drop, List.length_map, List.length_singleton]; omega)) fun u5 hu5 => ?_
      rw [eL1]
      have k8 : Kp a H7 (upd (upd (upd (upd (upd H7 u1 (HO.lst (List.take j (List.map V.str (words z))))) u2 (HO.lst [V.str wh])) u3 (HO.lst (List.take j (List.map V.str (words z)) ++ [V.str wh]))) u4 (HO.lst (List.take (k - (j + 1)) (List.drop (j + 1) (List.map V.str (words z)))))) u5 (HO.lst (L1.map V.str))) := fun c o e n => by walk_at "hp"
      have b8 : Bx (upd (upd (upd (upd (upd H7 u1 (HO.lst (List.take j (List.map V.str (words z))))) u2 (HO.lst [V.str wh])) u3 (HO.lst (List.take j (List.map V.str (words z)) ++ [V.str wh]))) u4 (HO.lst (List.take (k - (j + 1)) (List.drop (j + 1) (List.map V.str (words z)))))) u5 (HO.lst (L1.map V.str))) a b := by walk_at "bx"
      have h8 := k8 _ _ h7 (fun e => npa e.symm)
      have v5 : (upd (upd (upd (upd (upd H7 u1 (HO.lst (List.take j (List.map V.str (words z))))) u2 (HO.lst [V.str wh])) u3 (HO.lst (List.take j (List.map V.str (words z)) ++ [V.str wh]))) u4 (HO.lst (List.take (k - (j + 1)) (List.drop (j + 1) (List.map V.str (words z)))))) u5 (HO.lst (L1.map V.str))) u5 = some (.lst (L1.map V.str)) := upd_same
      generalize (upd (upd (upd (upd (upd H7 u1 (HO.lst (List.take j (List.map V.str (words z))))) u2 (HO.lst [V.str wh])) u3 (HO.lst (List.take j (List.map V.str (words z)) ++ [V.str wh]))) u4 (HO.lst (List.take (k - (j + 1)) (List.drop (j + 1) (List.map V.str (words z)))))) u5 (HO.lst (L1.map V.str))) = H8 at k8 b8 h8 v5 ⊢
      clear hu1 hu2 hu3 hu4 hu5 v3
      have kp8 : Kp a H H8 := fun c o e n => k8 _ _ (kp7 _ _ e n) n
      walk_at "go"
      refine r_ixL (SqL.of h8) (atI_nat (by rw [List.getElem?_map, hwl2]; rfl)) ?_
      walk_at "go"
      rename_i u6 hu6 u7 hu7 u8 hu8
      have eL2 : L1.map V.str ++ [V.str wl] ++ ((words z).map V.str).drop (k + 1) = (L1 ++ [wl] ++ (words z).drop (k + 1)).map V.str := by
        rw [List.map_append, List.map_append, List.map_drop]
        rfl
      have lL2 : (L1 ++ [wl] ++ (words z).drop (k + 1)).length ≤ (words z).length := by
        rw [List.length_append, List.length_append, List.length_drop, List.length_singleton]
        omega
      have mL2 : ∀ w ∈ L1 ++ [wl] ++ (words z).drop (k + 1), w ∈ words z := fun w hw => by
        rcases List.mem_append.mp hw with h | h
        · rcases List.mem_append.mp h with h | h
          · exact mL1 w h
          · rw [List.mem_singleton.mp h]; exact List.mem_of_getElem? hwl2
        · exact List.mem_of_mem_drop h
      have nL2 : L1 ++ [wl] ++ (words z).drop (k + 1) ≠ [] := by simp
      rw [show (((k : Nat) : Int) + 1) = ((k + 1 : Nat) : Int) from rfl, cutV_from]
      refine r_cat (upd_at upd_same (ne_of_none upd_same hu8)) upd_same (sz (by rw [List.length_append, List.length_drop, List.length_map, List.length_map, List.length_singleton]; omega)) fun u9 hu9 => ?_
      rw [eL2]
      generalize L1 ++ [wl] ++ (words z).drop (k + 1) = L2 at lL2 mL2 nL2 ⊢
      have sb := sum_bound (B := 4000) L2 fun s hs => by have := word_len (mL2 s hs); omega
      have jl := join_ln (ps := L2) (fun w hw => words_free (mL2 w hw)) nL2
      have sb2 : L2.length * 4000 ≤ 21 * 4000 := Nat.mul_le_mul_right _ (by omega)
      refine r_join (ys := L2) (SqL.of upd_same) (by rw [n4]; omega) ?_
      refine q _ _ (fit_of (by show (cds (Txt.join sp1 L2)).length ≤ _; omega) (by show (cds (Txt.join sp1 L2)).count 32 ≤ _; omega)) (by walk_at "bx") fun c o e n => ?_
      have e8 := kp8 _ _ e n
      walk_at "hp"
end
end My

namespace My
open PySem L2
local macro_rules | `(tactic| walk_at "bx1") => `(tactic| first | with_reducible assumption | ((with_reducible refine' Bx.upd ?h1 ?h2); (case h1 => walk_at "bx1"); (case h2 => walk_at "ne")) | ((with_reducible refine' Bx.same ?h1 (by with_reducible assumption)); (case h1 => walk_at "bx1")))
local macro_rules | `(tactic| walk_at "bx") => `(tactic| (refine' Bx.mono ?h1 ?h2; (case h1 => walk_at "bx1"); (case h2 => omega)))
local macro_rules | `(tactic| walk_at "ne") => `(tactic| first | with_reducible assumption | exact Ne.symm (by with_reducible assumption) | ((with_reducible refine' ne_of_none ?h1 (by with_reducible assumption)); (case h1 => walk_at "hp")) | ((with_reducible refine' Ne.symm (ne_of_none ?h1 (by with_reducible assumption))); (case h1 => walk_at "hp")) | ((with_reducible refine' Bx.ne ?h1 (by with_reducible assumption)); (case h1 => walk_at "bx1")) | ((with_reducible refine' Ne.symm (Bx.ne ?h1 (by with_reducible assumption))); (case h1 => walk_at "bx1")))
local macro_rules | `(tactic| walk_at "hp") => `(tactic| first | with_reducible assumption | ((with_reducible refine' (upd_same.trans ?h1)); (case h1 => rfl)) | ((with_reducible refine' My.upd_at ?h1 ?h2); (case h1 => walk_at "hp"); (case h2 => walk_at "ne")) | ((with_reducible refine' My.Kp.at (by with_reducible assumption) ?h1 ?h2); (case h1 => walk_at "hp"); (case h2 => walk_at "ne")) | ((with_reducible refine' My.Same.at (by with_reducible assumption) ?h1); (case h1 => walk_at "hp")))
local macro_rules | `(tactic| walk_at "sq") => `(tactic| first | with_reducible assumption | exact SqL.of (by walk_at "hp") | exact SqT.of (by walk_at "hp") | ((with_reducible refine' My.SqT.upd ?h1 (by with_reducible assumption)); (case h1 => walk_at "sq")) | ((with_reducible refine' My.SqL.upd ?h1 (by with_reducible assumption)); (case h1 => walk_at "sq")) | ((with_reducible refine' Same.seq (by with_reducible assumption) ?h1); (case h1 => walk_at "sq")) | ((with_reducible refine' My.SqT.same ?h1 (by with_reducible assumption)); (case h1 => walk_at "sq")) | ((with_reducible refine' My.SqT.kp ?h1 (by with_reducible assumption) ?h2); (case h1 => walk_at "sq"); (case h2 => walk_at "bx1")) | ((with_reducible refine' My.SqL.kp ?h1 (by with_reducible assumption) ?h2); (case h1 => walk_at "sq"); (case h2 => walk_at "ne")))
local macro_rules | `(tactic| walk_at "sd") => `(tactic| first | assumption | omega | decide | (refine ⟨?_, ?_⟩ <;> (first | omega | decide)) | (refine Or.inl ⟨?_, ?_⟩ <;> (first | omega | decide)) | (refine Or.inr ⟨?_, ?_⟩ <;> (first | omega | decide)) | (refine ⟨?_, ?_, ?_⟩ <;> (first | omega | decide)))
local macro_rules | `(tactic| walk_at "ps") => `(tactic| first
  | with_reducible refine r_seq ?_ | with_reducible refine r_asg ?_ | with_reducible refine r_op ?_ | with_reducible refine r_cons ?_ | with_reducible refine r_nil ?_ | with_reducible refine r_c ?_
  | with_reducible refine' r_var rfl ?_ | with_reducible refine r_gname ?_ | with_reducible refine r_cb ?_ | with_reducible refine r_I0 ?_ | with_reducible refine r_ret ?_ | with_reducible refine r_ifS ?_ | with_reducible refine r_test ?_ | with_reducible refine r_B ?_
  | with_reducible refine r_next ?_ | with_reducible refine r_drop ?_ | with_reducible refine r_if ?_ | with_reducible refine r_un ?_ | with_reducible refine r_U ?_ | with_reducible refine r_gsub ?_ | with_reducible refine r_tup ?_ | with_reducible refine r_lst ?_ | with_reducible refine r_bm ?_
  | with_reducible refine r_cal ?_ | with_reducible refine r_not ?_ | with_reducible refine r_and ?_ | with_reducible refine r_or ?_ | with_reducible refine r_andV ?_ | with_reducible refine r_orV ?_ | with_reducible refine r_notV ?_
  | with_reducible refine r_abs ?_ | with_reducible refine r_intI ?_ | with_reducible refine r_intB ?_ | with_reducible refine r_m1 ?_ | with_reducible refine r_slice ?_ | with_reducible refine r_part ?_ | with_reducible refine r_nopart ?_
  | with_reducible refine r_gcons ?_ | with_reducible refine r_gnil ?_
  | with_reducible refine r_par ?_ | with_reducible refine r_par3 ?_ | with_reducible refine r_ex2 ?_ | with_reducible refine r_ex3 ?_
  | with_reducible refine r_isN ?_ | with_reducible refine r_notN ?_
  | with_reducible refine r_iZipA ?_
  | with_reducible refine r_dget ?_ | with_reducible refine r_dget2 ?_ | with_reducible refine r_iKeys ?_ | with_reducible refine r_dput ?_
  | with_reducible refine r_for ?_ | with_reducible refine r_lc ?_ | with_reducible refine r_iList ?_ | with_reducible refine r_iTup ?_ | with_reducible refine r_iRng1 ?_ | with_reducible refine r_iEnum ?_ | with_reducible refine r_orT ?_ | with_reducible refine r_yes ?_ | with_reducible refine r_ixSl ?_)
local macro_rules | `(tactic| walk_at "st") => `(tactic| first
  | walk_at "ps"
  | ((with_reducible refine' r_ixL ?h1 ?h2 ?_); (case h1 => walk_at "sq"); (case h2 => rfl))
  | ((with_reducible refine' r_setL ?h1 ?h2 ?_); (case h1 => walk_at "hp"); (case h2 => rfl))
  | ((with_reducible refine' r_I ?h1 ?_); (case h1 => walk_at "sd"))
  | ((with_reducible refine' r_eq ?h1 ?_); (case h1 => rfl)) | ((with_reducible refine' r_ne ?h1 ?_); (case h1 => rfl))
  | ((with_reducible refine' r_lenL ?h1 ?_); (case h1 => walk_at "sq")) | ((with_reducible refine' r_lenT ?h1 ?_); (case h1 => walk_at "sq")) | ((with_reducible refine' r_lenD ?h1 ?_); (case h1 => walk_at "hp"))
  | ((with_reducible refine' r_slL ?h1 ?_); (case h1 => walk_at "sq"); intro _ _)
  | ((with_reducible refine' r_append ?h1 ?h2 ?_); (case h1 => walk_at "hp"); (case h2 => exact szl (by first | omega | (simp; omega))))
  | ((with_reducible refine' r_gtup ?h1 ?h2 ?_); (case h1 => walk_at "sq"); (case h2 => rfl))
  | ((with_reducible refine' r_cat ?h1 ?h2 ?h3 ?_); (case h1 => walk_at "hp"); (case h2 => walk_at "hp"); (case h3 => exact sz (by first | omega | (simp; omega))); intro _ _)
  | ((with_reducible refine' r_wLst ?h1 ?_); (case h1 => walk_at "sq")) | ((with_reducible refine' r_wTup ?h1 ?_); (case h1 => walk_at "sq"))
  | ((with_reducible refine' r_wRng ?h1 ?_); (case h1 => walk_at "sd"))
  | ((with_reducible refine' r_truL ?h1 ?_); (case h1 => walk_at "sq"))
  | ((with_reducible refine' r_list (Or.inl ?h1) ?_); (case h1 => walk_at "sq"); intro _ _) | ((with_reducible refine' r_list (Or.inr ?h1) ?_); (case h1 => walk_at "sq"); intro _ _)
  | ((with_reducible refine' r_tupL ?h1 ?_); (case h1 => walk_at "sq"); intro _ _) | ((with_reducible refine' r_tupT ?h1 ?_); (case h1 => walk_at "sq"))
  | ((with_reducible refine' r_disp ?h1 ?_); (case h1 => exact Nat.le_of_ble_eq_true rfl); intro _ _)
  | ((with_reducible refine r_dnewK ?_); intro _ _)
  | ((with_reducible refine' r_tyL ?h1 ?_); (case h1 => walk_at "sq")) | with_reducible refine r_strV ?_
  | with_reducible refine r_exb ?_ | with_reducible refine r_exi ?_ | with_reducible refine r_exr ?_ | with_reducible refine r_exs ?_ | with_reducible refine r_exli ?_)
local macro_rules | `(tactic| walk_at "go") => `(tactic| repeat walk_at "st")
local macro_rules | `(tactic| walk_at "in") => `(tactic| dsimp only [noxK, cxK, L2.start, List.map_cons, List.map_nil, List.length_cons, List.length_nil, Nat.reduceAdd, Nat.reduceSub, List.replicate, List.cons_append, List.nil_append])

section
variable {P : Program} {w : World} {K : PySem.W.Frag} {mg : Str → Option Value} {base : Heap} {C CB CS CO CN : Addr}
abbrev sRight : Stmt := top 31
theorem scRight : FnScope ["_law_box_here", "_law_turn", "_law_long_so", "_law_some", "_law_got", "_law_line_so", "_law_less", "_law_again", "_law_bare", "_law_names_here", "_law_bound", "_law_bent_here", "_law_own"] ["_law_box_here"] (defScope sRight) := ⟨rfl, rfl, rfl, by decide +kernel, rfl, by decide +kernel, by decide +kernel⟩
theorem sm_lst {K : PySem.W.Frag} {n : Nat} {H : Hp} {a b : Addr} {xs ys : List V} (h1 : H a = some (.lst xs)) (h2 : H b = some (.lst ys)) (e : xs.length = ys.length) (hl : xs.length ≤ 1000) (h : ∀ (i : Nat) (u v : V), xs[i]? = some u → ys[i]? = some v → Sm K n u v H) : Sm K (n + 1) (.ref a) (.ref b) H := Or.inr (Or.inl ⟨a, b, xs, ys, rfl, rfl, h1, h2, e, hl, h⟩)
theorem sm_tupl {K : PySem.W.Frag} {n : Nat} {H : Hp} {a b : Addr} {xs ys : List V} (h1 : H a = some (.tup xs)) (h2 : H b = some (.tup ys)) (e : xs.length = ys.length) (hl : xs.length ≤ 1000) (h : ∀ (i : Nat) (u v : V), xs[i]? = some u → ys[i]? = some v → Sm K n u v H) : Sm K (n + 1) (.ref a) (.ref b) H := Or.inr (Or.inr ⟨a, b, xs, ys, rfl, rfl, h1, h2, e, hl, h⟩)
theorem sm_sc {K : PySem.W.Frag} {n : Nat} {H : Hp} {x y : V} (e : x = y) (h : x = .non ∨ (∃ b, x = .bl b) ∨ (∃ i, x = .int i) ∨ ∃ s, x = .str s) : Sm K (n + 1) x y H := Or.inl ⟨e, h⟩
theorem sm_int {K : PySem.W.Frag} {n : Nat} {H : Hp} {i j : Int} (e : i = j) : Sm K (n + 1) (.int i) (.int j) H := Or.inl ⟨by rw [e], Or.inr (Or.inr (Or.inl ⟨_, rfl⟩))⟩
theorem sm_bl {K : PySem.W.Frag} {n : Nat} {H : Hp} {i j : Bool} (e : i = j) : Sm K (n + 1) (.bl i) (.bl j) H := Or.inl ⟨by rw [e], Or.inr (Or.inl ⟨_, rfl⟩)⟩
theorem sm_str {K : PySem.W.Frag} {n : Nat} {H : Hp} {i j : Str} (e : i = j) : Sm K (n + 1) (.str i) (.str j) H := Or.inl ⟨by rw [e], Or.inr (Or.inr (Or.inr ⟨_, rfl⟩))⟩
theorem sm_flat {K : PySem.W.Frag} {n : Nat} {H : Hp} {a b : Addr} {xs ys : List V} (h1 : H a = some (.lst xs)) (h2 : H b = some (.lst ys)) (e : xs = ys) (hl : xs.length ≤ 1000) (h : ∀ x ∈ xs, x = .non ∨ (∃ b, x = .bl b) ∨ (∃ i, x = .int i) ∨ ∃ s, x = .str s) : Sm K (n + 2) (.ref a) (.ref b) H := by
  subst e
  refine sm_lst h1 h2 rfl hl fun i u v hu hv => ?_
  rw [hu] at hv
  cases hv
  exact sm_sc rfl (h _ (List.mem_of_getElem? hu))
theorem sm_prs {K : PySem.W.Frag} {n : Nat} {H : Hp} {a b : Addr} {xs ys : List V} {qs : AL} (h1 : H a = some (.tup xs)) (h2 : H b = some (.tup ys)) (p1 : Paired (PrA H) xs qs) (p2 : Paired (PrA H) ys qs) (hl : qs.length ≤ 1000) : Sm K (n + 3) (.ref a) (.ref b) H := by
  have l1 := Paired.len p1
  have l2 := Paired.len p2
  refine sm_tupl h1 h2 (by omega) (by omega) fun i u v hu hv => ?_
  obtain ⟨r, hr, t, rfl, ht⟩ := Paired.at p1 hu
  obtain ⟨r', hr', t', rfl, ht'⟩ := Paired.at p2 hv
  rw [hr] at hr'
  cases hr'
  refine sm_tupl ht ht' rfl (by simp) fun i u v hu hv => ?_
  rw [hu] at hv
  cases hv
  have := List.mem_of_getElem? hu
  simp at this
  rcases this with z | z
  · exact Or.inl ⟨rfl, Or.inr (Or.inr (Or.inr ⟨_, z⟩))⟩
  · exact Or.inl ⟨rfl, Or.inr (Or.inr (Or.inl ⟨_, z⟩))⟩
theorem at2 {a b a' b' : V} {R : V → V → Prop} (h1 : R a a') (h2 : R b b') (i : Nat) (u v : V) (hu : [a, b][i]? = some u) (hv : [a', b'][i]? = some v) : R u v := by
  match i, hu, hv with
  | 0, hu, hv => cases hu; cases hv; exact h1
  | 1, hu, hv => cases hu; cases hv; exact h2
  | n + 2, hu, hv => simp at hu
theorem at4 {a b c d a' b' c' d' : V} {R : V → V → Prop} (h1 : R a a') (h2 : R b b') (h3 : R c c') (h4 : R d d') (i : Nat) (u v : V) (hu : [a, b, c, d][i]? = some u) (hv : [a', b', c', d'][i]? = some v) : R u v := by
  match i, hu, hv with
  | 0, hu, hv => cases hu; cases hv; exact h1
  | 1, hu, hv => cases hu; cases hv; exact h2
  | 2, hu, hv => cases hu; cases hv; exact h3
  | 3, hu, hv => cases hu; cases hv; exact h4
  | n + 4, hu, hv => simp at hu
theorem drawn_ok {ps m qs : AL} {ls : List Str} (hk : keys ps = ls) (nl : ls.Nodup) (kl : ∀ s ∈ ls, KindS s) (hb : ∀ p ∈ ps, 0 ≤ p.2 ∧ p.2 < 1000000000000) (nd : (keys m).Nodup) (hg : ∀ k, get m k = tot ps k) (sub : ∀ k ∈ keys m, k ∈ keys ps) (cn : Cn m qs) :
    (∀ p ∈ qs, 0 < p.2 ∧ p.2 < 1000000000000 ∧ KindS p.1) ∧ (keys qs).Pairwise (fun a b => cds a < cds b) ∧ (keys qs).Nodup := by
  have nk : (keys ps).Nodup := by rw [hk]; exact nl
  have hm : ∀ p ∈ qs, p ∈ m ∧ 0 < p.2 := fun p hp => by
    have := List.mem_filter.mp (cn.1.mem_iff.mp hp)
    exact ⟨this.1, of_decide_eq_true this.2⟩
  have nq : (keys qs).Nodup := by
    have h1 : (keys qs).Perm (keys (pos m)) := cn.1.map _
    refine h1.nodup_iff.mpr ?_
    exact nd.sublist (List.Sublist.map _ List.filter_sublist)
  refine ⟨fun p hp => ?_, ?_, nq⟩
  · obtain ⟨h1, h2⟩ := hm p hp
    have e1 : get m p.1 = p.2 := by unfold get; rw [(look_mem nd).mpr (show (p.1, p.2) ∈ m from h1)]; rfl
    have hkp := sub p.1 (List.mem_map.mpr ⟨p, h1, rfl⟩)
    rw [hg, tot_nodup p.1 nk] at e1
    obtain ⟨r, hr, er⟩ := List.mem_map.mp hkp
    have e2 : get ps p.1 = r.2 := by unfold get; rw [← er, (look_mem nk).mpr (show (r.1, r.2) ∈ ps from hr)]; rfl
    have := hb r hr
    refine ⟨h2, by omega, kl p.1 ?_⟩
    rw [← hk]
    exact hkp
  · unfold keys at nq ⊢
    rw [List.pairwise_map]
    have n2 := List.pairwise_map.mp nq
    refine (List.Pairwise.and cn.2 n2).imp fun {x y} z => ?_
    have h1 := z.1
    replace h1 : (if x.1 = y.1 then _ else sle x.1 y.1) = true := h1
    rw [if_neg z.2] at h1
    exact sle_lt h1 z.2
theorem paired_perm {H : Hp} {ys xs : List V} (p : ys.Perm xs) : ∀ {ps : AL}, Paired (PrA H) xs ps → ∃ ps' : AL, ps'.Perm ps ∧ Paired (PrA H) ys ps' := by
  induction p with
  | nil => exact fun {ps} h => ⟨ps, .refl _, h⟩
  | cons x _ ih =>
    intro ps h
    match ps, h with
    | k :: r, .cons e h =>
      obtain ⟨ks', p', h'⟩ := ih h
      exact ⟨k :: ks', p'.cons k, .cons e h'⟩
  | swap x y l =>
    intro ps h
    match ps, h with
    | k :: j :: r, .cons e (.cons e2 h) => exact ⟨j :: k :: r, .swap k j r, .cons e2 (.cons e h)⟩
  | trans _ _ i1 i2 =>
    intro ps h
    obtain ⟨k1, p1, h1⟩ := i2 h
    obtain ⟨k2, p2, h2⟩ := i1 h1
    exact ⟨k2, p2.trans p1, h2⟩
theorem line_ok {qs : AL} (lq : qs.length ≤ 6) (dq : ∀ p ∈ qs, 0 < p.2 ∧ p.2 < 1000000000000 ∧ KindS p.1) (up : (keys qs).Pairwise fun a b => cds a < cds b) :
    Reads (ttx qs) qs ∧ (cds (ttx qs)).length ≤ 4000 ∧ (cds (ttx qs)).count 32 ≤ 20 := by
  unfold ttx
  by_cases h : qs = []
  · subst h
    exact ⟨⟨.inl ⟨rfl, rfl⟩⟩, by decide +kernel, by decide +kernel⟩
  rw [if_neg h]
  have e20 : (10 : Int) ^ 20 = 100000000000000000000 := by decide
  have h20 : ∀ p ∈ qs, 0 < p.2 ∧ p.2 < 10 ^ 20 := fun p hp => ⟨(dq p hp).1, by have := (dq p hp).2.1; omega⟩
  have hk : ∀ p ∈ qs, KindS p.1 := fun p hp => (dq p hp).2.2
  have rd := reads_ltx h h20 hk up
  have hw := words_ltx h (fun p hp => (dq p hp).1) hk
  have l1 := words_len (ltx qs)
  have l2 := words_sum (ltx qs)
  rw [hw, flat2_len] at l1
  rw [hw] at l2
  have sb := sum_bound (B := 300) (flat qs) fun s hs => by
    have ev : s ∈ evs (flat qs) ∨ s ∈ ods (flat qs) := by
      rw [evs_flat, ods_flat]
      clear rd hw l1 l2 h h20 hk up dq lq
      induction qs with
      | nil => cases hs
      | cons p r ih =>
        rcases List.mem_cons.mp hs with z | z
        · exact .inl (by rw [z]; exact List.mem_cons_self)
        · rcases List.mem_cons.mp z with z | z
          · exact .inr (by rw [z]; exact List.mem_cons_self)
          · exact (ih z).imp (fun y => List.mem_cons_of_mem _ y) fun y => List.mem_cons_of_mem _ y
    rcases ev with z | z
    · rw [evs_flat] at z
      obtain ⟨p, hp, rfl⟩ := List.mem_map.mp z
      have := (many_num (h20 p hp).1 (h20 p hp).2).1.2.1
      rw [len_cds]
      exact this
    · rw [ods_flat] at z
      obtain ⟨p, hp, rfl⟩ := List.mem_map.mp z
      have := (hk p hp).2.1
      rw [len_cds]
      omega
  rw [flat2_len] at sb
  rw [← len_cds]
  exact ⟨rd, by omega, by omega⟩
theorem bad_len : ∀ z ∈ badTexts, (cds z).length ≤ 100 ∧ (cds z).count 32 ≤ 50 := by decide +kernel
theorem bad_fit {z : Str} (h : z ∈ badTexts) : Fit z := fit_of (by have := (bad_len z h).1; omega) (bad_len z h).2
theorem nines_fit {t : Str} (h : (cds t).length ≤ 10) : Fit (nines ++ t) := by
  have hc : (cds t).count 32 ≤ (cds t).length := List.count_le_length
  have h0 : (List.replicate 300 57).count 32 = 0 := by decide +kernel
  refine fit_of ?_ ?_
  · rw [cds_app, nines_cds, List.length_append, List.length_replicate]
    omega
  · rw [cds_app, nines_cds, List.count_append, h0]
    omega
theorem nines_len : nines.length = 300 := by rw [len_cds, nines_cds, List.length_replicate]
theorem short_fit {t : Str} (h : (cds t).length ≤ 12) : Fit t := by
  have hc : (cds t).count 32 ≤ (cds t).length := List.count_le_length
  exact fit_of (by omega) (by omega)
theorem num_small : (num nines).natAbs < 2 ^ 1000 := by decide +kernel
def spRight : Sp := fun vs H Q _ => ∃ (a : Addr) (b : Nat), vs = [.ref a] ∧ Bx H a (b + 1000) ∧ ∀ H', Kp a H H' → Q (.bl true) H'
section
variable {t0 : Addr}
theorem ok_right {f : Addr} {fd : FuncData} (F : Fun K "_law_right" "_law_right" sRight f fd) (T : Txt K mg) (L : TxL K C) (gC : mg "Lot" = some (.ref C))
    (Ct : Cal P w K mg base CX0 1 "_law_take" ["_law_box_here", "_law_below"] spTake) (Co : Cal P w K mg base CX0 2 "_law_of" ["_law_box_here", "_law_some"] spOf) (Cna : Cal P w K mg base CX0 3 "_law_names" ["_law_box_here", "_law_some"] spNames)
    (Cp : Cal P w K mg base CX0 2 "_law_pairs" ["_law_numbers_so"] spPairs) (Cc : Cal P w K mg base CX0 1 "_law_counted" ["_law_pairs_so"] (spCounted K)) (Cx : Cal P w K mg base CX0 1 "_law_text" ["_law_pairs_so"] (spLText K))
    (Cs : Cal P w K mg base CX0 5 "_law_same" ["_law_got", "_law_due"] (spSame K 5)) (Cm : Cal P w K mg base CX0 2 "_law_mixed" ["_law_box_here", "_law_rows_so"] (spMixed K))
    (Ca : Cal P w K mg base CX0 5 "_law_asked" ["_law_line_so"] spLRead) (Cr : Cal P w K mg base CX0 2 "_law_read" ["_law_line_so"] spLRead) (Cb : Cal P w K mg base CX0 3 "_law_bent" ["_law_box_here", "_law_line_so"] spBent)
    (Cf : CCal P w K mg base (CX P w) 4 C "of" ["cls", "text"] ["text"] (spLotOf C CN)) (Om : OMk P w K mg base CX0 2 C "Lot" ["self", "pairs"] (spLotInit K C)) (OmT : OMk P w K mg base CX0 2 C "Lot" ["self", "pairs"] (spLotInitT K C)) (Ot : OCal P w K mg base CX0 3 C "text" ["self"] (spLotText C))
    (Oe : OCal P w K mg base CX0 1 C "__eq__" ["self", "other"] (spLotEq C)) (Oi : OCal P w K mg base CX0 3 C "__iadd__" ["self", "other"] (spLotIadd C)) (Ost : OCal P w K mg base (CX P w) 3 C "__setitem__" ["self", "at", "worth"] (spLotSet C CB)) : FnOk P w K mg base CX0 7 f fd ["_law_box_here"] spRight := by
  refine F.ok scRight (fun vs H Q E h => ?_) (fun cdv A outer s H vs Q E hr h => ?_)
  · obtain ⟨a, b, rfl, _⟩ := h
    rfl
  · obtain ⟨a, b, rfl, bx, q⟩ := h
    have hu := hu_of hr
    refine ⟨_, (pss_cons (ps_for PassesOwn.never rfl (pi_range1 rfl T.range (pa_cons pe_int pa_nil)) (pg_name (i := 1) scRight.nd rfl (Or.inl rfl))
  (pss_cons (ps_asg (pe_tup (pa_cons (pe_cal Cna (hr.mono (by decide)) pass0 (pa_cons (pv 0) (pa_cons pe_int pa_nil))) (pa_cons (pe_cal Co (hr.mono (by decide)) pass0 (pa_cons (pv 0) (pa_cons (pe_lst (pa_cons pe_int (pa_cons pe_int (pa_cons (pe_op op_pow pe_int pe_int) pa_nil)))) pa_nil))) pa_nil))) (pg_tup rfl (pgs_cons (pg_name (i := 9) scRight.nd rfl (Or.inl rfl)) (pgs_cons (pg_name (i := 10) scRight.nd rfl (Or.inr rfl)) pgs_nil))))
  (pss_cons (ps_setLc (i := 6) (own := [("_law_own", 12)]) (g := gName 12) rfl scRight.nd rfl rfl (sw_true rfl rfl rfl (by decide +kernel)) (pi_list (pv 9)) (blkOk_by (N := ["_law_box_here", "_law_turn", "_law_long_so", "_law_some", "_law_got", "_law_line_so", "_law_less", "_law_again", "_law_bare", "_law_names_here", "_law_bound", "_law_bent_here", "_law_own"]) (sc := defScope sRight) (by decide +kernel)) (fun _ _ _ _ _ => (pg_name (i := 12) scRight.nd rfl (Or.inl rfl))) (fun _ _ _ _ _ => (pts_one (pt_cmpR op_gt (pe_cal Ct (hr.mono (by decide)) pass0 (pa_cons (pv 0) (pa_cons pe_int pa_nil))) pe_int (nomark _)))) (fun _ _ _ _ _ => (pv 12)))
  (pss_cons (ps_set (i := 3) scRight.nd rfl (Or.inl rfl) (pe_cal Cp (hr.mono (by decide)) pass0 (pa_cons (pe_cal Cc (hr.mono (by decide)) pass0 (pa_cons (pe_lc (own := [("_law_own", 12)]) (g := gName 12) (tt := tYes) rfl scRight.nd (pi_list (pv 6)) (blkOk_by (N := ["_law_box_here", "_law_turn", "_law_long_so", "_law_some", "_law_got", "_law_line_so", "_law_less", "_law_again", "_law_bare", "_law_names_here", "_law_bound", "_law_bent_here", "_law_own"]) (sc := defScope sRight) (by decide +kernel)) (fun _ _ _ _ _ => (pg_name (i := 12) scRight.nd rfl (Or.inl rfl))) (fun _ _ _ _ _ => pts_nil) (fun _ _ _ _ _ => (pe_tup (pa_cons (pv 12) (pa_cons (pe_cal Ct (hr.mono (by decide)) pass0 (pa_cons (pv 0) (pa_cons (pv 10) pa_nil))) pa_nil))))) pa_nil)) pa_nil)))
  (pss_cons (ps_set (i := 5) scRight.nd rfl (Or.inl rfl) (pe_cal Cx (hr.mono (by decide)) pass0 (pa_cons (pv 3) pa_nil)))
  (pss_cons (ps_if (pt_not (pt_val (pe_cal Cs (hr.mono (by decide)) pass0 (pa_cons (pe_lst (pa_cons (pe_methO0 Ot L.oc.cl (hr.mono (by decide)) pass0 (pe_makeO Om (hr.mono (by decide)) pass0 (pa_cons (pe_cal Cm (hr.mono (by decide)) pass0 (pa_cons (pv 0) (pa_cons (pv 3) pa_nil))) pa_nil))) (pa_cons (pe_cal Ca (hr.mono (by decide)) pass0 (pa_cons (pv 5) pa_nil)) pa_nil))) (pa_cons (pe_lst (pa_cons (pv 5) (pa_cons (pv 3) pa_nil))) pa_nil)))))
  (pss_one (ps_ret pe_bl))
  pss_nil)
  (pss_cons (ps_if (pt_not (pt_cmpR (op_eqO Oe (hr.mono (by decide)) pass0) (pe_cmSK Cf (hr.mono (by decide)) (passTk takes_none5) (pe_glob (v := .ref C) (by rfl) gC rfl) (pk_cons (pv 5) pk_nil)) (pe_makeO OmT (hr.mono (by decide)) pass0 (pa_cons (pv 3) pa_nil)) (nomark _)))
  (pss_one (ps_ret pe_bl))
  pss_nil)
  (pss_one (ps_for PassesOwn.never rfl (pi_range1 rfl T.range (pa_cons pe_int pa_nil)) (pg_name (i := 7) scRight.nd rfl (Or.inl rfl))
  (pss_cons (ps_set (i := 11) scRight.nd rfl (Or.inl rfl) (pe_cal Cb (hr.mono (by decide)) pass0 (pa_cons (pv 0) (pa_cons (pv 5) pa_nil))))
  (pss_one (ps_if (pt_not (pt_val (pe_cal Cs (hr.mono (by decide)) pass0 (pa_cons (pe_cal Ca (hr.mono (by decide)) pass0 (pa_cons (pv 11) pa_nil)) (pa_cons (pe_cal Cr (hr.mono (by decide)) pass0 (pa_cons (pv 11) pa_nil)) pa_nil)))))
  (pss_one (ps_ret pe_bl))
  pss_nil))))))))))))
  (pss_cons (ps_set (i := 2) scRight.nd rfl (Or.inl rfl) (pe_op op_mulS pe_str pe_int))
  (pss_cons (ps_set (i := 3) scRight.nd rfl (Or.inl rfl) (pe_lst (pa_cons pe_str (pa_cons pe_str (pa_cons pe_str (pa_cons pe_str (pa_cons pe_str (pa_cons pe_str (pa_cons pe_str (pa_cons pe_str (pa_cons pe_str (pa_cons pe_str pa_nil))))))))))))
  (pss_cons (ps_if (pt_cmpR (op_neD (hu64 hr)) (pe_lc (own := [("_law_line_so", 5)]) (g := gName 5) rfl scRight.nd (pi_list (pv 3)) (blkOk_by (N := ["_law_box_here", "_law_turn", "_law_long_so", "_law_some", "_law_got", "_law_line_so", "_law_less", "_law_again", "_law_bare", "_law_names_here", "_law_bound", "_law_bent_here", "_law_own"]) (sc := defScope sRight) (by decide +kernel)) (fun _ _ _ _ _ => (pg_name (i := 5) scRight.nd rfl (Or.inl rfl))) (fun _ _ _ _ _ => (pts_one (pt_cmpR o_notN (pe_cal Ca (hr.mono (by decide)) pass0 (pa_cons (pv 5) pa_nil)) pe_non (nomark _)))) (fun _ _ _ _ _ => (pv 5))) (pe_lst pa_nil) (nomark _))
  (pss_one (ps_ret pe_bl))
  pss_nil)
  (pss_cons (ps_set (i := 4) scRight.nd rfl (Or.inl rfl) (pe_lst (pa_cons (pe_cal Ca (hr.mono (by decide)) pass0 (pa_cons (pe_op o_catS (pv 2) pe_str) pa_nil)) (pa_cons (pe_cal Ca (hr.mono (by decide)) pass0 (pa_cons (pe_op o_catS (pv 2) pe_str) pa_nil)) (pa_cons (pe_cal Ca (hr.mono (by decide)) pass0 (pa_cons pe_str pa_nil)) (pa_cons (pe_cal Ca (hr.mono (by decide)) pass0 (pa_cons pe_str pa_nil)) pa_nil))))))
  (pss_cons (ps_if (pt_not (pt_val (pe_cal Cs (hr.mono (by decide)) pass0 (pa_cons (pv 4) (pa_cons (pe_lst (pa_cons (pe_cal Cr (hr.mono (by decide)) pass0 (pa_cons (pe_op o_catS (pv 2) pe_str) pa_nil)) (pa_cons pe_non (pa_cons (pe_tup (pa_cons (pe_tup (pa_cons pe_str (pa_cons pe_int pa_nil))) pa_nil)) (pa_cons pe_non pa_nil))))) pa_nil)))))
  (pss_one (ps_ret pe_bl))
  pss_nil)
  (pss_cons (ps_for PassesOwn.never rfl (pi_list (pe_lst (pa_cons pe_str (pa_cons pe_str pa_nil)))) (pg_name (i := 5) scRight.nd rfl (Or.inl rfl))
  (pss_cons (ps_set (i := 8) scRight.nd rfl (Or.inl rfl) (pe_cmS Cf (hr.mono (by decide)) (passTk takes_none5) (pe_glob (v := .ref C) (by rfl) gC rfl) (pa_cons (pv 5) pa_nil)))
  (pss_cons (ps_asg pe_int (pg_setO Ost L.oc (hr.mono (by decide)) (passTk takes_none5) (pv 8) pe_str))
  (pss_cons (ps_augO (i := 8) Oi L.oc (hr.mono (by decide)) passE0 scRight.nd rfl (Or.inl rfl) (pe_makeO Om (hr.mono (by decide)) pass0 (pa_cons (pe_lst (pa_cons (pe_tup (pa_cons pe_str (pa_cons pe_int pa_nil))) pa_nil)) pa_nil)))
  (pss_one (ps_if (pt_not (pt_val (pe_cal Cs (hr.mono (by decide)) pass0 (pa_cons (pe_cal Ca (hr.mono (by decide)) pass0 (pa_cons (pv 5) pa_nil)) (pa_cons (pe_cal Cr (hr.mono (by decide)) pass0 (pa_cons (pv 5) pa_nil)) pa_nil)))))
  (pss_one (ps_ret pe_bl))
  pss_nil))))))
  (pss_one (ps_ret (pe_cal Cs (hr.mono (by decide)) pass0 (pa_cons (pe_methO0 Ot L.oc.cl (hr.mono (by decide)) pass0 (pe_cmS Cf (hr.mono (by decide)) (passTk takes_none5) (pe_glob (v := .ref C) (by rfl) gC rfl) (pa_cons (pe_op o_catS (pv 2) pe_str) pa_nil))) (pa_cons (pe_op o_catS (pv 2) pe_str) pa_nil)))))))))))), ?_⟩
    walk_at "in"
    walk_at "go"
    refine for_it (walk_range (n := 5)) (fun i σ H' => ∃ (y1 y3 y5 y6 y7 y9 y10 y11 : Option V), σ = [some (.ref a), y1, none, y3, none, y5, y6, y7, none, y9, y10, y11, none] ∧ Bx H' a (150 * (5 - i) + 20) ∧ Kp a H H') ?_ (fun _ _ _ _ _ => trivial) ?_ ?_
    · exact ⟨_, _, _, _, _, _, _, _, rfl, bx.mono (by omega), fun _ _ e _ => e⟩
    · rintro i x _ _ H1 hi ⟨y1, y3, y5, y6, y7, y9, y10, y11, rfl, bx1, kp1⟩ ⟨rfl, hx⟩
      obtain rfl : x = .int (0 + ((i : Nat) : Int)) := hx
      obtain ⟨B, hB⟩ : ∃ B, B = 150 * (5 - (i + 1)) + 20 := ⟨_, rfl⟩
      have bx1' : Bx H1 a (B + 150) := bx1.mono (by omega)
      rw [← hB]
      clear bx1 hB
      walk_at "go"
      refine ⟨a, B + 83, 6, rfl, by decide, bx1'.mono (by omega), fun pn ws H2 hpn lw nw kw h2 bx2 kp2 => ?_⟩
      walk_at "go"
      rename_i pl hpl
      have bx2' : Bx (upd H2 pl (HO.lst [V.int 3, V.int 20, V.int (10 ^ Int.toNat 12)])) a (B + 83) := bx2.upd (bx2.ne hpl)
      refine ⟨a, pl, B + 82, _, rfl, bx2', upd_same, (bx2.ne hpl).symm, by decide, by decide, fun x j H3 hx bx3 kp3 => ?_⟩
      obtain ⟨bd, rfl, bd0, bd1⟩ : ∃ n : Int, x = .int n ∧ 0 < n ∧ n ≤ 1000000000000 := by
        match j, hx with
        | 0, h => exact ⟨3, (Option.some.inj h).symm, by decide, by decide⟩
        | 1, h => exact ⟨20, (Option.some.inj h).symm, by decide, by decide⟩
        | 2, h => exact ⟨_, (Option.some.inj h).symm, by decide, by decide⟩
        | _ + 3, h => cases h
      have k13 : Kp a H1 H3 := fun c o e n => kp3 _ _ (upd_at (kp2 _ _ e n) (ne_of_none (kp2 _ _ e n) hpl)) n
      have npn : pn ≠ a := (bx1'.ne hpn).symm
      have h3 : H3 pn = some (.lst (ws.map V.str)) := kp3 _ _ (upd_at h2 (ne_of_none h2 hpl)) npn
      clear kp2 kp3 bx2 bx2' hpl hx h2
      walk_at "go"
      rename_i pt hpt
      have bx4 : Bx (upd H3 pt (HO.tup [V.ref pn, V.int bd])) a (B + 82) := bx3.upd (bx3.ne hpt)
      have k14 : Kp a H1 (upd H3 pt (HO.tup [V.ref pn, V.int bd])) := fun c o e n => upd_at (k13 _ _ e n) (ne_of_none (k13 _ _ e n) hpt)
      have h4 : upd H3 pt (HO.tup [V.ref pn, V.int bd]) pn = some (.lst (ws.map V.str)) := upd_at h3 (ne_of_none h3 hpt)
      generalize upd H3 pt (HO.tup [V.ref pn, V.int bd]) = H4 at bx4 k14 h4 ⊢
      clear hpt bx3 k13 h3
      intro D hD
      have nDa : a ≠ D := bx4.ne hD
      have npD : pn ≠ D := ne_of_none h4 hD
      refine lc_it (walk_list (xs := ws.map V.str)) (fun j H' => ∃ ls : List Str, H' D = some (.lst (ls.map V.str)) ∧ ls.Sublist (ws.take j) ∧ Bx H' a (B + 76 + (6 - j)) ∧ (∀ c o, H4 c = some o → c ≠ a → H' c = some o)) ?_ ?_ ?_ ?_
      · exact ⟨[], upd_same, List.nil_sublist _, (bx4.upd nDa).mono (by omega), fun c o e _ => upd_at e (ne_of_none e hD)⟩
      · rintro j H' _ ⟨_, _, _, _, kp⟩
        exact SqL.of (kp _ _ h4 npn)
      · rintro j x _ H5 hj ⟨ls, hD5, sb, bx5, kp5⟩ ⟨rfl, hx⟩
        rw [List.length_map] at hj
        rw [List.getElem?_map] at hx
        obtain ⟨w1, hw1, rfl⟩ := Option.map_eq_some_iff.mp hx
        have tk : ws.take (j + 1) = ws.take j ++ [w1] := by rw [List.take_add_one, hw1]; rfl
        walk_at "go"
        refine ⟨rfl, ?_⟩
        walk_at "go"
        refine ⟨a, B + 76 + (6 - (j + 1)), 3, rfl, bx5.mono (by omega), by decide, by decide, fun d1 H6 d0 _ bx6 kp6 => ?_⟩
        have hD6 := kp6 _ _ hD5 nDa.symm
        have k46 : ∀ c o, H4 c = some o → c ≠ a → H6 c = some o := fun c o e n => kp6 _ _ (kp5 _ _ e n) n
        have lls := sb.length_le
        rw [List.length_take] at lls
        walk_at "go"
        refine ite2 (fun _ => ?_) (fun _ => ?_)
        · walk_at "go"
          refine ⟨_, hD6, szl (by rw [List.length_map]; omega), ls ++ [w1], by rw [List.map_append]; exact upd_same, ?_, bx6.upd nDa, fun c o e n => upd_at (k46 _ _ e n) (ne_of_none e hD)⟩
          rw [tk]
          exact List.Sublist.append sb (List.Sublist.refl _)
        · refine ⟨ls, hD6, ?_, bx6, k46⟩
          rw [tk]
          exact sb.trans (List.sublist_append_left _ _)
      rintro H5 ⟨ls, hD5, sb, bx5, kp5⟩
      rw [List.length_map, List.take_length] at sb
      have lls := sb.length_le
      have nls : ls.Nodup := nw.sublist sb
      have kls : ∀ s ∈ ls, KindS s := fun s h => kw s (sb.subset h)
      have bx5' : Bx H5 a (B + 76) := bx5.mono (by omega)
      have k15 : Kp a H1 H5 := fun c o e n => kp5 _ _ (k14 _ _ e n) n
      clear bx5 kp5 k14 bx4 h4 hD
      walk_at "go"
      intro D2 hD2
      have nDa2 : a ≠ D2 := bx5'.ne hD2
      refine lc_it (walk_list (xs := ls.map V.str)) (fun j H' => ∃ (xs : List V) (ps : AL), H' D2 = some (.lst xs) ∧ Paired (PrA H') xs ps ∧ keys ps = ls.take j ∧ (∀ p ∈ ps, 0 ≤ p.2 ∧ p.2 < 1000000000000) ∧ Bx H' a (B + 70 + (6 - j)) ∧ (∀ c o, H5 c = some o → c ≠ a → H' c = some o)) ?_ ?_ ?_ ?_
      · exact ⟨[], [], upd_same, .nil, rfl, fun _ h => (by cases h), (bx5'.upd nDa2).mono (by omega), fun c o e _ => upd_at e (ne_of_none e hD2)⟩
      · rintro j H' _ ⟨_, _, _, _, _, _, _, kp⟩
        exact SqL.of (kp _ _ hD5 nDa.symm)
      · rintro j x _ H6 hj ⟨xs, ps, hD6, hxs, hks, hbs, bx6, kp6⟩ ⟨rfl, hx⟩
        rw [List.length_map] at hj
        rw [List.getElem?_map] at hx
        obtain ⟨w1, hw1, rfl⟩ := Option.map_eq_some_iff.mp hx
        walk_at "go"
        refine ⟨rfl, ?_⟩
        walk_at "go"
        refine iteT ?_
        walk_at "go"
        refine ⟨a, B + 70 + (6 - (j + 1)), bd, rfl, bx6.mono (by omega), bd0, by omega, fun d1 H7 d0 dl bx7 kp7 => ?_⟩
        have hD7 := kp7 _ _ hD6 nDa2.symm
        have k57 : ∀ c o, H5 c = some o → c ≠ a → H7 c = some o := fun c o e n => kp7 _ _ (kp6 _ _ e n) n
        have hx7 : Paired (PrA H7) xs ps := Paired.mapP hxs fun _ _ z => z.kp kp7 bx6
        have lxs : xs.length = j := by
          have h1 := Paired.len hxs
          have h2 := congrArg List.length hks
          unfold keys at h2
          rw [List.length_map, List.length_take] at h2
          omega
        have tk : ls.take (j + 1) = ls.take j ++ [w1] := by rw [List.take_add_one, hw1]; rfl
        walk_at "go"
        rename_i u hu1
        have kd : Kp D2 H7 (upd (upd H7 u (HO.tup [V.str w1, V.int d1])) D2 (HO.lst (xs ++ [V.ref u]))) := fun c o e n => upd_at (upd_at e (ne_of_none e hu1)) n
        have nu : D2 ≠ u := ne_of_none hD7 hu1
        refine ⟨xs, upd_at hD7 nu, szl (by omega), xs ++ [V.ref u], ps ++ [(w1, d1)], upd_same, Paired.app (PrA.kpdAll hx7 kd hD7 (fun _ z => by cases z)) (.cons ⟨u, rfl, upd_at upd_same (fun e => nu e.symm)⟩ .nil), ?_, fun p hp => ?_, (bx7.upd (bx7.ne hu1)).upd nDa2, fun c o e n => upd_at (upd_at (k57 _ _ e n) (ne_of_none (k57 _ _ e n) hu1)) (ne_of_none e hD2)⟩
        · rw [tk]
          unfold keys at hks ⊢
          rw [List.map_append, hks]
          rfl
        · rcases List.mem_append.mp hp with h | h
          · exact hbs p h
          · rw [List.mem_singleton.mp h]
            exact ⟨d0, by show d1 < _; omega⟩
      rintro H6 ⟨xs, ps, hD6, hxs, hks, hbs, bx6, kp6⟩
      rw [List.length_map, List.take_length] at hks
      have lxs : xs.length = ls.length := by
        have h1 := Paired.len hxs
        have h2 := congrArg List.length hks
        unfold keys at h2
        rw [List.length_map] at h2
        omega
      have bx6' : Bx H6 a (B + 70) := bx6.mono (by omega)
      have k16 : Kp a H1 H6 := fun c o e n => kp6 _ _ (k15 _ _ e n) n
      clear bx6 kp6 k15 bx5' hD5 hD2
      walk_at "go"
      refine ⟨D2, xs, ps, rfl, SqL.of hD6, hxs, by omega, fun d m H7 hd hd7 nd hg sub ml s7 => ?_⟩
      walk_at "go"
      refine ⟨d, m, rfl, hd7, nd, by omega, fun pq ts qs H8 hpq h8 hts cn s8 => ?_⟩
      obtain ⟨dq, up, nq⟩ := drawn_ok hks nls kls hbs nd hg sub cn
      have lq : qs.length ≤ 6 := by have := lq_of cn; omega
      have bx8 : Bx H8 a (B + 70) := (bx6'.same s7).same s8
      have k18 : Kp a H1 H8 := fun c o e n => s8 _ _ (s7 _ _ (k16 _ _ e n))
      clear k16 bx6' hD6 hxs hd hd7 s7 s8 hpq
      walk_at "go"
      have q1000 : ∀ p ∈ qs, p.2.natAbs < 2 ^ 1000 := fun p hp => by
        have h1 := dq p hp
        have h2 : (1000000000000 : Nat) < 2 ^ 1000 := by decide +kernel
        omega
      obtain ⟨rd, lz, cz⟩ := line_ok lq dq up
      have ftz : Fit (ttx qs) := fit_of (by omega) (by omega)
      refine ⟨pq, ts, qs, rfl, SqT.of h8, hts, by omega, q1000, fun p hp => (dq p hp).2.2, fun H9 s9 => ?_⟩
      generalize ez : ttx qs = z at rd lz cz ftz ⊢
      have h9 := s9 _ _ h8
      have ht9 : Paired (PrA H9) ts qs := PrA.all hts s9
      have bx9 := bx8.same s9
      have k19 : Kp a H1 H9 := fun c o e n => s9 _ _ (k18 _ _ e n)
      clear s9 bx8 k18 h8 hts
      obtain ⟨_, _, _, ha9, _⟩ := id bx9
      have npqa : pq ≠ a := fun z => by rw [z, ha9] at h9; cases h9
      have ltq := Paired.len ht9
      walk_at "go"
      refine r_meth0 (r_mk ?_)
      walk_at "go"
      refine ⟨a, pq, B + 64, ts, rfl, bx9.mono (by omega), SqT.of h9, by omega, fun pm ys H10 _ pmm hpm bx10 k10 => ?_⟩
      obtain ⟨ps', pps, hys'⟩ := paired_perm pmm (PrA.kpdAll ht9 k10 ha9 (fun _ z => by cases z))
      have h10 := k10 _ _ h9 npqa
      have ht10 := PrA.kpdAll ht9 k10 ha9 (fun _ z => by cases z)
      have k110 : Kp a H1 H10 := fun c o e n => k10 _ _ (k19 _ _ e n) n
      clear k10 k19 bx9 h9 ht9 ha9
      walk_at "go"
      refine init_end hpm hys' (by rw [pmm.length_eq]; omega) (fun z hz => Int.le_of_lt (dq z (pps.mem_iff.mp hz)).1) fun x mx H11 hx Lx gx s11 => ?_
      have cm : My.Cn mx qs := cn_tot Lx.lo.nd nq (fun p hp => (dq p hp).1) cn.2 fun j => by rw [gx j, tot_perm pps]
      have mq : ∀ p ∈ mx, p ∈ qs := fun p hp => (cm.mem Lx.lo.ps p).mpr hp
      obtain ⟨⟨dx0, dx, hx1, hx2⟩, _, _, _⟩ := id Lx.lo
      walk_at "go"
      refine ⟨x, dx, _, rfl, hx1, look1, x, mx, rfl, Lx.lo, fun p hp => q1000 p (mq p hp), fun p hp => (dq p (mq p hp)).2.2, fun qs2 H12 cn2 s12 => ?_⟩
      have eq2 : qs2 = qs := cn_unique Lx.lo.nd Lx.lo.nd cn2 cm fun _ _ => rfl
      subst eq2
      rw [ez]
      have h12 := s12 _ _ (s11 _ _ h10)
      have ht12 := PrA.all (PrA.all ht10 s11) s12
      have bx12 : Bx H12 a (B + 64) := (bx10.same s11).same s12
      have k112 : Kp a H1 H12 := fun c o e n => s12 _ _ (s11 _ _ (k110 _ _ e n))
      clear s11 s12 h10 ht10 bx10 k110 hpm hys' hx hx1 hx2 cn2
      walk_at "go"
      refine ⟨z, rfl, ftz, fun qs3 p3 ts3 H13 rd3 hp3 h13 ht3 s13 => ?_, fun H' bad _ => absurd bad rd.not_bad⟩
      obtain rfl : qs3 = qs2 := rd3.uniq rd
      have hq13 := s13 _ _ h12
      have htq13 := PrA.all ht12 s13
      have bx13 := bx12.same s13
      have k113 : Kp a H1 H13 := fun c o e n => s13 _ _ (k112 _ _ e n)
      clear s13 h12 ht12 bx12 k112 hp3
      walk_at "go"
      rename_i g1 hg1 g2 hg2
      have s14 : Same H13 (upd (upd H13 g1 (.lst [V.str z, V.ref p3])) g2 (.lst [V.str z, V.ref pq])) := fun c o e => upd_at (upd_at e (ne_of_none e hg1)) (ne_of_none (upd_at e (ne_of_none e hg1)) hg2)
      have v1 : upd (upd H13 g1 (.lst [V.str z, V.ref p3])) g2 (.lst [V.str z, V.ref pq]) g1 = some (.lst [V.str z, V.ref p3]) := upd_at upd_same (ne_of_none upd_same hg2)
      have v2 : upd (upd H13 g1 (.lst [V.str z, V.ref p3])) g2 (.lst [V.str z, V.ref pq]) g2 = some (.lst [V.str z, V.ref pq]) := upd_same
      generalize upd (upd H13 g1 (.lst [V.str z, V.ref p3])) g2 (.lst [V.str z, V.ref pq]) = H14 at s14 v1 v2 ⊢
      refine ⟨.ref g1, .ref g2, rfl, sm_lst v1 v2 rfl (by simp) (at2 (sm_str rfl) (sm_prs (s14 _ _ h13) (s14 _ _ hq13) (PrA.all ht3 s14) (PrA.all htq13 s14) (by omega))), fun H15 s15 => ?_⟩
      have hq15 := s15 _ _ (s14 _ _ hq13)
      have htq15 := PrA.all (PrA.all htq13 s14) s15
      have bx15 := (bx13.same s14).same s15
      have k115 : Kp a H1 H15 := fun c o e n => s15 _ _ (s14 _ _ (k113 _ _ e n))
      clear s14 s15 v1 v2 hg1 hg2 h13 ht3 hq13 htq13 bx13 k113
      walk_at "go"
      refine iteF ?_
      walk_at "go"
      refine r_cmSK (r_c ⟨rfl, r_cons (r_var rfl (r_nil ⟨z, rfl, ftz, fun qs4 x4 H16 rd4 hx4 ⟨m4, Ln4, c4⟩ s16 => ?_, fun H' bad _ => absurd bad rd.not_bad⟩))⟩)
      have L4 := Ln4.lo
      obtain rfl : qs4 = qs3 := rd4.uniq rd
      have hq16 := s16 _ _ hq15
      have htq16 := PrA.all htq15 s16
      have bx16 := bx15.same s16
      have k116 : Kp a H1 H16 := fun c o e n => s16 _ _ (k115 _ _ e n)
      clear s16 hq15 htq15 bx15 k115 hx4
      refine r_mk (r_cons (r_var rfl (r_nil ?_)))
      refine initT_end (SqT.of hq16) htq16 (by have := Paired.len htq16; omega) (fun z hz => Int.le_of_lt (dq z hz).1) fun x5 m5 H17 hx5 Lx5 g5 s17 => ?_
      have L4' := L4.same s17
      obtain ⟨⟨e4, d4, i4, _⟩, _, _, _⟩ := id L4'
      obtain ⟨⟨e5, d5, i5, _⟩, _, _, _⟩ := id Lx5.lo
      have hd45 : dEq m4 m5 = true := (dEq_iff L4.nd Lx5.lo.nd L4.ps Lx5.lo.ps).mpr fun j => by
        have c5 : My.Cn m5 qs4 := cn_tot Lx5.lo.nd nq (fun p hp => (dq p hp).1) cn.2 g5
        have q4 : tot (pos m4) j = tot (pos m5) j := tot_perm (c4.1.symm.trans c5.1) j
        rw [pos_all L4.ps, pos_all Lx5.lo.ps, tot_nodup j L4.nd, tot_nodup j Lx5.lo.nd] at q4
        exact q4
      refine ⟨x4, x5, d4, d5, _, _, rfl, rfl, i4, i5, x4, x5, m4, m5, rfl, L4', Lx5.lo, fun H18 s18 => ?_⟩
      rw [hd45]
      have bx18 : Bx H18 a (B + 64) := (bx16.same s17).same s18
      have k118 : Kp a H1 H18 := fun c o e n => s18 _ _ (s17 _ _ (k116 _ _ e n))
      clear s17 s18 bx16 k116 hq16 htq16
      walk_at "go"
      refine iteF ?_
      walk_at "go"
      have kp1_ := kp1
      refine for_it (walk_range (n := 12)) (fun t σ H' => ∃ (z7 z11 : Option V), σ = [some (.ref a), some (.int (0 + ((i : Nat) : Int))), none, some (.ref pq), none, some (.str z), some (.ref D), z7, none, some (.ref pn), some (.int bd), z11, none] ∧ Bx H' a (B + 5 * (12 - t)) ∧ Kp a H1 H') ?_ (fun _ _ _ _ _ => trivial) ?_ ?_
      · exact ⟨_, _, rfl, bx18.mono (by omega), k118⟩
      · rintro t x _ _ G1 ht ⟨z7, z11, rfl, bg, kg⟩ ⟨rfl, hx⟩
        obtain rfl : x = .int (0 + ((t : Nat) : Int)) := hx
        walk_at "go"
        refine ⟨a, B + 5 * (12 - (t + 1)), z, rfl, bg.mono (by omega), lz, cz, fun y G2 fy bg2 kg2 => ?_⟩
        have kg12 : Kp a H1 G2 := fun c o e n => kg2 _ _ (kg _ _ e n) n
        walk_at "go"
        refine ⟨y, rfl, fy, fun q5 p5 t5 G3 r5 hp5 h5 ht5 s5 => ?_, fun G3 bad s5 => ?_⟩
        · walk_at "go"
          refine ⟨y, rfl, fy, fun q6 p6 t6 G4 r6 hp6 h6 ht6 s6 => ?_, fun H' bad _ => absurd bad r5.not_bad⟩
          obtain rfl : q6 = q5 := r6.uniq r5
          have l5 : q6.length ≤ 1000 := by
            rcases r5.ex with ⟨_, e⟩ | ⟨_, ok, e⟩
            · rw [e]; decide
            · rw [e, qsOf_len ok.ev, words_len]
              have := fy.bl
              omega
          walk_at "go"
          refine ⟨.ref p5, .ref p6, rfl, sm_prs (s6 _ _ h5) h6 (PrA.all ht5 s6) ht6 l5, fun G5 s7 => ?_⟩
          walk_at "go"
          refine iteF ?_
          walk_at "go"
          exact ⟨_, _, rfl, ((bg2.same s5).same s6).same s7, fun c o e n => s7 _ _ (s6 _ _ (s5 _ _ (kg12 _ _ e n)))⟩
        · walk_at "go"
          refine ⟨y, rfl, fy, fun q6 p6 t6 G4 r6 _ _ _ _ => absurd bad r6.not_bad, fun G4 _ s6 => ?_⟩
          walk_at "go"
          refine ⟨.non, .non, rfl, sm_sc rfl (.inl rfl), fun G5 s7 => ?_⟩
          walk_at "go"
          refine iteF ?_
          walk_at "go"
          exact ⟨_, _, rfl, ((bg2.same s5).same s6).same s7, fun c o e n => s7 _ _ (s6 _ _ (s5 _ _ (kg12 _ _ e n)))⟩
      · rintro σ G1 ⟨z7, z11, rfl, bg, kg⟩
        exact ⟨_, _, _, _, _, _, _, _, rfl, bg.mono (by omega), fun c o e n => kg _ _ (kp1_ _ _ e n) n⟩
    · rintro σ H1 ⟨y1, y3, y5, y6, y7, y9, y10, y11, rfl, bx1, k1⟩
      walk_at "go"
      refine ⟨Str.ofString "9", 300, rfl, rfl, nines_ok, ?_⟩
      show (gName 2) (V.str nines) _ H1 _
      walk_at "go"
      rename_i pb hpb
      have hb2 : upd H1 pb (HO.lst (badTexts.map V.str)) pb = some (.lst (badTexts.map V.str)) := upd_same
      have sb2 : Same H1 (upd H1 pb (HO.lst (badTexts.map V.str))) := fun c o e => upd_at e (ne_of_none e hpb)
      have npb : pb ≠ a := (bx1.ne hpb).symm
      have kb2 : Kp a H (upd H1 pb (HO.lst (badTexts.map V.str))) := fun c o e n => sb2 _ _ (k1 _ _ e n)
      show ∀ (D : Addr), (upd H1 pb (HO.lst (badTexts.map V.str))) D = none → _
      clear sb2 hpb k1
      intro D hD
      have nDb : pb ≠ D := ne_of_none hb2 hD
      refine lc_it (walk_list (xs := badTexts.map V.str)) (fun j H' => H' D = some (.lst []) ∧ Same (upd H1 pb (HO.lst (badTexts.map V.str))) H') ?_ ?_ ?_ ?_
      · exact ⟨upd_same, fun c o e => upd_at e (ne_of_none e hD)⟩
      · rintro j H' _ ⟨_, s2⟩
        exact SqL.of (s2 _ _ hb2)
      · rintro j x _ H2 hj ⟨hD2, s2⟩ ⟨rfl, hx⟩
        rw [List.getElem?_map] at hx
        obtain ⟨w1, hw1, rfl⟩ := Option.map_eq_some_iff.mp hx
        have hwm := List.mem_of_getElem? hw1
        have bad := bad_all w1 hwm
        walk_at "go"
        refine ⟨rfl, ?_⟩
        walk_at "go"
        refine ⟨w1, rfl, bad_fit hwm, fun q6 p6 t6 G4 r6 _ _ _ _ => absurd bad r6.not_bad, fun H3 _ s3 => ?_⟩
        walk_at "go"
        refine iteF ?_
        exact ⟨s3 _ _ hD2, fun c o e => s3 _ _ (s2 _ _ e)⟩
      rintro H2 ⟨hD2, s2⟩
      have k2 : Kp a H H2 := fun c o e n => s2 _ _ (kb2 _ _ e n)
      clear s2 kb2 hb2 hD nDb
      walk_at "go"
      rename_i e0 he0
      have s3 : Same H2 (upd H2 e0 (.lst [])) := fun c o e => upd_at e (ne_of_none e he0)
      refine ⟨.list [], .list [], .lst (SqL.of (s3 _ _ hD2)) .nil, .lst (SqL.of upd_same) .nil, by decide, by decide, ?_⟩
      have k3 : Kp a H (upd H2 e0 (.lst [])) := fun c o e n => s3 _ _ (k2 _ _ e n)
      generalize upd H2 e0 (.lst []) = H3 at k3 ⊢
      clear s3 hD2 k2 he0
      refine ⟨false, rfl, iteF ?_⟩
      have hsl := PySem.sizeLine_eq
      have n1 := nines_len
      walk_at "go"
      refine r_catS (by rw [n1]; have : (Str.ofString " a").length = 2 := by decide +kernel
                        omega) ?_
      walk_at "go"
      refine ⟨_, rfl, nines_fit (by decide +kernel), fun q1 p1 t1 H4 r1 _ h1 ht1 s4 => ?_, fun H' bad _ => absurd bad reads_nines.not_bad⟩
      walk_at "go"
      refine r_catS (by rw [n1]; have : (Str.ofString "9 a").length = 3 := by decide +kernel
                        omega) ?_
      walk_at "go"
      refine ⟨_, rfl, nines_fit (by decide +kernel), fun _ _ _ _ r _ _ _ _ => absurd bad_nines r.not_bad, fun H5 _ s5 => ?_⟩
      walk_at "go"
      refine ⟨_, rfl, short_fit (by decide +kernel), fun q2 p2 t2 H6 r2 _ h2 ht2 s6 => ?_, fun H' bad _ => absurd bad reads_eight.not_bad⟩
      walk_at "go"
      refine ⟨_, rfl, short_fit (by decide +kernel), fun _ _ _ _ r _ _ _ _ => absurd bad_long r.not_bad, fun H7 _ s7 => ?_⟩
      walk_at "go"
      rename_i g hg
      have s8 : Same H7 (upd H7 g (HO.lst [V.ref p1, V.non, V.ref p2, V.non])) := fun c o e => upd_at e (ne_of_none e hg)
      have hg8 : upd H7 g (HO.lst [V.ref p1, V.non, V.ref p2, V.non]) g = some (.lst [V.ref p1, V.non, V.ref p2, V.non]) := upd_same
      generalize upd H7 g (HO.lst [V.ref p1, V.non, V.ref p2, V.non]) = H8 at s8 hg8 ⊢
      have s48 : Same H4 H8 := fun c o e => s8 _ _ (s7 _ _ (s6 _ _ (s5 _ _ e)))
      have s68 : Same H6 H8 := fun c o e => s8 _ _ (s7 _ _ e)
      have k8 : Kp a H H8 := fun c o e n => s48 _ _ (s4 _ _ (k3 _ _ e n))
      have h18 := s48 _ _ h1
      have ht18 := PrA.all ht1 s48
      have h28 := s68 _ _ h2
      have ht28 := PrA.all ht2 s68
      clear s48 s68 s8 s7 s6 s5 s4 k3 h1 ht1 h2 ht2 hg
      refine r_catS (by rw [n1]; have : (Str.ofString " a").length = 2 := by decide +kernel
                        omega) ?_
      walk_at "go"
      refine ⟨_, rfl, nines_fit (by decide +kernel), fun q3 p3 t3 H9 r3 _ h3 ht3 s9 => ?_, fun H' bad _ => absurd bad reads_nines.not_bad⟩
      obtain rfl : q3 = q1 := r3.uniq r1
      obtain rfl : q2 = [(Str.ofString "abcdefgh", 1)] := r2.uniq reads_eight
      have l3 : q3.length ≤ 1000 := by rw [r3.uniq reads_nines]; decide
      have hg9 := s9 _ _ hg8
      have h19 := s9 _ _ h18
      have h29 := s9 _ _ h28
      have ht19 := PrA.all ht18 s9
      have ht29 := PrA.all ht28 s9
      have k9 : Kp a H H9 := fun c o e n => s9 _ _ (k8 _ _ e n)
      clear s9 hg8 h18 h28 ht18 ht28 k8
      walk_at "go"
      rename_i u1 hu1 u2 hu2 g2 hg2
      obtain ⟨HA, eA⟩ : ∃ HA, HA = upd (upd (upd H9 u1 (HO.tup [V.str (Str.ofString "abcdefgh"), V.int 1])) u2 (HO.tup [V.ref u1])) g2 (HO.lst [V.ref p3, V.non, V.ref u2, V.non]) := ⟨_, rfl⟩
      have sA : Same H9 HA := fun c o e => by
        rw [eA]
        have e1 := upd_at (a := u1) (o := HO.tup [V.str (Str.ofString "abcdefgh"), V.int 1]) e (ne_of_none e hu1)
        have e2 := upd_at (a := u2) (o := HO.tup [V.ref u1]) e1 (ne_of_none e1 hu2)
        exact upd_at e2 (ne_of_none e2 hg2)
      have w1 : HA u1 = some (.tup [V.str (Str.ofString "abcdefgh"), V.int 1]) := by
        rw [eA]
        have e2 := upd_at (a := u2) (o := HO.tup [V.ref u1]) (upd_same (H := H9) (a := u1) (o := HO.tup [V.str (Str.ofString "abcdefgh"), V.int 1])) (ne_of_none upd_same hu2)
        exact upd_at e2 (ne_of_none e2 hg2)
      have w2 : HA u2 = some (.tup [V.ref u1]) := by
        rw [eA]
        exact upd_at upd_same (ne_of_none upd_same hg2)
      have w3 : HA g2 = some (.lst [V.ref p3, V.non, V.ref u2, V.non]) := by
        rw [eA]
        exact upd_same
      rw [← eA]
      clear eA hu1 hu2 hg2
      refine ⟨.ref g, .ref g2, rfl, sm_lst (sA _ _ hg9) w3 rfl (by simp) (at4 (sm_prs (sA _ _ h19) (sA _ _ h3) (PrA.all ht19 sA) (PrA.all ht3 sA) l3) (sm_sc rfl (.inl rfl)) (sm_prs (sA _ _ h29) w2 (PrA.all ht29 sA) (.cons ⟨u1, rfl, w1⟩ .nil) (by decide)) (sm_sc rfl (.inl rfl))), fun HB sB => ?_⟩
      have kB : Kp a H HB := fun c o e n => sB _ _ (sA _ _ (k9 _ _ e n))
      clear sA sB w1 w2 w3 hg9 h19 h29 ht19 ht29 k9 h3 ht3
      walk_at "go"
      refine iteF ?_
      walk_at "go"
      rename_i pg hpg
      have hg1 : upd HB pg (HO.lst [V.str (Str.ofString "-"), V.str (Str.ofString "2 a 7 c")]) pg = some (.lst [V.str (Str.ofString "-"), V.str (Str.ofString "2 a 7 c")]) := upd_same
      have kG : Kp a H (upd HB pg (HO.lst [V.str (Str.ofString "-"), V.str (Str.ofString "2 a 7 c")])) := fun c o e n => upd_at (kB _ _ e n) (ne_of_none (kB _ _ e n) hpg)
      generalize upd HB pg (HO.lst [V.str (Str.ofString "-"), V.str (Str.ofString "2 a 7 c")]) = G at hg1 kG ⊢
      clear kB hpg
      refine for_it (walk_list (xs := [V.str (Str.ofString "-"), V.str (Str.ofString "2 a 7 c")])) (fun i σ H' => ∃ (z5 z8 : Option V), σ = [some (.ref a), y1, some (.str nines), some (.ref pb), some (.ref g), z5, y6, y7, z8, y9, y10, y11, none] ∧ Same G H') ?_ ?_ ?_ ?_
      · exact ⟨_, _, rfl, fun _ _ e => e⟩
      · rintro j σ H' _ ⟨_, _, _, s⟩
        exact SqL.of (s _ _ hg1)
      · rintro i x _ _ G1 hi ⟨z5, z8, rfl, sG⟩ ⟨rfl, hx⟩
        obtain ⟨z, qs, rfl, rd, fz, lq⟩ : ∃ (z : Str) (qs : AL), x = .str z ∧ Reads z qs ∧ Fit z ∧ qs.length ≤ 2 := by
          match i, hx with
          | 0, h => exact ⟨_, _, (Option.some.inj h).symm, reads_dash, short_fit (by decide +kernel), by decide⟩
          | 1, h => exact ⟨_, _, (Option.some.inj h).symm, reads_two, short_fit (by decide +kernel), by decide⟩
          | _ + 2, h => cases h
        walk_at "go"
        refine r_cmS (r_c ⟨rfl, r_cons (r_var rfl (r_nil ⟨z, rfl, fz, fun qs4 x4 G2 rd4 hx4 ⟨m4, ⟨d4, hd4, L4⟩, c4⟩ s2 => ?_, fun H' bad _ => absurd bad rd.not_bad⟩))⟩)
        obtain rfl : qs4 = qs := rd4.uniq rd
        obtain ⟨⟨dx4, i4⟩, _, _, mp4, _⟩ := id L4
        have l4 : m4.length ≤ 2 := by have := c4.len mp4; omega
        walk_at "go"
        refine r_setO (r_var rfl (r_c ⟨x4, dx4, _, rfl, i4, x4, d4, Str.ofString "b", 3, m4, rfl, L4, by omega, .inl ⟨by decide, fun m5 G3 L5 g5 l5 k5 => ?_⟩⟩))
        have sG3 : Same G1 G3 := fun c o e => k5 _ _ (s2 _ _ e) (ne_of_none e hx4) (ne_of_none e hd4)
        obtain ⟨⟨dx5, i5⟩, _, _, mp5, _⟩ := id L5
        walk_at "go"
        refine ⟨_, rfl, r_mk ?_⟩
        walk_at "go"
        rename_i pu hpu pl hpl
        refine init_end (ps := [(Str.ofString "a", 5)]) upd_same (.cons ⟨pu, rfl, upd_at upd_same (ne_of_none upd_same hpl)⟩ .nil) (by simp) (fun q hq => by rw [List.mem_singleton.mp hq]; decide) fun x6 m6 G4 hx6 L6 g6 s6 => ?_
        have sG4 : Same G3 G4 := fun c o e => by
          have e1 := upd_at (a := pu) (o := HO.tup [V.str (Str.ofString "a"), V.int 5]) e (ne_of_none e hpu)
          exact s6 _ _ (upd_at e1 (ne_of_none e1 hpl))
        have c6 : My.Cn m6 [(Str.ofString "a", 5)] := cn_tot L6.lo.nd (by simp [keys]) (fun p hp => by rw [List.mem_singleton.mp hp]; decide) (List.pairwise_singleton _ _) g6
        have l6 : m6.length = 1 := (c6.len L6.lo.ps).symm
        clear s6 hpu hpl c6 g6
        refine ⟨x4, dx5, _, rfl, sG4 _ _ i5, x4, x6, m5, m6, rfl, L5.lo.same sG4, L6.lo, by omega, fun d7 m7 G5 _ L7 _ k7 => ?_⟩
        have sG5 : Same G1 G5 := fun c o e => k7 _ _ (sG4 _ _ (sG3 _ _ e)) (ne_of_none e hx4)
        walk_at "go"
        refine ⟨z, rfl, fz, fun q5 p5 t5 G6 r5 hp5 h5 ht5 s8 => ?_, fun H' bad _ => absurd bad rd.not_bad⟩
        walk_at "go"
        refine ⟨z, rfl, fz, fun q6 p6 t6 G7 r6 hp6 h6 ht6 s9 => ?_, fun H' bad _ => absurd bad rd.not_bad⟩
        obtain rfl : q5 = qs4 := r5.uniq rd
        obtain rfl : q6 = q5 := r6.uniq rd
        walk_at "go"
        refine ⟨.ref p5, .ref p6, rfl, sm_prs (s9 _ _ h5) h6 (PrA.all ht5 s9) ht6 (by omega), fun G8 s10 => ?_⟩
        walk_at "go"
        refine iteF ?_
        walk_at "go"
        exact ⟨_, _, rfl, fun c o e => s10 _ _ (s9 _ _ (s8 _ _ (sG5 _ _ (sG _ _ e))))⟩
      rintro σ G1 ⟨z5, z8, rfl, sG⟩
      have kG1 : Kp a H G1 := fun c o e n => sG _ _ (kG _ _ e n)
      clear sG kG hg1
      walk_at "go"
      refine r_meth0 (r_cmS (r_c ⟨rfl, ?_⟩))
      walk_at "go"
      refine r_catS (by rw [n1]; have : (Str.ofString " a").length = 2 := by decide +kernel
                        omega) ?_
      walk_at "go"
      refine ⟨_, rfl, nines_fit (by decide +kernel), fun qs4 x4 G2 rd4 hx4 ⟨m4, ⟨d4, hd4, L4⟩, c4⟩ s2 => ?_, fun H' bad _ => absurd bad reads_nines.not_bad⟩
      obtain rfl : qs4 = [(Str.ofString "a", num nines)] := rd4.uniq reads_nines
      obtain ⟨⟨dx4, i4⟩, _, nd4, mp4, _⟩ := id L4
      have mq : ∀ p ∈ m4, p ∈ [(Str.ofString "a", num nines)] := fun p hp => (c4.mem mp4 p).mpr hp
      walk_at "go"
      refine ⟨x4, dx4, _, rfl, i4, look1, x4, m4, rfl, L4.lo, fun p hp => ?_, fun p hp => ?_, fun qs2 G3 cn2 s3 => ?_⟩
      · rw [List.mem_singleton.mp (mq p hp)]
        exact num_small
      · rw [List.mem_singleton.mp (mq p hp)]
        exact (by decide +kernel : KindS (Str.ofString "a"))
      obtain rfl : qs2 = [(Str.ofString "a", num nines)] := cn_unique nd4 nd4 cn2 c4 fun _ _ => rfl
      have et : ttx [(Str.ofString "a", num nines)] = nines ++ Str.ofString " a" := by
        unfold ttx
        rw [if_neg (by simp), ltx_nines]
      rw [et]
      walk_at "go"
      refine r_catS (by rw [n1]; have : (Str.ofString " a").length = 2 := by decide +kernel
                        omega) ?_
      walk_at "go"
      refine ⟨_, _, rfl, sm_str rfl, fun G4 s4 => ?_⟩
      exact q _ fun c o e n => s4 _ _ (s3 _ _ (s2 _ _ (kG1 _ _ e n)))
end
end
end My

namespace My
open PySem L2
local macro_rules | `(tactic| walk_at "bx1") => `(tactic| first | with_reducible assumption | ((with_reducible refine' Bx.upd ?h1 ?h2); (case h1 => walk_at "bx1"); (case h2 => walk_at "ne")) | ((with_reducible refine' Bx.same ?h1 (by with_reducible assumption)); (case h1 => walk_at "bx1")))
local macro_rules | `(tactic| walk_at "bx") => `(tactic| (refine' Bx.mono ?h1 ?h2; (case h1 => walk_at "bx1"); (case h2 => omega)))
local macro_rules | `(tactic| walk_at "ne") => `(tactic| first | with_reducible assumption | exact Ne.symm (by with_reducible assumption) | ((with_reducible refine' ne_of_none ?h1 (by with_reducible assumption)); (case h1 => walk_at "hp")) | ((with_reducible refine' Ne.symm (ne_of_none ?h1 (by with_reducible assumption))); (case h1 => walk_at "hp")) | ((with_reducible refine' Bx.ne ?h1 (by with_reducible assumption)); (case h1 => walk_at "bx1")) | ((with_reducible refine' Ne.symm (Bx.ne ?h1 (by with_reducible assumption))); (case h1 => walk_at "bx1")))
local macro_rules | `(tactic| walk_at "hp") => `(tactic| first | with_reducible assumption | ((with_reducible refine' (upd_same.trans ?h1)); (case h1 => rfl)) | ((with_reducible refine' My.upd_at ?h1 ?h2); (case h1 => walk_at "hp"); (case h2 => walk_at "ne")) | ((with_reducible refine' My.Kp.at (by with_reducible assumption) ?h1 ?h2); (case h1 => walk_at "hp"); (case h2 => walk_at "ne")) | ((with_reducible refine' My.Same.at (by with_reducible assumption) ?h1); (case h1 => walk_at "hp")))
local macro_rules | `(tactic| walk_at "sq") => `(tactic| first | with_reducible assumption | exact SqL.of (by walk_at "hp") | exact SqT.of (by walk_at "hp") | ((with_reducible refine' My.SqT.upd ?h1 (by with_reducible assumption)); (case h1 => walk_at "sq")) | ((with_reducible refine' My.SqL.upd ?h1 (by with_reducible assumption)); (case h1 => walk_at "sq")) | ((with_reducible refine' Same.seq (by with_reducible assumption) ?h1); (case h1 => walk_at "sq")) | ((with_reducible refine' My.SqT.same ?h1 (by with_reducible assumption)); (case h1 => walk_at "sq")) | ((with_reducible refine' My.SqT.kp ?h1 (by with_reducible assumption) ?h2); (case h1 => walk_at "sq"); (case h2 => walk_at "bx1")) | ((with_reducible refine' My.SqL.kp ?h1 (by with_reducible assumption) ?h2); (case h1 => walk_at "sq"); (case h2 => walk_at "ne")))
local macro_rules | `(tactic| walk_at "sd") => `(tactic| first | assumption | omega | decide | (refine ⟨?_, ?_⟩ <;> (first | omega | decide)) | (refine Or.inl ⟨?_, ?_⟩ <;> (first | omega | decide)) | (refine Or.inr ⟨?_, ?_⟩ <;> (first | omega | decide)) | (refine ⟨?_, ?_, ?_⟩ <;> (first | omega | decide)))
local macro_rules | `(tactic| walk_at "ps") => `(tactic| first
  | with_reducible refine r_seq ?_ | with_reducible refine r_asg ?_ | with_reducible refine r_op ?_ | with_reducible refine r_cons ?_ | with_reducible refine r_nil ?_ | with_reducible refine r_c ?_
  | with_reducible refine' r_var rfl ?_ | with_reducible refine r_gname ?_ | with_reducible refine r_cb ?_ | with_reducible refine r_I0 ?_ | with_reducible refine r_ret ?_ | with_reducible refine r_ifS ?_ | with_reducible refine r_test ?_ | with_reducible refine r_B ?_
  | with_reducible refine r_next ?_ | with_reducible refine r_drop ?_ | with_reducible refine r_if ?_ | with_reducible refine r_un ?_ | with_reducible refine r_U ?_ | with_reducible refine r_gsub ?_ | with_reducible refine r_tup ?_ | with_reducible refine r_lst ?_ | with_reducible refine r_bm ?_
  | with_reducible refine r_cal ?_ | with_reducible refine r_not ?_ | with_reducible refine r_and ?_ | with_reducible refine r_or ?_ | with_reducible refine r_andV ?_ | with_reducible refine r_orV ?_ | with_reducible refine r_notV ?_
  | with_reducible refine r_abs ?_ | with_reducible refine r_intI ?_ | with_reducible refine r_intB ?_ | with_reducible refine r_m1 ?_ | with_reducible refine r_slice ?_ | with_reducible refine r_part ?_ | with_reducible refine r_nopart ?_
  | with_reducible refine r_gcons ?_ | with_reducible refine r_gnil ?_
  | with_reducible refine r_par ?_ | with_reducible refine r_par3 ?_ | with_reducible refine r_ex2 ?_ | with_reducible refine r_ex3 ?_
  | with_reducible refine r_isN ?_ | with_reducible refine r_notN ?_
  | with_reducible refine r_iZipA ?_
  | with_reducible refine r_dget ?_ | with_reducible refine r_dget2 ?_ | with_reducible refine r_iKeys ?_ | with_reducible refine r_dput ?_
  | with_reducible refine r_for ?_ | with_reducible refine r_lc ?_ | with_reducible refine r_iList ?_ | with_reducible refine r_iTup ?_ | with_reducible refine r_iRng1 ?_ | with_reducible refine r_iEnum ?_ | with_reducible refine r_orT ?_ | with_reducible refine r_yes ?_ | with_reducible refine r_ixSl ?_)
local macro_rules | `(tactic| walk_at "st") => `(tactic| first
  | walk_at "ps"
  | ((with_reducible refine' r_ixL ?h1 ?h2 ?_); (case h1 => walk_at "sq"); (case h2 => rfl))
  | ((with_reducible refine' r_setL ?h1 ?h2 ?_); (case h1 => walk_at "hp"); (case h2 => rfl))
  | ((with_reducible refine' r_I ?h1 ?_); (case h1 => walk_at "sd"))
  | ((with_reducible refine' r_eq ?h1 ?_); (case h1 => rfl)) | ((with_reducible refine' r_ne ?h1 ?_); (case h1 => rfl))
  | ((with_reducible refine' r_lenL ?h1 ?_); (case h1 => walk_at "sq")) | ((with_reducible refine' r_lenT ?h1 ?_); (case h1 => walk_at "sq")) | ((with_reducible refine' r_lenD ?h1 ?_); (case h1 => walk_at "hp"))
  | ((with_reducible refine' r_slL ?h1 ?_); (case h1 => walk_at "sq"); intro _ _)
  | ((with_reducible refine' r_append ?h1 ?h2 ?_); (case h1 => walk_at "hp"); (case h2 => exact szl (by first | omega | (simp; omega))))
  | ((with_reducible refine' r_gtup ?h1 ?h2 ?_); (case h1 => walk_at "sq"); (case h2 => rfl))
  | ((with_reducible refine' r_cat ?h1 ?h2 ?h3 ?_); (case h1 => walk_at "hp"); (case h2 => walk_at "hp"); (case h3 => exact sz (by first | omega | (simp; omega))); intro _ _)
  | ((with_reducible refine' r_wLst ?h1 ?_); (case h1 => walk_at "sq")) | ((with_reducible refine' r_wTup ?h1 ?_); (case h1 => walk_at "sq"))
  | ((with_reducible refine' r_wRng ?h1 ?_); (case h1 => walk_at "sd"))
  | ((with_reducible refine' r_truL ?h1 ?_); (case h1 => walk_at "sq"))
  | ((with_reducible refine' r_list (Or.inl ?h1) ?_); (case h1 => walk_at "sq"); intro _ _) | ((with_reducible refine' r_list (Or.inr ?h1) ?_); (case h1 => walk_at "sq"); intro _ _)
  | ((with_reducible refine' r_tupL ?h1 ?_); (case h1 => walk_at "sq"); intro _ _) | ((with_reducible refine' r_tupT ?h1 ?_); (case h1 => walk_at "sq"))
  | ((with_reducible refine' r_disp ?h1 ?_); (case h1 => exact Nat.le_of_ble_eq_true rfl); intro _ _)
  | ((with_reducible refine r_dnewK ?_); intro _ _)
  | ((with_reducible refine' r_tyL ?h1 ?_); (case h1 => walk_at "sq")) | with_reducible refine r_strV ?_
  | with_reducible refine r_exb ?_ | with_reducible refine r_exi ?_ | with_reducible refine r_exr ?_ | with_reducible refine r_exs ?_ | with_reducible refine r_exli ?_)
local macro_rules | `(tactic| walk_at "go") => `(tactic| repeat walk_at "st")
local macro_rules | `(tactic| walk_at "in") => `(tactic| dsimp only [noxK, cxK, L2.start, List.map_cons, List.map_nil, List.length_cons, List.length_nil, Nat.reduceAdd, Nat.reduceSub, List.replicate, List.cons_append, List.nil_append])

section
variable {P : Program} {w : World} {K : PySem.W.Frag} {mg : Str → Option Value} {base : Heap} {C CN : Addr}
abbrev sLaw : Stmt := top 32
theorem scLaw : FnScope ["_law_script", "_law_cells_here", "_law_k"] ["_law_script"] (defScope sLaw) := ⟨rfl, rfl, rfl, by decide +kernel, rfl, by decide +kernel, by decide +kernel⟩
def spLaw (K : PySem.W.Frag) : Sp := fun vs H Q _ => ∃ (a : Addr) (ns : List Int), vs = [.ref a] ∧ SqL K H a (ns.map V.int) ∧ ns.length ≤ 63 ∧ ∀ H', Q (.bl true) H'
theorem ok_law {f : Addr} {fd : FuncData} (F : Fun K "law" "law" sLaw f fd) (T : Txt K mg) (Cc : Cal P w K mg base CX0 1 "_law_cells" ["_law_script", "_law_most_so"] (spCells K)) (Cb : Cal P w K mg base CX0 1 "_law_box" ["_law_script", "_law_k"] (spBox K)) (Cr : Cal P w K mg base CX0 7 "_law_right" ["_law_box_here"] spRight) : FnOk P w K mg base CX0 8 f fd ["_law_script"] (spLaw K) := by
  refine F.ok scLaw (fun vs H Q E h => ?_) (fun cdv A outer s H vs Q E hr h => ?_)
  · obtain ⟨a, ns, rfl, _⟩ := h
    rfl
  · obtain ⟨a, ns, rfl, hx, hl, q⟩ := h
    refine ⟨_, (pss_cons (ps_set (i := 1) scLaw.nd rfl (Or.inr rfl) (pe_cal Cc (hr.mono (by decide)) pass0 (pa_cons (pv 0) (pa_cons pe_int pa_nil))))
  (pss_one (ps_ret (pe_callB (cr_all rfl) (by rfl) T.all (by decide +kernel) (pa_cons (pe_lc (own := [("_law_k", 2)]) (g := gName 2) (tt := tYes) rfl scLaw.nd (pi_range1 rfl T.range (pa_cons (pe_callB c_lenL (by rfl) T.len (by decide +kernel) (pa_cons (pv 1) pa_nil)) pa_nil)) (blkOk_by (N := ["_law_script", "_law_cells_here", "_law_k"]) (sc := defScope sLaw) (by decide +kernel)) (fun _ _ _ _ _ => (pg_name (i := 2) scLaw.nd rfl (Or.inl rfl))) (fun _ _ _ _ _ => pts_nil) (fun _ _ _ _ _ => (pe_cal Cr hr pass0 (pa_cons (pe_cal Cb (hr.mono (by decide)) pass0 (pa_cons (pv 1) (pa_cons (pv 2) pa_nil))) pa_nil)))) pa_nil))))), ?_⟩
    walk_at "in"
    walk_at "go"
    refine ⟨a, ns, rfl, hx, hl, fun p ms H1 hp m1 m3 hp1 s1 => ?_⟩
    walk_at "go"
    refine ⟨by rw [List.length_map]; omega, by rw [List.length_map]; omega, ?_⟩
    intro D hD
    have nDp : D ≠ p := fun z => by rw [z, hp1] at hD; cases hD
    have el : (((ms.map V.int).length : Nat) : Int).toNat = ms.length := by rw [List.length_map]; rfl
    rw [el]
    refine lc_it (walk_range (n := ms.length)) (fun i H' => H' D = some (.lst ((List.replicate i true).map V.bl)) ∧ Same H1 H') ?_ ?_ ?_ ?_
    · exact ⟨upd_same, fun c o e => upd_at e (ne_of_none e hD)⟩
    · intro _ _ _ _
      trivial
    · rintro i _ _ H2 hi ⟨hD2, s2⟩ ⟨rfl, rfl⟩
      walk_at "go"
      refine ⟨rfl, ?_⟩
      walk_at "go"
      refine iteT ?_
      walk_at "go"
      refine ⟨p, ms, i, ?_, SqL.of (s2 _ _ hp1), hi, by omega, fun b H3 hb hb3 s3 => ?_⟩
      · show [V.ref p, V.int (0 + (i : Int))] = _
        rw [Int.zero_add]
      walk_at "go"
      refine ⟨b, 899999000, rfl, hb3.mono (by decide), fun H4 k4 => ?_⟩
      have keep : ∀ c o, H2 c = some o → H4 c = some o := fun c o e => k4 _ _ (s3 _ _ e) (ne_of_none e hb)
      refine ⟨_, keep _ _ hD2, szl (by rw [List.length_map, List.length_replicate]; omega), ?_, fun c o e => ?_⟩
      · rw [List.replicate_succ', List.map_append]
        exact upd_same
      · exact upd_at (keep _ _ (s2 _ _ e)) (ne_of_none e hD)
    · rintro H2 ⟨hD2, s2⟩
      walk_at "go"
      refine r_all (SqL.of hD2) ?_
      rw [List.all_replicate]
      have e : (if ms.length = 0 then true else id true) = true := by split <;> rfl
      first | rw [e] | skip
      exact q _
end
end My

namespace My
open PySem L2
local macro_rules | `(tactic| walk_at "bx1") => `(tactic| first | with_reducible assumption | ((with_reducible refine' Bx.upd ?h1 ?h2); (case h1 => walk_at "bx1"); (case h2 => walk_at "ne")) | ((with_reducible refine' Bx.same ?h1 (by with_reducible assumption)); (case h1 => walk_at "bx1")))
local macro_rules | `(tactic| walk_at "bx") => `(tactic| (refine' Bx.mono ?h1 ?h2; (case h1 => walk_at "bx1"); (case h2 => omega)))
local macro_rules | `(tactic| walk_at "ne") => `(tactic| first | with_reducible assumption | exact Ne.symm (by with_reducible assumption) | ((with_reducible refine' ne_of_none ?h1 (by with_reducible assumption)); (case h1 => walk_at "hp")) | ((with_reducible refine' Ne.symm (ne_of_none ?h1 (by with_reducible assumption))); (case h1 => walk_at "hp")) | ((with_reducible refine' Bx.ne ?h1 (by with_reducible assumption)); (case h1 => walk_at "bx1")) | ((with_reducible refine' Ne.symm (Bx.ne ?h1 (by with_reducible assumption))); (case h1 => walk_at "bx1")))
local macro_rules | `(tactic| walk_at "hp") => `(tactic| first | with_reducible assumption | ((with_reducible refine' (upd_same.trans ?h1)); (case h1 => rfl)) | ((with_reducible refine' My.upd_at ?h1 ?h2); (case h1 => walk_at "hp"); (case h2 => walk_at "ne")) | ((with_reducible refine' My.Kp.at (by with_reducible assumption) ?h1 ?h2); (case h1 => walk_at "hp"); (case h2 => walk_at "ne")) | ((with_reducible refine' My.Same.at (by with_reducible assumption) ?h1); (case h1 => walk_at "hp")))
local macro_rules | `(tactic| walk_at "sq") => `(tactic| first | with_reducible assumption | exact SqL.of (by walk_at "hp") | exact SqT.of (by walk_at "hp") | ((with_reducible refine' My.SqT.upd ?h1 (by with_reducible assumption)); (case h1 => walk_at "sq")) | ((with_reducible refine' My.SqL.upd ?h1 (by with_reducible assumption)); (case h1 => walk_at "sq")) | ((with_reducible refine' Same.seq (by with_reducible assumption) ?h1); (case h1 => walk_at "sq")) | ((with_reducible refine' My.SqT.same ?h1 (by with_reducible assumption)); (case h1 => walk_at "sq")) | ((with_reducible refine' My.SqT.kp ?h1 (by with_reducible assumption) ?h2); (case h1 => walk_at "sq"); (case h2 => walk_at "bx1")) | ((with_reducible refine' My.SqL.kp ?h1 (by with_reducible assumption) ?h2); (case h1 => walk_at "sq"); (case h2 => walk_at "ne")))
local macro_rules | `(tactic| walk_at "sd") => `(tactic| first | assumption | omega | decide | (refine ⟨?_, ?_⟩ <;> (first | omega | decide)) | (refine Or.inl ⟨?_, ?_⟩ <;> (first | omega | decide)) | (refine Or.inr ⟨?_, ?_⟩ <;> (first | omega | decide)) | (refine ⟨?_, ?_, ?_⟩ <;> (first | omega | decide)))
local macro_rules | `(tactic| walk_at "ps") => `(tactic| first
  | with_reducible refine r_seq ?_ | with_reducible refine r_asg ?_ | with_reducible refine r_op ?_ | with_reducible refine r_cons ?_ | with_reducible refine r_nil ?_ | with_reducible refine r_c ?_
  | with_reducible refine' r_var rfl ?_ | with_reducible refine r_gname ?_ | with_reducible refine r_cb ?_ | with_reducible refine r_I0 ?_ | with_reducible refine r_ret ?_ | with_reducible refine r_ifS ?_ | with_reducible refine r_test ?_ | with_reducible refine r_B ?_
  | with_reducible refine r_next ?_ | with_reducible refine r_drop ?_ | with_reducible refine r_if ?_ | with_reducible refine r_un ?_ | with_reducible refine r_U ?_ | with_reducible refine r_gsub ?_ | with_reducible refine r_tup ?_ | with_reducible refine r_lst ?_ | with_reducible refine r_bm ?_
  | with_reducible refine r_cal ?_ | with_reducible refine r_not ?_ | with_reducible refine r_and ?_ | with_reducible refine r_or ?_ | with_reducible refine r_andV ?_ | with_reducible refine r_orV ?_ | with_reducible refine r_notV ?_
  | with_reducible refine r_abs ?_ | with_reducible refine r_intI ?_ | with_reducible refine r_intB ?_ | with_reducible refine r_m1 ?_ | with_reducible refine r_slice ?_ | with_reducible refine r_part ?_ | with_reducible refine r_nopart ?_
  | with_reducible refine r_gcons ?_ | with_reducible refine r_gnil ?_
  | with_reducible refine r_par ?_ | with_reducible refine r_par3 ?_ | with_reducible refine r_ex2 ?_ | with_reducible refine r_ex3 ?_
  | with_reducible refine r_isN ?_ | with_reducible refine r_notN ?_
  | with_reducible refine r_iZipA ?_
  | with_reducible refine r_dget ?_ | with_reducible refine r_dget2 ?_ | with_reducible refine r_iKeys ?_ | with_reducible refine r_dput ?_
  | with_reducible refine r_for ?_ | with_reducible refine r_lc ?_ | with_reducible refine r_iList ?_ | with_reducible refine r_iTup ?_ | with_reducible refine r_iRng1 ?_ | with_reducible refine r_iEnum ?_ | with_reducible refine r_orT ?_ | with_reducible refine r_yes ?_ | with_reducible refine r_ixSl ?_)
local macro_rules | `(tactic| walk_at "st") => `(tactic| first
  | walk_at "ps"
  | ((with_reducible refine' r_ixL ?h1 ?h2 ?_); (case h1 => walk_at "sq"); (case h2 => rfl))
  | ((with_reducible refine' r_setL ?h1 ?h2 ?_); (case h1 => walk_at "hp"); (case h2 => rfl))
  | ((with_reducible refine' r_I ?h1 ?_); (case h1 => walk_at "sd"))
  | ((with_reducible refine' r_eq ?h1 ?_); (case h1 => rfl)) | ((with_reducible refine' r_ne ?h1 ?_); (case h1 => rfl))
  | ((with_reducible refine' r_lenL ?h1 ?_); (case h1 => walk_at "sq")) | ((with_reducible refine' r_lenT ?h1 ?_); (case h1 => walk_at "sq")) | ((with_reducible refine' r_lenD ?h1 ?_); (case h1 => walk_at "hp"))
  | ((with_reducible refine' r_slL ?h1 ?_); (case h1 => walk_at "sq"); intro _ _)
  | ((with_reducible refine' r_append ?h1 ?h2 ?_); (case h1 => walk_at "hp"); (case h2 => exact szl (by first | omega | (simp; omega))))
  | ((with_reducible refine' r_gtup ?h1 ?h2 ?_); (case h1 => walk_at "sq"); (case h2 => rfl))
  | ((with_reducible refine' r_cat ?h1 ?h2 ?h3 ?_); (case h1 => walk_at "hp"); (case h2 => walk_at "hp"); (case h3 => exact sz (by first | omega | (simp; omega))); intro _ _)
  | ((with_reducible refine' r_wLst ?h1 ?_); (case h1 => walk_at "sq")) | ((with_reducible refine' r_wTup ?h1 ?_); (case h1 => walk_at "sq"))
  | ((with_reducible refine' r_wRng ?h1 ?_); (case h1 => walk_at "sd"))
  | ((with_reducible refine' r_truL ?h1 ?_); (case h1 => walk_at "sq"))
  | ((with_reducible refine' r_list (Or.inl ?h1) ?_); (case h1 => walk_at "sq"); intro _ _) | ((with_reducible refine' r_list (Or.inr ?h1) ?_); (case h1 => walk_at "sq"); intro _ _)
  | ((with_reducible refine' r_tupL ?h1 ?_); (case h1 => walk_at "sq"); intro _ _) | ((with_reducible refine' r_tupT ?h1 ?_); (case h1 => walk_at "sq"))
  | ((with_reducible refine' r_disp ?h1 ?_); (case h1 => exact Nat.le_of_ble_eq_true rfl); intro _ _)
  | ((with_reducible refine r_dnewK ?_); intro _ _)
  | ((with_reducible refine' r_tyL ?h1 ?_); (case h1 => walk_at "sq")) | with_reducible refine r_strV ?_
  | with_reducible refine r_exb ?_ | with_reducible refine r_exi ?_ | with_reducible refine r_exr ?_ | with_reducible refine r_exs ?_ | with_reducible refine r_exli ?_)
local macro_rules | `(tactic| walk_at "go") => `(tactic| repeat walk_at "st")
local macro_rules | `(tactic| walk_at "in") => `(tactic| dsimp only [noxK, cxK, L2.start, List.map_cons, List.map_nil, List.length_cons, List.length_nil, Nat.reduceAdd, Nat.reduceSub, List.replicate, List.cons_append, List.nil_append])

theorem r_ost {K : PySem.W.Frag} {f : Str} {to te : TE} {D : Ends} {σ : L2.St} {H : Hp} (h : te σ H fun y H1 => to σ H1 fun x H2 => ∃ a C : Addr, x = .ref a ∧ OexC K C ∧ PySem.W.findIn K (.ref C) f = some none ∧ ((H2 a = some (exo a C none) ∧ ∀ dx, H2 dx = none → dx ≠ a → D.nx σ (upd (upd H2 dx (exd dx [(f, y)])) a (exo a C (some dx)))) ∨ ∃ (dx : Addr) (fs : List (Str × V)), H2 a = some (exo a C (some dx)) ∧ H2 dx = some (exd dx fs) ∧ fs.length ≤ 900 ∧ D.nx σ (upd H2 dx (exd dx ((f, y) :: fs))))) : tOst K f to te D σ H := h
section
variable {P : Program} {w : World} {K : PySem.W.Frag} {mg : Str → Option Value} {base : Heap} {C : Addr}
abbrev sBelowInit : Stmt := inClass (top 2) 0
theorem scBelowInit : FnScope ["self", "kind", "many"] ["self", "kind", "many"] (defScope sBelowInit) := ⟨rfl, rfl, rfl, by decide +kernel, rfl, by decide +kernel, by decide +kernel⟩
theorem ok_iBelow {f : Addr} {fd : FuncData} (F : Fun K "__init__" "Below.__init__" sBelowInit f fd) (T : OexC K C) (h1 : PySem.W.findIn K (.ref C) "kind" = some none) (h2 : PySem.W.findIn K (.ref C) "many" = some none) : FnOk P w K mg base CX0 1 f fd ["self", "kind", "many"] (spI2 C "kind" "many") := by
  refine F.ok scBelowInit (fun vs H Q E h => ?_) (fun cdv A outer s H vs Q E hr h => ?_)
  · obtain ⟨a, y, z, rfl, _⟩ := h
    rfl
  · obtain ⟨a, y, z, rfl, ha, q⟩ := h
    refine ⟨_, pss_cons (ps_ost (pv 0) (pv 1)) (pss_one (ps_ost (pv 0) (pv 2))), ?_⟩
    walk_at "in"
    refine r_seq (r_ost (r_var rfl (r_var rfl ⟨a, C, rfl, T, h1, .inl ⟨ha, fun d hd nda => ?_⟩⟩)))
    exact r_ost (r_var rfl (r_var rfl ⟨a, C, rfl, T, h2, .inr ⟨d, [("kind", y)], upd_same, by rw [upd_ne nda]; exact upd_same, by simp, q d hd nda⟩⟩))
end
end My

namespace My
open PySem L2

theorem same0 {P : Program} {w : World} {K : PySem.W.Frag} {mg : Str → Option Value} {base : Heap} {f : Addr} {fd : FuncData} : FnOk P w K mg base CX0 0 f fd ["_law_got", "_law_due"] (spSame K 0) :=
  ⟨fun vs H Q E h => by obtain ⟨x, y, rfl, _⟩ := h; rfl, fun A outer s H args us vs Q E hr e b r h => by obtain ⟨x, y, _, hs, _⟩ := h; exact hs.elim⟩

theorem all_mk {l : PySem.W.OpenLaw} {w : World} {K : PySem.W.Frag} {h : Heap} {mg : Str → Option Value} {fa : Addr} (X : K.In h) (G : h.Ns mainGlobals mg) (hfa : mg "law" = some (.ref fa))
    {fm0 : Addr} {fm1 : Addr} {fm2 : Addr} {fm3 : Addr} {fm4 : Addr} {fm5 : Addr} {fm6 : Addr} {fm7 : Addr} {fm8 : Addr} {fm9 : Addr} {fm10 : Addr} {fm11 : Addr} {fm12 : Addr} {fm13 : Addr} {fm14 : Addr} {fm15 : Addr} {fm16 : Addr} {fm17 : Addr} {fm18 : Addr} {fm19 : Addr} {C : Addr} {fc0 : Addr} {fc1 : Addr} {fc2 : Addr} {fc3 : Addr} {fc4 : Addr} {fc5 : Addr} {fc6 : Addr} {fiC t0 : Addr} {cpLotOf cgLotOf : Addr} {crestLotOf : List Value} {CB fiB : Addr} {CN : Addr} {uLETTERS : Value} {uDIGITS : Value} {uLONGEST_KIND : Value} {uMOST_DIGITS : Value}
    (am0 : PySem.W.nsIn K mainGlobals "is_kind" = some (some (.ref fm0)))
    (Dm0 : ∃ fd, Fun K "is_kind" "is_kind" sIsKind fm0 fd)
    (am1 : PySem.W.nsIn K mainGlobals "_is_many" = some (some (.ref fm1)))
    (Dm1 : ∃ fd, Fun K "_is_many" "_is_many" sOwnIsMany fm1 fd)
    (am2 : PySem.W.nsIn K mainGlobals "_counted" = some (some (.ref fm2)))
    (Dm2 : ∃ fd, Fun K "_counted" "_counted" sOwnCounted fm2 fd)
    (am3 : PySem.W.nsIn K mainGlobals "_law_box" = some (some (.ref fm3)))
    (Dm3 : ∃ fd, Fun K "_law_box" "_law_box" sBox fm3 fd)
    (am4 : PySem.W.nsIn K mainGlobals "_law_take" = some (some (.ref fm4)))
    (Dm4 : ∃ fd, Fun K "_law_take" "_law_take" sTake fm4 fd)
    (am5 : PySem.W.nsIn K mainGlobals "_law_cells" = some (some (.ref fm5)))
    (Dm5 : ∃ fd, Fun K "_law_cells" "_law_cells" sCells fm5 fd)
    (am6 : PySem.W.nsIn K mainGlobals "_law_of" = some (some (.ref fm6)))
    (Dm6 : ∃ fd, Fun K "_law_of" "_law_of" sOf fm6 fd)
    (am7 : PySem.W.nsIn K mainGlobals "_law_same" = some (some (.ref fm7)))
    (Dm7 : ∃ fd, Fun K "_law_same" "_law_same" sSame fm7 fd)
    (am8 : PySem.W.nsIn K mainGlobals "_law_rising" = some (some (.ref fm8)))
    (Dm8 : ∃ fd, Fun K "_law_rising" "_law_rising" sRising fm8 fd)
    (am9 : PySem.W.nsIn K mainGlobals "_law_mixed" = some (some (.ref fm9)))
    (Dm9 : ∃ fd, Fun K "_law_mixed" "_law_mixed" sMixed fm9 fd)
    (am10 : PySem.W.nsIn K mainGlobals "_law_names" = some (some (.ref fm10)))
    (Dm10 : ∃ fd, Fun K "_law_names" "_law_names" sNames fm10 fd)
    (am11 : PySem.W.nsIn K mainGlobals "_law_pairs" = some (some (.ref fm11)))
    (Dm11 : ∃ fd, Fun K "_law_pairs" "_law_pairs" sPairs fm11 fd)
    (am12 : PySem.W.nsIn K mainGlobals "_law_counted" = some (some (.ref fm12)))
    (Dm12 : ∃ fd, Fun K "_law_counted" "_law_counted" sCounted fm12 fd)
    (am13 : PySem.W.nsIn K mainGlobals "_law_text" = some (some (.ref fm13)))
    (Dm13 : ∃ fd, Fun K "_law_text" "_law_text" sText fm13 fd)
    (am14 : PySem.W.nsIn K mainGlobals "_law_figures" = some (some (.ref fm14)))
    (Dm14 : ∃ fd, Fun K "_law_figures" "_law_figures" sFigures fm14 fd)
    (am15 : PySem.W.nsIn K mainGlobals "_law_read" = some (some (.ref fm15)))
    (Dm15 : ∃ fd, Fun K "_law_read" "_law_read" sRead fm15 fd)
    (am16 : PySem.W.nsIn K mainGlobals "_law_asked" = some (some (.ref fm16)))
    (Dm16 : ∃ fd, Fun K "_law_asked" "_law_asked" sAsked fm16 fd)
    (am17 : PySem.W.nsIn K mainGlobals "_law_bent" = some (some (.ref fm17)))
    (Dm17 : ∃ fd, Fun K "_law_bent" "_law_bent" sBent fm17 fd)
    (am18 : PySem.W.nsIn K mainGlobals "_law_right" = some (some (.ref fm18)))
    (Dm18 : ∃ fd, Fun K "_law_right" "_law_right" sRight fm18 fd)
    (am19 : PySem.W.nsIn K mainGlobals "law" = some (some (.ref fm19)))
    (Dm19 : ∃ fd, Fun K "law" "law" sLaw fm19 fd)
    (aC : PySem.W.nsIn K mainGlobals "Lot" = some (some (.ref C)))
    (KC : CC K C)
    (nC_many : PySem.W.findIn K (.ref C) "_many" = some none)
    (ac0 : PySem.W.findIn K (.ref C) "__setitem__" = some (some (.ref fc0)))
    (ic0 : PySem.W.isFn K (.ref fc0) = true)
    (nc0 : PySem.W.fnIn K fc0 = true)
    (Dc0 : ∃ fd, Fun K "__setitem__" "Lot.__setitem__" sLotSetitem fc0 fd)
    (ac1 : PySem.W.findIn K (.ref C) "__len__" = some (some (.ref fc1)))
    (ic1 : PySem.W.isFn K (.ref fc1) = true)
    (nc1 : PySem.W.fnIn K fc1 = true)
    (Dc1 : ∃ fd, Fun K "__len__" "Lot.__len__" sLotLen fc1 fd)
    (ac2 : PySem.W.findIn K (.ref C) "__eq__" = some (some (.ref fc2)))
    (ic2 : PySem.W.isFn K (.ref fc2) = true)
    (nc2 : PySem.W.fnIn K fc2 = true)
    (Dc2 : ∃ fd, Fun K "__eq__" "Lot.__eq__" sLotEq fc2 fd)
    (ac3 : PySem.W.findIn K (.ref C) "kinds" = some (some (.ref fc3)))
    (ic3 : PySem.W.isFn K (.ref fc3) = true)
    (nc3 : PySem.W.fnIn K fc3 = true)
    (Dc3 : ∃ fd, Fun K "kinds" "Lot.kinds" sLotKinds fc3 fd)
    (ac4 : PySem.W.findIn K (.ref C) "pairs" = some (some (.ref fc4)))
    (ic4 : PySem.W.isFn K (.ref fc4) = true)
    (nc4 : PySem.W.fnIn K fc4 = true)
    (Dc4 : ∃ fd, Fun K "pairs" "Lot.pairs" sLotPairs fc4 fd)
    (ac5 : PySem.W.findIn K (.ref C) "__iadd__" = some (some (.ref fc5)))
    (ic5 : PySem.W.isFn K (.ref fc5) = true)
    (nc5 : PySem.W.fnIn K fc5 = true)
    (Dc5 : ∃ fd, Fun K "__iadd__" "Lot.__iadd__" sLotIadd fc5 fd)
    (ac6 : PySem.W.findIn K (.ref C) "text" = some (some (.ref fc6)))
    (ic6 : PySem.W.isFn K (.ref fc6) = true)
    (nc6 : PySem.W.fnIn K fc6 = true)
    (Dc6 : ∃ fd, Fun K "text" "Lot.text" sLotText fc6 fd)
    (aiC : PySem.W.findIn K (.ref C) "__init__" = some (some (.ref fiC)))
    (iiC : PySem.W.isFn K (.ref fiC) = true)
    (DiC : ∃ fd, FunD K "__init__" "Lot.__init__" (defArgs sLotInit) (defBody sLotInit) (defScope sLotInit) [.ref t0] [] fiC fd)
    (S0C : ∀ H, SqT K H t0 [])
    (rdC : PySem.W.readsIn K C (.type "type") = true)
    (grC : PySem.W.specialIn K (.ref C) "__getattribute__" = some (some (.builtin "type.__getattribute__")))
    (cfLotOf : PySem.W.findCls K (.ref C) (.type "type") "of" = some (.get (.builtin "classmethod.__get__") (.ref cpLotOf) .none (.ref C)))
    (crLotOf : PySem.W.recIn K cpLotOf "classmethod" = some (.ref cgLotOf :: crestLotOf))
    (cnLotOf : PySem.W.fnIn K cgLotOf = true)
    (DxLotOf : ∃ fd, Fun K "of" "Lot.of" sLotOf cgLotOf fd)
    (aeB : PySem.W.nsIn K mainGlobals "Below" = some (some (.ref CB)))
    (EfB : EF K CB)
    (LkB : LK K CB bmV "ValueError.__new__")
    (aiB : PySem.W.findIn K (.ref CB) "__init__" = some (some (.ref fiB)))
    (tiB : PySem.W.typeIn K (.ref fiB) = some (.type "function"))
    (DiB : ∃ fd, Fun K "__init__" "Below.__init__" sBelowInit fiB fd)
    (aeN : PySem.W.nsIn K mainGlobals "BadText" = some (some (.ref CN)))
    (EfN : EF K CN)
    (LkN : LK K CN [.type "ValueError", .type "Exception", .type "BaseException", .type "object"] "ValueError.__new__")
    (xeN : PySem.W.excIn K CN [.type "ValueError", .type "Exception", .type "BaseException", .type "object"] "ValueError.__new__" = true)
    (auLETTERS : PySem.W.nsIn K mainGlobals "_LETTERS" = some (some uLETTERS))
    (ruLETTERS : RelV (.str sAbc) uLETTERS)
    (auDIGITS : PySem.W.nsIn K mainGlobals "_DIGITS" = some (some uDIGITS))
    (ruDIGITS : RelV (.str sDig) uDIGITS)
    (auLONGEST_KIND : PySem.W.nsIn K mainGlobals "_LONGEST_KIND" = some (some uLONGEST_KIND))
    (ruLONGEST_KIND : RelV (.int 8) uLONGEST_KIND)
    (auMOST_DIGITS : PySem.W.nsIn K mainGlobals "_MOST_DIGITS" = some (some uMOST_DIGITS))
    (ruMOST_DIGITS : RelV (.int 300) uMOST_DIGITS)
    (hn : PySem.W.specialIn K (.builtin "object.__class__") "__get__" = some (some (.builtin "getset_descriptor.__get__")))
    (ht : PySem.W.takesIn K (.builtin "object.__class__") = some true)
    (z_int : PySem.W.nsIn K mainGlobals "int" = some none)
    (z_len : PySem.W.nsIn K mainGlobals "len" = some none)
    (z_abs : PySem.W.nsIn K mainGlobals "abs" = some none)
    (z_list : PySem.W.nsIn K mainGlobals "list" = some none)
    (z_tuple : PySem.W.nsIn K mainGlobals "tuple" = some none)
    (z_range : PySem.W.nsIn K mainGlobals "range" = some none)
    (z_enumerate : PySem.W.nsIn K mainGlobals "enumerate" = some none)
    (z_isinstance : PySem.W.nsIn K mainGlobals "isinstance" = some none)
    (z_all : PySem.W.nsIn K mainGlobals "all" = some none)
    (z_zip : PySem.W.nsIn K mainGlobals "zip" = some none)
    (z_dict : PySem.W.nsIn K mainGlobals "dict" = some none)
    (z_bool : PySem.W.nsIn K mainGlobals "bool" = some none)
    (z_str : PySem.W.nsIn K mainGlobals "str" = some none)
    (z_set : PySem.W.nsIn K mainGlobals "set" = some none)
    (z_sorted : PySem.W.nsIn K mainGlobals "sorted" = some none)
    (z_min : PySem.W.nsIn K mainGlobals "min" = some none)
    (z_sum : PySem.W.nsIn K mainGlobals "sum" = some none)
    (z_ValueError : PySem.W.nsIn K mainGlobals "ValueError" = some none) :
    ∃ fd : FuncData, (∀ (s : Shared) (v : Value), BindsTo s fd ⟨[v], []⟩ [("_law_script", v)]) ∧ ∀ base : Heap, K.In base → base.Ns mainGlobals mg → FnOk l.prog w K mg base CX0 8 fa fd ["_law_script"] (spLaw K) := by
  have e := hfa.symm.trans (PySem.W.mg_of X G am19)
  cases e
  have T : Txt K mg := ⟨PySem.W.mg_none_of X G z_int, PySem.W.mg_none_of X G z_len, PySem.W.mg_none_of X G z_abs, PySem.W.mg_none_of X G z_list, PySem.W.mg_none_of X G z_tuple, PySem.W.mg_none_of X G z_range, PySem.W.mg_none_of X G z_enumerate, PySem.W.mg_none_of X G z_isinstance, PySem.W.mg_none_of X G z_all, PySem.W.mg_none_of X G z_zip, PySem.W.mg_none_of X G z_dict, PySem.W.mg_none_of X G z_bool, PySem.W.mg_none_of X G z_str, PySem.W.mg_none_of X G z_set, PySem.W.mg_none_of X G z_sorted, PySem.W.mg_none_of X G z_min, PySem.W.mg_none_of X G z_sum⟩
  obtain ⟨dm0, Fm0⟩ := Dm0
  have bm0 := Fm0.binds (ps := ["word"]) fun _ _ _ _ _ _ us hl => match us, hl with | [_], _ => rfl
  obtain ⟨dm1, Fm1⟩ := Dm1
  have bm1 := Fm1.binds (ps := ["word"]) fun _ _ _ _ _ _ us hl => match us, hl with | [_], _ => rfl
  obtain ⟨dm2, Fm2⟩ := Dm2
  have bm2 := Fm2.binds (ps := ["pairs"]) fun _ _ _ _ _ _ us hl => match us, hl with | [_], _ => rfl
  obtain ⟨dm3, Fm3⟩ := Dm3
  have bm3 := Fm3.binds (ps := ["_law_script", "_law_k"]) fun _ _ _ _ _ _ us hl => match us, hl with | [_, _], _ => rfl
  obtain ⟨dm4, Fm4⟩ := Dm4
  have bm4 := Fm4.binds (ps := ["_law_box_here", "_law_below"]) fun _ _ _ _ _ _ us hl => match us, hl with | [_, _], _ => rfl
  obtain ⟨dm5, Fm5⟩ := Dm5
  have bm5 := Fm5.binds (ps := ["_law_script", "_law_most_so"]) fun _ _ _ _ _ _ us hl => match us, hl with | [_, _], _ => rfl
  obtain ⟨dm6, Fm6⟩ := Dm6
  have bm6 := Fm6.binds (ps := ["_law_box_here", "_law_some"]) fun _ _ _ _ _ _ us hl => match us, hl with | [_, _], _ => rfl
  obtain ⟨dm7, Fm7⟩ := Dm7
  have bm7 := Fm7.binds (ps := ["_law_got", "_law_due"]) fun _ _ _ _ _ _ us hl => match us, hl with | [_, _], _ => rfl
  obtain ⟨dm8, Fm8⟩ := Dm8
  have bm8 := Fm8.binds (ps := ["_law_rows_so"]) fun _ _ _ _ _ _ us hl => match us, hl with | [_], _ => rfl
  obtain ⟨dm9, Fm9⟩ := Dm9
  have bm9 := Fm9.binds (ps := ["_law_box_here", "_law_rows_so"]) fun _ _ _ _ _ _ us hl => match us, hl with | [_, _], _ => rfl
  obtain ⟨dm10, Fm10⟩ := Dm10
  have bm10 := Fm10.binds (ps := ["_law_box_here", "_law_some"]) fun _ _ _ _ _ _ us hl => match us, hl with | [_, _], _ => rfl
  obtain ⟨dm11, Fm11⟩ := Dm11
  have bm11 := Fm11.binds (ps := ["_law_numbers_so"]) fun _ _ _ _ _ _ us hl => match us, hl with | [_], _ => rfl
  obtain ⟨dm12, Fm12⟩ := Dm12
  have bm12 := Fm12.binds (ps := ["_law_pairs_so"]) fun _ _ _ _ _ _ us hl => match us, hl with | [_], _ => rfl
  obtain ⟨dm13, Fm13⟩ := Dm13
  have bm13 := Fm13.binds (ps := ["_law_pairs_so"]) fun _ _ _ _ _ _ us hl => match us, hl with | [_], _ => rfl
  obtain ⟨dm14, Fm14⟩ := Dm14
  have bm14 := Fm14.binds (ps := ["_law_word"]) fun _ _ _ _ _ _ us hl => match us, hl with | [_], _ => rfl
  obtain ⟨dm15, Fm15⟩ := Dm15
  have bm15 := Fm15.binds (ps := ["_law_line_so"]) fun _ _ _ _ _ _ us hl => match us, hl with | [_], _ => rfl
  obtain ⟨dm16, Fm16⟩ := Dm16
  have bm16 := Fm16.binds (ps := ["_law_line_so"]) fun _ _ _ _ _ _ us hl => match us, hl with | [_], _ => rfl
  obtain ⟨dm17, Fm17⟩ := Dm17
  have bm17 := Fm17.binds (ps := ["_law_box_here", "_law_line_so"]) fun _ _ _ _ _ _ us hl => match us, hl with | [_, _], _ => rfl
  obtain ⟨dm18, Fm18⟩ := Dm18
  have bm18 := Fm18.binds (ps := ["_law_box_here"]) fun _ _ _ _ _ _ us hl => match us, hl with | [_], _ => rfl
  obtain ⟨dm19, Fm19⟩ := Dm19
  have bm19 := Fm19.binds (ps := ["_law_script"]) fun _ _ _ _ _ _ us hl => match us, hl with | [_], _ => rfl
  have gC := PySem.W.mg_of X G aC
  obtain ⟨dc0, Fc0⟩ := Dc0
  have bc0 := Fc0.binds (ps := ["self", "at", "worth"]) fun _ _ _ _ _ _ us hl => match us, hl with | [_, _, _], _ => rfl
  obtain ⟨dc1, Fc1⟩ := Dc1
  have bc1 := Fc1.binds (ps := ["self"]) fun _ _ _ _ _ _ us hl => match us, hl with | [_], _ => rfl
  obtain ⟨dc2, Fc2⟩ := Dc2
  have bc2 := Fc2.binds (ps := ["self", "other"]) fun _ _ _ _ _ _ us hl => match us, hl with | [_, _], _ => rfl
  obtain ⟨dc3, Fc3⟩ := Dc3
  have bc3 := Fc3.binds (ps := ["self"]) fun _ _ _ _ _ _ us hl => match us, hl with | [_], _ => rfl
  obtain ⟨dc4, Fc4⟩ := Dc4
  have bc4 := Fc4.binds (ps := ["self"]) fun _ _ _ _ _ _ us hl => match us, hl with | [_], _ => rfl
  obtain ⟨dc5, Fc5⟩ := Dc5
  have bc5 := Fc5.binds (ps := ["self", "other"]) fun _ _ _ _ _ _ us hl => match us, hl with | [_, _], _ => rfl
  obtain ⟨dc6, Fc6⟩ := Dc6
  have bc6 := Fc6.binds (ps := ["self"]) fun _ _ _ _ _ _ us hl => match us, hl with | [_], _ => rfl
  obtain ⟨dnC, FnC⟩ := DiC
  have bnC : Binds K dnC ["self", "pairs"] [] := binds_full FnC (by simp) (fun T kV doc pm an cdv ct us hl => match us, hl with | [_, _], _ => ⟨_, rfl, fun its hi => match its, hi with | [_], _ => rfl⟩)
  obtain ⟨dxLotOf, FxLotOf⟩ := DxLotOf
  have bxLotOf := FxLotOf.binds (ps := ["cls", "text"]) fun _ _ _ _ _ _ us hl => match us, hl with | [_, _], _ => rfl
  have kxLotOf : KBinds K dxLotOf ["cls", "text"] ["text"] g1 g1 := kb_mk FxLotOf fun _ _ _ _ _ _ _ _ => rfl
  obtain ⟨diB, FiB⟩ := DiB
  have bB : Binds K diB ["self", "kind", "many"] [] := FiB.binds (ps := ["self", "kind", "many"]) fun _ _ _ _ _ _ us hl => match us, hl with | [_, _, _], _ => rfl
  have pB : KBn K diB ["self", "kind", "many"] 3 [] (fun us _ => us) (fun vs _ => vs) := kbn_mk FiB (fun r _ => r) fun _ _ _ _ _ _ us ws hl hw => match us, ws, hl, hw with | [_, _, _], [], _, _ => rfl
  have qB : KBn K diB ["self", "kind", "many"] 1 ["many", "kind"] (fun us ws => us ++ ws.reverse) (fun vs zs => vs ++ zs.reverse) := kbn_mk FiB (fun r s => r.append (vals_rev s)) fun _ _ _ _ _ _ us ws hl hw => match us, ws, hl, hw with | [_], [_, _], _, _ => rfl
  have OB : ∀ base : Heap, E2 l.prog w K mg base CB "Below" "kind" "many" := fun base => ⟨oex_mk EfB LkB, PySem.W.mg_of X G aeB, fiB, diB, aiB, tiB, ok_iBelow FiB (oex_mk EfB LkB) EfB.n1 EfB.n2, pB, qB, bB⟩
  have Lo : TxL K C := ⟨KC.oc, nC_many⟩
  have S : TxIs K C := ⟨KC.ha, hn, ht, KC.hm, kit_cls KC.ic KC.ty (ref_type ..) KC.st⟩
  have GL : GlS mg := ⟨⟨_, PySem.W.mg_of X G auLETTERS, ruLETTERS⟩, ⟨_, PySem.W.mg_of X G auDIGITS, ruDIGITS⟩, ⟨_, PySem.W.mg_of X G auLONGEST_KIND, ruLONGEST_KIND⟩, ⟨_, PySem.W.mg_of X G auMOST_DIGITS, ruMOST_DIGITS⟩⟩
  have TB : TxBt K mg CN := ⟨PySem.W.mg_of X G aeN, xeN, EfN.kp, by rw [LkN.sub, con_type]; decide +kernel, EfN.ty⟩
  have TE : TxBe K mg CN := by
    refine ⟨PySem.W.exm_ref (by rw [LkN.sub, con_type]; decide +kernel) LkN.dict EfN.ty ?_, exC_mk EfN LkN hn ht (by decide +kernel) (by decide +kernel), ?_, PySem.W.mg_none_of X G z_ValueError⟩
    · rw [LkN.sub, con_ref _ _ _ (by decide +kernel), decide_eq_true rfl]
    · rw [kit_type LkN (by decide +kernel)]; decide +kernel
  obtain ⟨ds, rds, bds⟩ := bindsD FnC fun T kV doc pm an cdv ct u v => ⟨_, rfl, rfl⟩
  refine ⟨dm19, fun s v => ?_, fun base _ _ => ?_⟩
  · obtain ⟨oc, od, kV, doc, pm, an, cdv, ct, osl, rfl, lk, hcd⟩ := Fm19.ex
    exact .of_eq rfl
  have Ct : Cal l.prog w K mg base CX0 1 "_law_take" ["_law_box_here", "_law_below"] spTake := ⟨_, _, ok_take Fm4 T, PySem.W.mg_of X G am4, Fm4.kp, bm4⟩
  have Cb : Cal l.prog w K mg base CX0 1 "_law_box" ["_law_script", "_law_k"] (spBox K) := ⟨_, _, ok_box Fm3 T, PySem.W.mg_of X G am3, Fm3.kp, bm3⟩
  have Ce : Cal l.prog w K mg base CX0 1 "_law_cells" ["_law_script", "_law_most_so"] (spCells K) := ⟨_, _, ok_cells Fm5 T, PySem.W.mg_of X G am5, Fm5.kp, bm5⟩
  have Co : Cal l.prog w K mg base CX0 2 "_law_of" ["_law_box_here", "_law_some"] spOf := ⟨_, _, ok_of Fm6 T Ct, PySem.W.mg_of X G am6, Fm6.kp, bm6⟩
  have Cn : Cal l.prog w K mg base CX0 3 "_law_names" ["_law_box_here", "_law_some"] spNames := ⟨_, _, ok_names Fm10 T Ct Co, PySem.W.mg_of X G am10, Fm10.kp, bm10⟩
  have Cs0 : Cal l.prog w K mg base CX0 0 "_law_same" ["_law_got", "_law_due"] (spSame K 0) := ⟨_, _, same0, PySem.W.mg_of X G am7, Fm7.kp, bm7⟩
  have Cs1 : Cal l.prog w K mg base CX0 1 "_law_same" ["_law_got", "_law_due"] (spSame K 1) := ⟨_, _, ok_same Fm7 T 0 Cs0, PySem.W.mg_of X G am7, Fm7.kp, bm7⟩
  have Cs2 : Cal l.prog w K mg base CX0 2 "_law_same" ["_law_got", "_law_due"] (spSame K 2) := ⟨_, _, ok_same Fm7 T 1 Cs1, PySem.W.mg_of X G am7, Fm7.kp, bm7⟩
  have Cs3 : Cal l.prog w K mg base CX0 3 "_law_same" ["_law_got", "_law_due"] (spSame K 3) := ⟨_, _, ok_same Fm7 T 2 Cs2, PySem.W.mg_of X G am7, Fm7.kp, bm7⟩
  have Cs4 : Cal l.prog w K mg base CX0 4 "_law_same" ["_law_got", "_law_due"] (spSame K 4) := ⟨_, _, ok_same Fm7 T 3 Cs3, PySem.W.mg_of X G am7, Fm7.kp, bm7⟩
  have Cs5 : Cal l.prog w K mg base CX0 5 "_law_same" ["_law_got", "_law_due"] (spSame K 5) := ⟨_, _, ok_same Fm7 T 4 Cs4, PySem.W.mg_of X G am7, Fm7.kp, bm7⟩
  have Cm : Cal l.prog w K mg base CX0 2 "_law_mixed" ["_law_box_here", "_law_rows_so"] (spMixed K) := ⟨_, _, ok_mixed Fm9 T Ct, PySem.W.mg_of X G am9, Fm9.kp, bm9⟩
  have Cri : Cal l.prog w K mg base CX0 1 "_law_rising" ["_law_rows_so"] (spRising K) := ⟨_, _, ok_rising Fm8 T, PySem.W.mg_of X G am8, Fm8.kp, bm8⟩
  have Cp : Cal l.prog w K mg base CX0 2 "_law_pairs" ["_law_numbers_so"] spPairs := ⟨_, _, ok_pairs Fm11 T Cri, PySem.W.mg_of X G am11, Fm11.kp, bm11⟩
  have Cc : Cal l.prog w K mg base CX0 1 "_law_counted" ["_law_pairs_so"] (spCounted K) := ⟨_, _, ok_counted Fm12 T, PySem.W.mg_of X G am12, Fm12.kp, bm12⟩
  have Cw : Cal l.prog w K mg base CX0 1 "_counted" ["pairs"] (spOwnCounted K) := ⟨_, _, ok_ownCounted Fm2 T, PySem.W.mg_of X G am2, Fm2.kp, bm2⟩
  have CwT : Cal l.prog w K mg base CX0 1 "_counted" ["pairs"] (spOwnCountedT K) := ⟨_, _, ok_ownCountedT Fm2 T, PySem.W.mg_of X G am2, Fm2.kp, bm2⟩
  have Cik : Cal l.prog w K mg base CX0 1 "is_kind" ["word"] spIsKind := ⟨_, _, ok_isKind Fm0 T GL, PySem.W.mg_of X G am0, Fm0.kp, bm0⟩
  have Cim : Cal l.prog w K mg base CX0 1 "_is_many" ["word"] spIsMany := ⟨_, _, ok_isMany Fm1 T GL, PySem.W.mg_of X G am1, Fm1.kp, bm1⟩
  have Ol : OCal l.prog w K mg base CX0 1 C "__len__" ["self"] (spLotLen C) := ⟨_, _, ok_lotLen Fc1 T Lo, ac1, ic1, Fc1.kp, nc1, bc1⟩
  have Ok : OCal l.prog w K mg base CX0 1 C "kinds" ["self"] (spLotKinds C) := ⟨_, _, ok_lotKinds Fc3 T Lo, ac3, ic3, Fc3.kp, nc3, bc3⟩
  have Op : OCal l.prog w K mg base CX0 2 C "pairs" ["self"] (spLotPairs C) := ⟨_, _, ok_lotPairs Fc4 T Lo Ok, ac4, ic4, Fc4.kp, nc4, bc4⟩
  have Om : OMk l.prog w K mg base CX0 2 C "Lot" ["self", "pairs"] (spLotInit K C) := ⟨_, _, ⟨KC.mC, aiC, iiC, KC.kc⟩, ok_lotInit FnC Lo Cw, gC, bnC⟩
  have OmT : OMk l.prog w K mg base CX0 2 C "Lot" ["self", "pairs"] (spLotInitT K C) := ⟨_, _, ⟨KC.mC, aiC, iiC, KC.kc⟩, ok_lotInitT FnC Lo CwT, gC, bnC⟩
  have OmD : OMkD l.prog w K mg base CX0 2 C ["self", "pairs"] [.ref t0] (spLotInitT K C) := ⟨_, _, ds, ⟨KC.mC, aiC, iiC, KC.kc⟩, ok_lotInitT FnC Lo CwT, bds, rds⟩
  have Ost : OCal l.prog w K mg base (CX l.prog w) 3 C "__setitem__" ["self", "at", "worth"] (spLotSet C CB) := ⟨_, _, ok_lotSet Fc0 Lo (OB base), ac0, ic0, Fc0.kp, nc0, bc0⟩
  have Oi : OCal l.prog w K mg base CX0 3 C (dunderI Operator.Add.info.2) ["self", "other"] (spLotIadd C) := ⟨_, _, ok_lotIadd Fc5 Lo Op CwT, ac5, ic5, Fc5.kp, nc5, bc5⟩
  have Oe : OCal l.prog w K mg base CX0 1 C "__eq__" ["self", "other"] (spLotEq C) := ⟨_, _, ok_lotEq Fc2 T Lo S gC, ac2, ic2, Fc2.kp, nc2, bc2⟩
  have Ot : OCal l.prog w K mg base CX0 3 C "text" ["self"] (spLotText C) := ⟨_, _, ok_lotText Fc6 T Lo Op Ol, ac6, ic6, Fc6.kp, nc6, bc6⟩
  have Cf : CCal l.prog w K mg base (CX l.prog w) 4 C "of" ["cls", "text"] ["text"] (spLotOf C CN) := ⟨_, _, _, (.type "type"), ok_lotOf FxLotOf T Lo TB Om OmD S0C Cik Cim, ⟨rdC, grC⟩, ⟨cfLotOf, ⟨_, crLotOf⟩, cnLotOf⟩, bxLotOf, kxLotOf⟩
  have Cx : Cal l.prog w K mg base CX0 1 "_law_text" ["_law_pairs_so"] (spLText K) := ⟨_, _, ok_ltext Fm13 T, PySem.W.mg_of X G am13, Fm13.kp, bm13⟩
  have Cfi : Cal l.prog w K mg base CX0 1 "_law_figures" ["_law_word"] spFigures := ⟨_, _, ok_figures Fm14 T, PySem.W.mg_of X G am14, Fm14.kp, bm14⟩
  have Crd : Cal l.prog w K mg base CX0 2 "_law_read" ["_law_line_so"] spLRead := ⟨_, _, ok_lread Fm15 T Cfi, PySem.W.mg_of X G am15, Fm15.kp, bm15⟩
  have Ca : Cal l.prog w K mg base CX0 5 "_law_asked" ["_law_line_so"] spLRead := ⟨_, _, ok_asked Fm16 T Lo TB TE gC Cf Op, PySem.W.mg_of X G am16, Fm16.kp, bm16⟩
  have Cbe : Cal l.prog w K mg base CX0 3 "_law_bent" ["_law_box_here", "_law_line_so"] spBent := ⟨_, _, ok_bent Fm17 T Ct Co, PySem.W.mg_of X G am17, Fm17.kp, bm17⟩
  have Cr : Cal l.prog w K mg base CX0 7 "_law_right" ["_law_box_here"] spRight := ⟨_, _, ok_right Fm18 T Lo gC Ct Co Cn Cp Cc Cx Cs5 Cm Ca Crd Cbe Cf Om OmT Ot Oe Oi Ost, PySem.W.mg_of X G am18, Fm18.kp, bm18⟩
  exact ok_law Fm19 T Ce Cb Cr
theorem walk {l : PySem.W.OpenLaw} {q : Program} {loose : List Str} {XP : (Str → Option Value) → Heap → Prop} {YP : World → Heap → Prop} {d : DefRec} {K : Params → PySem.W.Frag} (hn : l.most = some 63) (hdf : d.params.defaults = [])
    (hY : ∀ (w : World) (h : Heap), YP w h → (K w.params).In h)
    (F : ∀ (w : World) (mg : Str → Option Value) (fa : Addr) (h : Heap), (K w.params).In h → h.Ns mainGlobals mg → mg d.name = some (.ref fa) →
      ∃ fd : FuncData, (∀ (s : Shared) (u : Value), BindsTo s fd ⟨[u], []⟩ [("_law_script", u)]) ∧ ∀ base : Heap, (K w.params).In base → base.Ns mainGlobals mg → FnOk l.prog w (K w.params) mg base CX0 8 fa fd ["_law_script"] (spLaw (K w.params))) :
    PySem.W.WalkO q loose XP YP l.row.toRowW d [] (fun f vs => PySem.call f vs) :=
  L2.walk_of (n := 63) (k := 8) (x := "_law_script") (CX := fun _ => CX0) (sp := fun w => spLaw (K w.params)) hn (by decide) hdf ⟨rfl, by decide, by decide⟩ hY F (fun _ _ a ns hl _ hS => ⟨a, ns, rfl, hS, hl, fun _ => rfl⟩) fun _ _ _ _ _ z => z
end My
open PySem PySem.W PyProof.Rows
set_option maxHeartbeats 0 in
theorem PySem.Challenge.cw_onceopened_k02_lots_as_texts_holds : PySem.Challenge.rw_onceopened_k02_lots_as_texts.Holds := by
  w_on
  o_law
  k_head
  (case hw => w_witness2)
  k_fill
  refine My.walk (l := PySem.Challenge.rw_onceopened_k02_lots_as_texts) rfl rfl (fun w h Y => PySem.W.kIn_of Y) ?F
  case F =>
    intro w mg fa h KX G hmg
    refine' My.all_mk KX G hmg ?am0 ?Dm0 ?am1 ?Dm1 ?am2 ?Dm2 ?am3 ?Dm3 ?am4 ?Dm4 ?am5 ?Dm5 ?am6 ?Dm6 ?am7 ?Dm7 ?am8 ?Dm8 ?am9 ?Dm9 ?am10 ?Dm10 ?am11 ?Dm11 ?am12 ?Dm12 ?am13 ?Dm13 ?am14 ?Dm14 ?am15 ?Dm15 ?am16 ?Dm16 ?am17 ?Dm17 ?am18 ?Dm18 ?am19 ?Dm19 ?aC ?KC ?nC_many ?ac0 ?ic0 ?nc0 ?Dc0 ?ac1 ?ic1 ?nc1 ?Dc1 ?ac2 ?ic2 ?nc2 ?Dc2 ?ac3 ?ic3 ?nc3 ?Dc3 ?ac4 ?ic4 ?nc4 ?Dc4 ?ac5 ?ic5 ?nc5 ?Dc5 ?ac6 ?ic6 ?nc6 ?Dc6 ?aiC ?iiC ?DiC ?S0C ?rdC ?grC ?cfLotOf ?crLotOf ?cnLotOf ?DxLotOf ?aeB ?EfB ?LkB ?aiB ?tiB ?DiB ?aeN ?EfN ?LkN ?xeN ?auLETTERS ?ruLETTERS ?auDIGITS ?ruDIGITS ?auLONGEST_KIND ?ruLONGEST_KIND ?auMOST_DIGITS ?ruMOST_DIGITS ?hn ?ht ?z_int ?z_len ?z_abs ?z_list ?z_tuple ?z_range ?z_enumerate ?z_isinstance ?z_all ?z_zip ?z_dict ?z_bool ?z_str ?z_set ?z_sorted ?z_min ?z_sum ?z_ValueError
    (case am0 => k_is)
    (case am1 => k_is)
    (case am2 => k_is)
    (case am3 => k_is)
    (case am4 => k_is)
    (case am5 => k_is)
    (case am6 => k_is)
    (case am7 => k_is)
    (case am8 => k_is)
    (case am9 => k_is)
    (case am10 => k_is)
    (case am11 => k_is)
    (case am12 => k_is)
    (case am13 => k_is)
    (case am14 => k_is)
    (case am15 => k_is)
    (case am16 => k_is)
    (case am17 => k_is)
    (case am18 => k_is)
    (case am19 => k_is)
    (case aC => k_is)
    (case aeB => k_is)
    (case aeN => k_is)
    (case auLETTERS => k_is)
    (case auDIGITS => k_is)
    (case auLONGEST_KIND => k_is)
    (case auMOST_DIGITS => k_is)
    (case ac0 => k_is)
    (case ac1 => k_is)
    (case ac2 => k_is)
    (case ac3 => k_is)
    (case ac4 => k_is)
    (case ac5 => k_is)
    (case ac6 => k_is)
    (case aiC => k_is)
    (case cfLotOf => k_is)
    (case crLotOf => k_is)
    (case aiB => k_is)
    (case Dm0 => (refine' My.funF ?l ?c ?k; (case l => k_is); (case c => k_is); (case k => k_is)))
    (case Dm1 => (refine' My.funF ?l ?c ?k; (case l => k_is); (case c => k_is); (case k => k_is)))
    (case Dm2 => (refine' My.funF ?l ?c ?k; (case l => k_is); (case c => k_is); (case k => k_is)))
    (case Dm3 => (refine' My.funF ?l ?c ?k; (case l => k_is); (case c => k_is); (case k => k_is)))
    (case Dm4 => (refine' My.funF ?l ?c ?k; (case l => k_is); (case c => k_is); (case k => k_is)))
    (case Dm5 => (refine' My.funF ?l ?c ?k; (case l => k_is); (case c => k_is); (case k => k_is)))
    (case Dm6 => (refine' My.funF ?l ?c ?k; (case l => k_is); (case c => k_is); (case k => k_is)))
    (case Dm7 => (refine' My.funF ?l ?c ?k; (case l => k_is); (case c => k_is); (case k => k_is)))
    (case Dm8 => (refine' My.funF ?l ?c ?k; (case l => k_is); (case c => k_is); (case k => k_is)))
    (case Dm9 => (refine' My.funF ?l ?c ?k; (case l => k_is); (case c => k_is); (case k => k_is)))
    (case Dm10 => (refine' My.funF ?l ?c ?k; (case l => k_is); (case c => k_is); (case k => k_is)))
    (case Dm11 => (refine' My.funF ?l ?c ?k; (case l => k_is); (case c => k_is); (case k => k_is)))
    (case Dm12 => (refine' My.funF ?l ?c ?k; (case l => k_is); (case c => k_is); (case k => k_is)))
    (case Dm13 => (refine' My.funF ?l ?c ?k; (case l => k_is); (case c => k_is); (case k => k_is)))
    (case Dm14 => (refine' My.funF ?l ?c ?k; (case l => k_is); (case c => k_is); (case k => k_is)))
    (case Dm15 => (refine' My.funF ?l ?c ?k; (case l => k_is); (case c => k_is); (case k => k_is)))
    (case Dm16 => (refine' My.funF ?l ?c ?k; (case l => k_is); (case c => k_is); (case k => k_is)))
    (case Dm17 => (refine' My.funF ?l ?c ?k; (case l => k_is); (case c => k_is); (case k => k_is)))
    (case Dm18 => (refine' My.funF ?l ?c ?k; (case l => k_is); (case c => k_is); (case k => k_is)))
    (case Dm19 => (refine' My.funF ?l ?c ?k; (case l => k_is); (case c => k_is); (case k => k_is)))
    (case KC => (refine' ⟨?_, ?_, ?_, ?_, ?_, ?_, ?_, ?_, ?_, ?_, ?_, ?_, ?_, ?_, ?_, ?_⟩ <;> k_is))
    (case nC_many => k_is)
    (case ic0 => k_is)
    (case nc0 => k_is)
    (case Dc0 => (refine' My.funF ?l ?c ?k; (case l => k_is); (case c => k_is); (case k => k_is)))
    (case ic1 => k_is)
    (case nc1 => k_is)
    (case Dc1 => (refine' My.funF ?l ?c ?k; (case l => k_is); (case c => k_is); (case k => k_is)))
    (case ic2 => k_is)
    (case nc2 => k_is)
    (case Dc2 => (refine' My.funF ?l ?c ?k; (case l => k_is); (case c => k_is); (case k => k_is)))
    (case ic3 => k_is)
    (case nc3 => k_is)
    (case Dc3 => (refine' My.funF ?l ?c ?k; (case l => k_is); (case c => k_is); (case k => k_is)))
    (case ic4 => k_is)
    (case nc4 => k_is)
    (case Dc4 => (refine' My.funF ?l ?c ?k; (case l => k_is); (case c => k_is); (case k => k_is)))
    (case ic5 => k_is)
    (case nc5 => k_is)
    (case Dc5 => (refine' My.funF ?l ?c ?k; (case l => k_is); (case c => k_is); (case k => k_is)))
    (case ic6 => k_is)
    (case nc6 => k_is)
    (case Dc6 => (refine' My.funF ?l ?c ?k; (case l => k_is); (case c => k_is); (case k => k_is)))
    (case iiC => k_is)
    (case DiC => (refine' My.funDF ?l ?c ?t ?k; (case l => k_is); (case c => k_is); (case t => k_is); (case k => k_is)))
    (case S0C => (refine' My.sq0 ?l; (case l => k_is)))
    (case rdC => k_is)
    (case grC => k_is)
    (case cnLotOf => k_is)
    (case DxLotOf => (refine' My.funF ?l ?c ?k; (case l => k_is); (case c => k_is); (case k => k_is)))
    (case EfB => (refine' ⟨?_, ?_, ?_, ?_, ?_, ?_, ?_, ?_, ?_, ?_, ?_⟩ <;> k_is))
    (case LkB => (refine' My.lk_mk (x := ?x); (case x => k_is)))
    (case tiB => k_is)
    (case DiB => (refine' My.funF ?l ?c ?k; (case l => k_is); (case c => k_is); (case k => k_is)))
    (case EfN => (refine' ⟨?_, ?_, ?_, ?_, ?_, ?_, ?_, ?_, ?_, ?_, ?_⟩ <;> k_is))
    (case LkN => (refine' My.lk_mk (x := ?x); (case x => k_is)))
    (case xeN => k_exc)
    (case ruLETTERS => first | rfl | exact ⟨_, rfl⟩)
    (case ruDIGITS => first | rfl | exact ⟨_, rfl⟩)
    (case ruLONGEST_KIND => first | rfl | exact ⟨_, rfl⟩)
    (case ruMOST_DIGITS => first | rfl | exact ⟨_, rfl⟩)
    (case hn => k_is)
    (case ht => k_is)
    (case z_int => k_is)
    (case z_len => k_is)
    (case z_abs => k_is)
    (case z_list => k_is)
    (case z_tuple => k_is)
    (case z_range => k_is)
    (case z_enumerate => k_is)
    (case z_isinstance => k_is)
    (case z_all => k_is)
    (case z_zip => k_is)
    (case z_dict => k_is)
    (case z_bool => k_is)
    (case z_str => k_is)
    (case z_set => k_is)
    (case z_sorted => k_is)
    (case z_min => k_is)
    (case z_sum => k_is)
    (case z_ValueError => k_is)

