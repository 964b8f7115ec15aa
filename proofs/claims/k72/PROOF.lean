import PyProof.Rows.All
import Wide.All
import OpenK.AllK
import Wide.FinOn
import HandS.ForMost
import HandS.Wide
import HandS.Flow
import HandS.Style
import HandS.IsInst
import HandS.Walk
import HandS.Evl
import HandS.Zip
import HandS.Codes
import HandS.TupLe
import KE.KOpsOwn
import HandS.ForExc
import HandS.OwnEq
import HandS.TupSets
import HandS.SetKeys
import HandS.Strs
import HandS.TupAny
import PySem.Challenge.RW_onceopened_k72_whole_ends_in_any_order
import HandS.Defaults
import HandS.Exc
import HandS.ExcOwn
import HandS.ExcBuiltin
import HandS.RaiseMore
import HandS.Small
import HandS.List
import HandS.DictComp
import PyProof.Rows.RuleN_abs
import PyProof.AutoIntG2
import PyProof.TwoTypes
import HandS.ExcIs
import HandS.ExcValue
import HandS.ExcInit
import HandS.ExcField
import HandS.MakeKw
import HandS.MakeKwOnly
import HandS.Property
import KE.KTryMore
import KE.LtData
import KE.DataCmp
import HandS.FStr
import HandS.Text
import HandS.ClsMeth
import KE.KeyNested
import KE.SortData
import KE.DataMinMax
import HandS.SortKw
import HandS.Deep
import HandS.Dict
import KE.DataFind
import PyProof.WalkInts
set_option Elab.async false
set_option maxRecDepth 100000
set_option maxHeartbeats 4000000
/-! the readings, one step each -/
namespace My
open PySem L2
section
variable {σ : L2.St} {H H' H'' : Hp} {D : Ends} {ta tb te : TE} {tr : TA} {ts tu : TS} {tt tt2 : TT} {i j : Nat} {a b p : Addr} {x y v : V} {Q : VK} {K : PySem.W.Frag}
theorem r_seq (h : ts { D with nx := tu D } σ H) : tSeq ts tu D σ H := h
theorem r_next (h : D.nx σ H) : tNext D σ H := h
theorem r_asg {g : TG} (h : te σ H fun x H1 => g x σ H1 D.nx) : tAsg te g D σ H := h
theorem r_gname {q : L2.St → Hp → Prop} (h : q (σ.set i (some x)) H) : gName i x σ H q := h
theorem r_drop (h : te σ H fun _ H1 => D.nx σ H1) : tDrop te D σ H := h
theorem r_ret (h : te σ H D.rt) : tRet te D σ H := h
theorem r_ifS (h : tt σ H fun b H1 => if b = true then ts D σ H1 else tu D σ H1) : tIfS tt ts tu D σ H := h
theorem r_if (h : tt σ H fun b H1 => if b = true then ta σ H1 Q else tb σ H1 Q) : tIf tt ta tb σ H Q := h
theorem r_op {r : R2} (h : ta σ H fun x H1 => tb σ H1 fun y H2 => r x y H2 Q) : tOp r ta tb σ H Q := h
theorem r_un {r : V → Hp → VK → Prop} (h : ta σ H fun x H1 => r x H1 Q) : tUn r ta σ H Q := h
theorem r_cb {r : List V → Hp → VK → Prop} (h : tr σ H fun vs H1 => r vs H1 Q) : tCB r tr σ H Q := h
theorem r_cons {q : List V → Hp → Prop} (h : ta σ H fun x H1 => tr σ H1 fun xs H2 => q (x :: xs) H2) : tCons ta tr σ H q := h
theorem r_nil {q : List V → Hp → Prop} (h : q [] H) : tNil σ H q := h
theorem r_var (e : σ[i]? = some (some v)) (h : Q v H) : tVar i σ H Q := ⟨v, e, h⟩
theorem r_c (h : Q v H) : tC v σ H Q := h
theorem r_test {q : Bool → Hp → Prop} (h : te σ H fun x H' => ∃ k, x = .bl k ∧ q k H') : tTest te σ H q := h
theorem r_B {q : Bool → Hp → Prop} (h : te σ H fun x H' => ∃ k, x = .bl k ∧ q k H') : tB te σ H q := h
theorem r_not {q : Bool → Hp → Prop} (h : tt σ H fun c H' => q (!c) H') : tNot tt σ H q := h
theorem r_and {q : Bool → Hp → Prop} (h : tt σ H fun c H1 => if c = true then tt2 σ H1 q else q false H1) : tAnd tt tt2 σ H q := h
theorem r_or {q : Bool → Hp → Prop} (h : tt σ H fun c H1 => if c = true then q true H1 else tt2 σ H1 q) : tOr tt tt2 σ H q := h
theorem r_andV (h : ta σ H fun x H1 => ∃ c, x = .bl c ∧ if c = true then tb σ H1 Q else Q (.bl false) H1) : tAndV ta tb σ H Q := h
theorem r_orV (h : ta σ H fun x H1 => ∃ c, x = .bl c ∧ if c = true then Q (.bl true) H1 else tb σ H1 Q) : tOrV ta tb σ H Q := h
theorem r_notV (h : ta σ H fun x H1 => ∃ c, x = .bl c ∧ Q (.bl (!c)) H1) : tNotV ta σ H Q := h
theorem r_I0 {g : Int → Int → V} {i j : Int} (h : Q (g i j) H) : rI0 g (.int i) (.int j) H Q := ⟨i, j, rfl, rfl, h⟩
theorem r_I {C : Int → Int → Prop} {g : Int → Int → V} {i j : Int} (c : C i j) (h : Q (g i j) H) : rI C g (.int i) (.int j) H Q := ⟨i, j, rfl, rfl, c, h⟩
theorem r_U {g : Int → V} {i : Int} (h : Q (g i) H) : rU g (.int i) H Q := ⟨i, rfl, h⟩
theorem r_ixL {xs : List V} {i : Int} (hp : SqL K H p xs) (hi : atI xs i = some v) (h : Q v H) : rIxL K (.ref p) (.int i) H Q := ⟨p, xs, i, v, rfl, rfl, hp, hi, h⟩
theorem r_ixT {xs : List V} {i : Int} (hp : SqT K H p xs) (hi : atI xs i = some v) (h : Q v H) : rIxT K (.ref p) (.int i) H Q := ⟨p, xs, i, v, rfl, rfl, hp, hi, h⟩
theorem r_ixS {z : Str} {i : Int} {c : Nat} (hz : z.length ≤ sizeLine) (hi : atI z.cps.toList i = some c) (h : Q (.str ⟨#[c]⟩) H) : rIxS (.str z) (.int i) H Q := ⟨z, i, c, rfl, rfl, hz, hi, h⟩
theorem r_gsub {to ti : TE} {t : TSet} {q : L2.St → Hp → Prop} (h : to σ H fun o H1 => ti σ H1 fun i H2 => t o i v H2 fun H3 => q σ H3) : gSub to ti t v σ H q := h
theorem r_setL {xs : List V} {k : Int} {q : Hp → Prop} (hp : H p = some (.lst xs)) (hj : ixN xs.length k = some j) (h : q (upd H p (.lst (xs.set j v)))) : rSetL (.ref p) (.int k) v H q := ⟨p, xs, k, j, rfl, rfl, hp, hj, h⟩
theorem r_eq (hs : scal x y = true) (h : Q (.bl (decide (x = y))) H) : rEq x y H Q := ⟨hs, h⟩
theorem r_ne (hs : scal x y = true) (h : Q (.bl (!decide (x = y))) H) : rNe x y H Q := ⟨hs, h⟩
theorem r_tup (h : tr σ H fun xs H1 => xs.length ≤ sizeLine ∧ ∀ p, H1 p = none → Q (.ref p) (upd H1 p (.tup xs))) : tTup tr σ H Q := h
theorem r_lst (h : tr σ H fun xs H1 => xs.length ≤ sizeLine ∧ ∀ p, H1 p = none → Q (.ref p) (upd H1 p (.lst xs))) : tLst tr σ H Q := h
theorem r_bm {T : String} {r : V → List V → Hp → VK → Prop} (h : ta σ H fun x H1 => tyV K T x H1 ∧ tr σ H1 fun xs H2 => r x xs H2 Q) : tBM K T r ta tr σ H Q := h
/-! tests whose outcome is open -/
theorem ite_d {c A B : Prop} [Decidable c] (h1 : c → A) (h2 : ¬ c → B) : if decide c = true then A else B := ite2 (fun h => h1 (of_decide_eq_true h)) (fun h => h2 (fun z => h (decide_eq_true z)))
theorem ite_nd {c A B : Prop} [Decidable c] (h1 : ¬ c → A) (h2 : c → B) : if (!decide c) = true then A else B := ite2 (fun h => h1 (fun z => by rw [decide_eq_true z] at h; exact Bool.noConfusion h)) (fun h => h2 (by
  by_cases z : c
  · exact z
  · rw [decide_eq_false z] at h; exact absurd rfl h))
theorem ite_dT {c A B : Prop} [Decidable c] (hc : c) (h : A) : if decide c = true then A else B := by rw [decide_eq_true hc]; exact iteT h
theorem ite_dF {c A B : Prop} [Decidable c] (hc : ¬ c) (h : B) : if decide c = true then A else B := by rw [decide_eq_false hc]; exact iteF h
theorem ite_ndF {c A B : Prop} [Decidable c] (hc : c) (h : B) : if (!decide c) = true then A else B := by rw [decide_eq_true hc]; exact iteF h
end
/-! frames -/
/-- all that was tracked but what stands at a is as it was -/
def Kp (a : Addr) (H H' : Hp) : Prop := ∀ c o, H c = some o → c ≠ a → H' c = some o
theorem Kp.refl (a : Addr) (H : Hp) : Kp a H H := fun _ _ h _ => h
theorem Kp.trans {a : Addr} {H H1 H2 : Hp} (h : Kp a H H1) (h' : Kp a H1 H2) : Kp a H H2 := fun c o e n => h' c o (h c o e n) n
theorem Kp.at {a c : Addr} {H H' : Hp} {o : HO} (h : Kp a H H') (e : H c = some o) (n : c ≠ a) : H' c = some o := h c o e n
theorem Kp.of {a : Addr} {H H' : Hp} (h : Same H H') : Kp a H H' := fun c o e _ => h c o e
theorem Same.at {c : Addr} {H H' : Hp} {o : HO} (h : Same H H') (e : H c = some o) : H' c = some o := h c o e
theorem upd_at {H : Hp} {a b : Addr} {o u : HO} (e : H b = some u) (n : b ≠ a) : upd H a o b = some u := (upd_ne n).trans e
theorem Kp.free {a p : Addr} {H H' : Hp} (h : Kp a H H') (e : H' p = none) (n : p ≠ a) : H p = none := by
  cases q : H p with
  | none => rfl
  | some o => rw [h p o q n] at e; cases e
end My
namespace My
open PySem L2
theorem sz {n : Nat} (h : n ≤ 100000) : n ≤ sizeLine := Nat.le_trans h (by decide)
theorem szl {n : Nat} (h : n < 100000) : n < sizeLine := Nat.lt_of_lt_of_le h (by decide)
/-! calls -/
structure Cal (P : Program) (w : World) (K : PySem.W.Frag) (mg : Str → Option Value) (base : Heap) (CX : CXT) (k : Nat) (x : Str) (ps : List Str) (sp : Sp) : Prop where
  ex : ∃ (f : Addr) (fd : FuncData), FnOk P w K mg base CX k f fd ps sp ∧ mg x = some (.ref f) ∧ PySem.W.keepIn K (.ref f) = true ∧ Binds K fd ps []
def tCal (sp : Sp) (E : XK) (t : TA) : TE := fun σ H Q => t σ H fun vs H1 => sp vs H1 Q E
section
variable {X : Cx} {CX : CXT} {k : Nat} {ps : List Str} {sp : Sp} {E : XK} {x : Str} {p pos : Pos} {e : Expr} {es : List Expr} {t : TA}
theorem pe_cal (C : Cal X.prog X.w X.K X.mg X.base CX k x ps sp) (hr : Room k X.A) (hx : Passes CX X E) (ha : PA X (e :: es) t) (hg : Gl X x := by rfl)
    (hdb : (x == ("__debug__" : Str)) = false := by decide) (he : starEach (e :: es) X.env = (false, eval e X.env) :: starEach es X.env := by rfl) (hpl : (backTo pos (starEach es X.env)).any (·.1) = false := by rfl) :
    PE X (.Call (.Name x p) (e :: es) [] pos) (tCal sp E t) := by
  obtain ⟨f, fd, F, hm, hk, hb⟩ := C.ex
  have h := pe_call (p := p) (pos := pos) F hr hg hm hk hb (dvs := []) .nil hx ha hdb he hpl
  refine ⟨fun pins s σ H Q I q => h.run pins s σ H Q I ?_⟩
  have e : (fun vs H1 => sp (vs ++ []) H1 Q E) = fun vs H1 => sp vs H1 Q E := by
    funext vs H1
    rw [List.append_nil]
  show t σ H (fun vs H1 => sp (vs ++ []) H1 Q E)
  rw [e]
  exact q
theorem r_cal {σ : L2.St} {H : Hp} {Q : VK} (h : t σ H fun vs H1 => sp vs H1 Q E) : tCal sp E t σ H Q := h
end
end My
namespace My
open PySem L2
/-! built-ins with a name of their own -/
def rLenL (K : PySem.W.Frag) : List V → Hp → VK → Prop := fun vs H Q => ∃ a xs, vs = [V.ref a] ∧ SqL K H a xs ∧ Q (.int xs.length) H
def rLenT (K : PySem.W.Frag) : List V → Hp → VK → Prop := fun vs H Q => ∃ a xs, vs = [V.ref a] ∧ SqT K H a xs ∧ Q (.int xs.length) H
def rLenD : List V → Hp → VK → Prop := fun vs H Q => ∃ a kvs, vs = [V.ref a] ∧ H a = some (.dK kvs) ∧ Q (.int kvs.length) H
def rAbs : List V → Hp → VK → Prop := fun vs H Q => ∃ i, vs = [V.int i] ∧ Q (.int (if i < 0 then -i else i)) H
def rInt : List V → Hp → VK → Prop := fun xs H Q => (∃ i, xs = [V.int i] ∧ Q (.int i) H) ∨ ∃ k, xs = [V.bl k] ∧ Q (.int (if k then 1 else 0)) H
def rList (K : PySem.W.Frag) : List V → Hp → VK → Prop := fun xs H Q => ∃ p ys, xs = [.ref p] ∧ (SqL K H p ys ∨ SqT K H p ys) ∧ ∀ l, H l = none → Q (.ref l) (upd H l (.lst ys))
def rTupL (K : PySem.W.Frag) : List V → Hp → VK → Prop := fun xs H Q => ∃ p ys, xs = [.ref p] ∧ SqL K H p ys ∧ ∀ l, H l = none → Q (.ref l) (upd H l (.tup ys))
def rTupT (K : PySem.W.Frag) : List V → Hp → VK → Prop := fun xs H Q => ∃ p ys, xs = [.ref p] ∧ SqT K H p ys ∧ Q (.ref p) H
def rJoin (K : PySem.W.Frag) : V → List V → Hp → VK → Prop := fun x xs H Q => ∃ a p, ∃ ys : List Str, x = .str a ∧ xs = [.ref p] ∧ (SqL K H p (ys.map V.str) ∨ SqT K H p (ys.map V.str)) ∧ (ys.map (·.length)).sum + ys.length * a.length ≤ 16777216 ∧ Q (.str (Txt.join a ys)) H
def rCatS : R2 := fun x y H Q => ∃ i j, x = .str i ∧ y = .str j ∧ i.length + j.length ≤ sizeLine ∧ Q (.str (i ++ j)) H
section
variable {X : Cx}
theorem c_lenL : CallR X (.builtin "len") (rLenL X.K) := fun pins s σ H xs us Q I r ⟨a, ys, e, h, q⟩ => call_len pins s σ H xs us Q I r ⟨.ref a, ys.length, e, Or.inl ⟨ys, h, rfl⟩, q⟩
theorem c_lenD : CallR X (.builtin "len") rLenD := call_lenD
theorem c_abs : CallR X (.builtin "abs") rAbs := call_abs
theorem c_int : CallR X (.type "int") rInt := call_int1
theorem c_list : CallR X (.type "list") (rList X.K) := call_list_of
theorem c_tupL : CallR X (.type "tuple") (rTupL X.K) := fun pins s σ H xs us Q I r ⟨a, ys, e, h, q⟩ => call_tuple_of pins s σ H xs us Q I r ⟨a, ys, e, Or.inl ⟨h, q⟩⟩
theorem m_join : MtR X "str.join" (rJoin X.K) := mt_join
theorem o_catS : OpR X (binaryOp .Add) rCatS := op_add_str
theorem pe_joinR {o e : Expr} {to te : TE} {apos pos : Pos} (ho : PE X o to) (he : PE X e te) (hs : starEach [e] X.env = [(false, eval e X.env)] := by rfl) (hbase : attributeBase o "join" X.env (eval o X.env) = eval o X.env := by rfl) (hline : (apos.endLine == pos.line) = true := by rfl) :
    PE X (.Call (.Attribute o "join" apos) [e] [] pos) (tM1 (rJoin X.K) to te) := pe_m1 PySem.F.slot_str_join PySem.F.type_str_join m_join ho he hs hbase hline
end
section
variable {σ : L2.St} {H : Hp} {Q : VK} {K : PySem.W.Frag} {a p : Addr} {xs : List V} {x y v : V} {D : Ends}
theorem r_lenL (h : SqL K H a xs) (q : Q (.int xs.length) H) : rLenL K [.ref a] H Q := ⟨a, xs, rfl, h, q⟩
theorem r_lenT (h : SqT K H a xs) (q : Q (.int xs.length) H) : rLenT K [.ref a] H Q := ⟨a, xs, rfl, h, q⟩
theorem r_lenD {kvs : List (Key × V)} (h : H a = some (.dK kvs)) (q : Q (.int kvs.length) H) : rLenD [.ref a] H Q := ⟨a, kvs, rfl, h, q⟩
theorem r_abs {i : Int} (q : Q (.int (if i < 0 then -i else i)) H) : rAbs [.int i] H Q := ⟨i, rfl, q⟩
theorem r_intI {i : Int} (q : Q (.int i) H) : rInt [.int i] H Q := .inl ⟨i, rfl, q⟩
theorem r_intB {k : Bool} (q : Q (.int (if k then 1 else 0)) H) : rInt [.bl k] H Q := .inr ⟨k, rfl, q⟩
theorem r_list (h : SqL K H p xs ∨ SqT K H p xs) (q : ∀ l, H l = none → Q (.ref l) (upd H l (.lst xs))) : rList K [.ref p] H Q := ⟨p, xs, rfl, h, q⟩
theorem r_tupL (h : SqL K H p xs) (q : ∀ l, H l = none → Q (.ref l) (upd H l (.tup xs))) : rTupL K [.ref p] H Q := ⟨p, xs, rfl, h, q⟩
theorem r_tupT (h : SqT K H p xs) (q : Q (.ref p) H) : rTupT K [.ref p] H Q := ⟨p, xs, rfl, h, q⟩
theorem r_join {b : Str} {ys : List Str} (h : SqL K H p (ys.map V.str)) (l : (ys.map (·.length)).sum + ys.length * b.length ≤ 16777216) (q : Q (.str (Txt.join b ys)) H) : rJoin K (.str b) [.ref p] H Q := ⟨b, p, ys, rfl, rfl, .inl h, l, q⟩
theorem r_m1 {r : V → List V → Hp → VK → Prop} {to te : TE} (h : to σ H fun x H1 => (∃ a, x = .str a) ∧ te σ H1 fun y H2 => r x [y] H2 Q) : tM1 r to te σ H Q := h
theorem r_catS {i j : Str} (l : i.length + j.length ≤ sizeLine) (q : Q (.str (i ++ j)) H) : rCatS (.str i) (.str j) H Q := ⟨i, j, rfl, rfl, l, q⟩
theorem r_cat {l b : Addr} {xs zs : List V} (h1 : H l = some (.lst xs)) (h2 : H b = some (.lst zs)) (h3 : xs.length + zs.length ≤ sizeLine) (q : ∀ p, H p = none → Q (.ref p) (upd H p (.lst (xs ++ zs)))) : rCat (.ref l) (.ref b) H Q := ⟨l, b, xs, zs, rfl, rfl, h1, h2, h3, q⟩
theorem r_slL {lo hi : Option Int} (h : SqL K H a xs) (q : ∀ p, H p = none → Q (.ref p) (upd H p (.lst (cutV xs lo hi)))) : rSlL K (.ref a) lo hi H Q := ⟨a, xs, rfl, h, q⟩
theorem r_slS {z : Str} {lo hi : Option Int} (h : z.length ≤ sizeLine) (q : Q (.str (cutS z lo hi)) H) : rSlS (.str z) lo hi H Q := ⟨z, rfl, h, q⟩
theorem r_append {l : Addr} (h : H l = some (.lst xs)) (hl : xs.length < sizeLine) (q : Q .non (upd H l (.lst (xs ++ [y])))) : rAppend (.ref l) [y] H Q := ⟨l, xs, y, rfl, rfl, h, hl, q⟩
theorem r_all {bs : List Bool} (h : SqL K H a (bs.map V.bl)) (q : Q (.bl (bs.all id)) H) : rAll K [.ref a] H Q := ⟨a, bs, rfl, h, q⟩
theorem r_dnewK (q : ∀ p, H p = none → Q (.ref p) (upd H p (.dK []))) : tDNewK σ H Q := q
end
/-! the box -/
/-- the box: three ints, its draws' count with the room b below a line -/
def Bx (H : Hp) (a : Addr) (b : Nat) : Prop := ∃ x y z : Int, H a = some (.lst [.int x, .int y, .int z]) ∧ 0 ≤ x ∧ 0 ≤ y ∧ y < 3000000000000000000 ∧ 0 ≤ z ∧ z + b ≤ 1000000000
theorem Bx.mono {H : Hp} {a : Addr} {b c : Nat} (h : Bx H a b) (l : c ≤ b) : Bx H a c := by
  obtain ⟨x, y, z, h1, h2, h3, h4, h5, h6⟩ := h
  exact ⟨x, y, z, h1, h2, h3, h4, h5, by omega⟩
theorem Bx.hp {H : Hp} {a : Addr} {b : Nat} (h : Bx H a b) : ∃ o, H a = some o := let ⟨_, _, _, h1, _⟩ := h; ⟨_, h1⟩
theorem Bx.ne {H : Hp} {a p : Addr} {b : Nat} (h : Bx H a b) (hp : H p = none) : a ≠ p := let ⟨_, e⟩ := h.hp; ne_of_none e hp
theorem Bx.upd {H : Hp} {a p : Addr} {b : Nat} {o : HO} (h : Bx H a b) (hp : a ≠ p) : Bx (L2.upd H p o) a b := by
  obtain ⟨x, y, z, h1, h2⟩ := h
  exact ⟨x, y, z, upd_at h1 hp, h2⟩
theorem Bx.same {H H' : Hp} {a : Addr} {b : Nat} (h : Bx H a b) (e : Same H H') : Bx H' a b := by
  obtain ⟨x, y, z, h1, h2⟩ := h
  exact ⟨x, y, z, e _ _ h1, h2⟩
end My
namespace My
open PySem L2
section
variable {σ : L2.St} {H : Hp} {Q : VK} {q : Option Int → Hp → Prop} {te : TE} {tl th : TO}
theorem r_slice {r : V → Option Int → Option Int → Hp → VK → Prop} (h : te σ H fun x H1 => tl σ H1 fun l H2 => th σ H2 fun u H3 => r x l u H3 Q) : tSl r te tl th σ H Q := h
theorem r_part (h : te σ H fun x H1 => ∃ i, x = .int i ∧ q (some i) H1) : tPart te σ H q := h
theorem r_nopart (h : q none H) : tNoPart σ H q := h
end
end My
namespace My
open PySem L2
end My
namespace My
open PySem L2
theorem noxK {CX : CXT} {P : Program} {w : World} {K : PySem.W.Frag} {mg : Str → Option Value} {base : Heap} {N : List Str} {qual : Str} {scope : Scope} {f : Addr} {cd : Value} {A : Around} {outer : List Env} {s : Shared} {H : Hp} {E : XK} : (cxOf CX P w K mg base N qual scope f cd A outer s H E).nox.K = K := rfl
theorem cxK {CX : CXT} {P : Program} {w : World} {K : PySem.W.Frag} {mg : Str → Option Value} {base : Heap} {N : List Str} {qual : Str} {scope : Scope} {f : Addr} {cd : Value} {A : Around} {outer : List Env} {s : Shared} {H : Hp} {E : XK} : (cxOf CX P w K mg base N qual scope f cd A outer s H E).K = K := rfl
end My
namespace My
open PySem L2
section
variable {σ : L2.St} {H : Hp} {Q : VK} {K : PySem.W.Frag} {R : It → Hp → Prop} {tl : TE} {ta : TA} {D : Ends} {wi : TI} {g : TG} {tb : TS} {a : Addr} {xs : List V} {j : Int}
theorem r_for (h : wi σ H fun J H1 => ∃ W : Nat → Nat → L2.St → Hp → Prop, (∃ m, W 0 m σ H1) ∧ ∀ i m σ H, W i m σ H →
  (J.stop i H ∧ D.nx σ H) ∨ (J.go i H ∧ ∃ N : L2.St → Hp → Prop, (∀ σ' H', N σ' H' → ∃ m', m' < m ∧ W (i + 1) m' σ' H') ∧ ∀ x H', J.yld i H x H' → g x σ H' fun σ2 H2 => tb { D with nx := N, ct := N, bk := D.nx } σ2 H2)) : tFor wi g tb D σ H := h
theorem r_lc {tt : TT} {te : TE} {vs : List Nat} (h : wi σ H fun J H1 => ∀ D, H1 D = none → ∃ W : Nat → Nat → Hp → Prop, (∃ m, W 0 m (upd H1 D (.lst []))) ∧ ∀ i m H, W i m H →
  (J.stop i H ∧ Q (.ref D) H) ∨ (J.go i H ∧ ∃ Nx : Hp → Prop, (∀ H', Nx H' → ∃ m', m' < m ∧ W (i + 1) m' H') ∧ ∀ x H', J.yld i H x H' → g x (wipe σ vs) H' fun σ2 H2 => wipe σ2 vs = wipe σ vs ∧ tt σ2 H2 fun b H3 =>
    if b = true then te σ2 H3 fun y H4 => ∃ acc, H4 D = some (.lst acc) ∧ acc.length < sizeLine ∧ Nx (upd H4 D (.lst (acc ++ [y]))) else Nx H3)) : tLc wi g tt te vs σ H Q := h
theorem r_iList (h : tl σ H fun x H1 => ∃ a, x = .ref a ∧ (∃ xs, SqL K H1 a xs) ∧ R (Itl K a) H1) : iList K tl σ H R := h
theorem r_iTup (h : tl σ H fun x H1 => ∃ a, x = .ref a ∧ (∃ xs, SqT K H1 a xs) ∧ R (Itt K a) H1) : iTup K tl σ H R := h
theorem r_wLst {B : Prop} (h : SqL K H a xs) (q : B) : (∃ xs, SqL K H a xs) ∧ B := ⟨⟨xs, h⟩, q⟩
theorem r_wTup {B : Prop} (h : SqT K H a xs) (q : B) : (∃ xs, SqT K H a xs) ∧ B := ⟨⟨xs, h⟩, q⟩
theorem r_iRng1 (h : ta σ H fun vs H1 => ∃ j : Int, vs = [.int j] ∧ -(2 ^ 62) ≤ j ∧ j < 2 ^ 62 ∧ R (Itr 0 j.toNat) H1) : iRng1 ta σ H R := h
theorem r_wRng {B : Prop} (h1 : -(2 ^ 62) ≤ j ∧ j < 2 ^ 62) (q : B) : -(2 ^ 62) ≤ j ∧ j < 2 ^ 62 ∧ B := ⟨h1.1, h1.2, q⟩
theorem r_iEnum (h : ta σ H fun vs H1 => ∃ a xs, vs = [.ref a] ∧ SqL K H1 a xs ∧ R (Ite K a) H1) : iEnum K ta σ H R := h
theorem r_orT {ta tb : TE} (h : ta σ H fun x H1 => ∃ k, TruV K x H1 k ∧ if k = true then Q x H1 else tb σ H1 Q) : tOrT K ta tb σ H Q := h
theorem r_truL {P : Bool → Prop} (h : SqL K H a xs) (q : P (!xs.isEmpty)) : ∃ k, TruV K (.ref a) H k ∧ P k := ⟨_, Or.inl ⟨xs, h, rfl⟩, q⟩
/-! slices -/
theorem cutV_to (xs : List V) (k : Nat) : cutV xs none (some (k : Int)) = xs.take k := by
  unfold cutV
  rw [HT.sIx_none, HT.sIx_nat, List.drop_zero, Nat.sub_zero]
  by_cases h : k ≤ xs.length
  · rw [Nat.min_eq_left h]
  · rw [Nat.min_eq_right (by omega), List.take_length, List.take_of_length_le (by omega)]
theorem cutV_from (xs : List V) (k : Nat) : cutV xs (some (k : Int)) none = xs.drop k := by
  unfold cutV
  rw [HT.sIx_none, HT.sIx_nat]
  by_cases h : k ≤ xs.length
  · rw [Nat.min_eq_left h, List.take_of_length_le (by rw [List.length_drop]; omega)]
  · rw [Nat.min_eq_right (by omega), List.drop_length, List.drop_of_length_le (by omega), List.take_nil]
theorem cutV_mid (xs : List V) (i j : Nat) : cutV xs (some (i : Int)) (some (j : Int)) = (xs.drop i).take (j - i) := by
  unfold cutV
  rw [HT.sIx_nat, HT.sIx_nat]
  by_cases h : i ≤ xs.length
  · rw [Nat.min_eq_left h]
    by_cases h2 : j ≤ xs.length
    · rw [Nat.min_eq_left h2]
    · rw [Nat.min_eq_right (by omega), List.take_of_length_le (i := j - i) (by rw [List.length_drop]; omega), List.take_of_length_le (by rw [List.length_drop]; omega)]
  · rw [Nat.min_eq_right (a := i) (by omega), List.drop_length, List.drop_of_length_le (by omega), List.take_nil, List.take_nil]
theorem cutS_to (z : Str) (k : Nat) : (cutS z none (some (k : Int))).cps.toList = z.cps.toList.take k := by
  have hz : z.length = z.cps.toList.length := by rw [Array.length_toList]; rfl
  show ((z.cps.toList.drop (HT.sIx z.length 0 none)).take (HT.sIx z.length z.length (some (k : Int)) - HT.sIx z.length 0 none)).toArray.toList = _
  rw [List.toList_toArray, HT.sIx_none, HT.sIx_nat, List.drop_zero, Nat.sub_zero, hz]
  by_cases h : k ≤ z.cps.toList.length
  · rw [Nat.min_eq_left h]
  · rw [Nat.min_eq_right (by omega), List.take_length, List.take_of_length_le (by omega)]
theorem cutS_from (z : Str) (k : Nat) : (cutS z (some (k : Int)) none).cps.toList = z.cps.toList.drop k := by
  have hz : z.length = z.cps.toList.length := by rw [Array.length_toList]; rfl
  show ((z.cps.toList.drop (HT.sIx z.length 0 (some (k : Int)))).take (HT.sIx z.length z.length none - HT.sIx z.length 0 (some (k : Int)))).toArray.toList = _
  rw [List.toList_toArray, HT.sIx_none, HT.sIx_nat, hz]
  by_cases h : k ≤ z.cps.toList.length
  · rw [Nat.min_eq_left h, List.take_of_length_le (by rw [List.length_drop]; omega)]
  · rw [Nat.min_eq_right (by omega), List.drop_length, List.drop_of_length_le (by omega), List.take_nil]
end
end My
namespace My
open PySem L2
section
variable {σ : L2.St} {H : Hp} {K : PySem.W.Frag} {a p : Addr} {xs : List V} {R : Prop} {S : Addr → Prop}
theorem r_exb {b : Bool} {q : Bool → Prop} (h : q b) : ∃ k, V.bl b = V.bl k ∧ q k := ⟨b, rfl, h⟩
theorem r_exi {i : Int} {q : Int → Prop} (h : q i) : ∃ k, V.int i = V.int k ∧ q k := ⟨i, rfl, h⟩
theorem r_exr {q : Addr → Prop} (h : q a) : ∃ k, V.ref a = V.ref k ∧ q k := ⟨a, rfl, h⟩
theorem r_exs {z : Str} {q : Str → Prop} (h : q z) : ∃ k, V.str z = V.str k ∧ q k := ⟨z, rfl, h⟩
theorem r_exli {i : Int} {q : Int → Prop} (h : q i) : ∃ k, [V.int i] = [V.int k] ∧ q k := ⟨i, rfl, h⟩
theorem r_strV {z : Str} (h : R) : (∃ a, V.str z = .str a) ∧ R := ⟨⟨z, rfl⟩, h⟩
theorem r_tyL (h : SqL K H p xs) (q : R) : tyV K "list" (.ref p) H ∧ R := ⟨.inl ⟨rfl, xs, h⟩, q⟩
theorem r_disp {n : Nat} (h : n ≤ 100000) (q : ∀ p, S p) : n ≤ sizeLine ∧ ∀ p, S p := ⟨sz h, q⟩
end
end My
namespace My
open PySem L2
section
variable {σ : L2.St} {H : Hp} {K : PySem.W.Frag} {a : Addr} {x : V} {xs : List V} {g : TG} {gs : TGs} {n : Nat} {Q : L2.St → Hp → Prop}
theorem r_gtup (h : SqT K H a xs) (hl : xs.length = n) (q : gs xs σ H Q) : gTup K n gs (.ref a) σ H Q := ⟨a, xs, rfl, h, hl, q⟩
theorem r_gcons (q : g x σ H fun σ' H' => gs xs σ' H' Q) : gCons g gs (x :: xs) σ H Q := ⟨x, xs, rfl, q⟩
theorem r_gnil (q : Q σ H) : gNil [] σ H Q := ⟨rfl, q⟩
theorem ite01 (k : Bool) : (0 : Int) ≤ (if k = true then 1 else 0) := by cases k <;> decide
end
end My
namespace My
open PySem L2
theorem ixN_lt {n j : Nat} (h : j < n) : ixN n (j : Int) = some j := by
  unfold ixN
  rw [if_pos (by omega), if_pos (by omega), Int.toNat_natCast]
theorem map_get {xs : List Int} {j : Nat} (h : j < xs.length) : (xs.map V.int)[j]? = some (V.int xs[j]) := by rw [List.getElem?_map, List.getElem?_eq_getElem h]; rfl
theorem map_some {α : Type} {f : α → V} {xs : List α} {i : Nat} {v : V} (h : (xs.map f)[i]? = some v) : ∃ c, v = f c ∧ xs[i]? = some c := by
  rw [List.getElem?_map] at h
  cases e : xs[i]? with
  | none => rw [e] at h; cases h
  | some c => rw [e] at h; exact ⟨c, (Option.some.inj h).symm, rfl⟩
end My
namespace My
open PySem L2
section
variable {σ : L2.St} {H : Hp} {D : Ends} {ta : TA} {i j l : Nat}
theorem r_par (h : ta σ H fun vs H1 => ∃ v w, vs = [v, w] ∧ D.nx ((σ.set i (some v)).set j (some w)) H1) : tPar i j ta D σ H := h
theorem r_par3 (h : ta σ H fun vs H1 => ∃ u v w, vs = [u, v, w] ∧ D.nx (((σ.set i (some u)).set j (some v)).set l (some w)) H1) : tPar3 i j l ta D σ H := h
theorem r_ex2 {v w : V} {q : V → V → Prop} (h : q v w) : ∃ a b, [v, w] = [a, b] ∧ q a b := ⟨v, w, rfl, h⟩
theorem r_ex3 {u v w : V} {q : V → V → V → Prop} (h : q u v w) : ∃ a b c, [u, v, w] = [a, b, c] ∧ q a b c := ⟨u, v, w, rfl, h⟩
end
end My
namespace My
open PySem L2
section
variable {K : PySem.W.Frag} {H H' : Hp} {a b p : Addr} {xs : List V} {o : HO} {n : Nat}
theorem Rd_upd {u : HO} (h : Rd H a u) (hp : H p = none) : Rd (upd H p o) a u := by
  rcases h with h | ⟨w, h⟩
  · exact .inl (upd_at h (ne_of_none h hp))
  · exact .inr ⟨w, upd_at h (ne_of_none h hp)⟩
theorem SqT.upd (h : SqT K H a xs) (hp : H p = none) : SqT K (L2.upd H p o) a xs := h.elim (fun h => .inl (Rd_upd h hp)) .inr
theorem SqL.upd (h : SqL K H a xs) (hp : H p = none) : SqL K (L2.upd H p o) a xs := h.elim (fun h => .inl (Rd_upd h hp)) .inr
theorem SqT.same (h : SqT K H a xs) (e : Same H H') : SqT K H' a xs := by
  rcases h with (h | ⟨o, h⟩) | h
  · exact .inl (.inl (e _ _ h))
  · exact .inl (.inr ⟨o, e _ _ h⟩)
  · exact .inr h
theorem SqT.kp (h : SqT K H a xs) (k : Kp b H H') (x : Bx H b n) : SqT K H' a xs := by
  obtain ⟨_, _, _, hb, _⟩ := x
  rcases h with (h | ⟨o, h⟩) | h
  · exact .inl (.inl (k _ _ h (ne_of h hb (by intro z; cases z))))
  · exact .inl (.inr ⟨o, k _ _ h (ne_of h hb (by intro z; cases z))⟩)
  · exact .inr h
theorem SqL.kp (h : SqL K H a xs) (k : Kp b H H') (ne : a ≠ b) : SqL K H' a xs := by
  rcases h with (h | ⟨o, h⟩) | h
  · exact .inl (.inl (k _ _ h ne))
  · exact .inl (.inr ⟨o, k _ _ h ne⟩)
  · exact .inr h
end
end My
namespace My
open PySem L2
section
variable {H : Hp} {Q : VK} {K : PySem.W.Frag} {x : V} {p : Addr} {T c c1 c2 : String} {b b1 b2 : Bool}
theorem r_isi (b : Bool) (ty : TyX K H x (.type T)) (e : kitB T c = some b) (q : Q (.bl b) H) : rIsi K [x, .ty c] H Q := ⟨x, .ty c, .type T, .type c, b, rfl, .ty c, ty, kit_ty e, q⟩
theorem r_isiT (b1 b2 : Bool) (ty : TyX K H x (.type T)) (hp : H p = some (.tup [.ty c1, .ty c2])) (e1 : kitB T c1 = some b1) (e2 : kitB T c2 = some b2) (q : Q (.bl (b1 || b2)) H) : rIsiT K [x, .ref p] H Q :=
  ⟨x, p, [.ty c1, .ty c2], .type T, [.type c1, .type c2], b1 || b2, rfl, hp, .cons (.ty c1) (.cons (.ty c2) .nil), ty, by
    refine kitAny_cons (kit_ty e1) (fun z => ?_) (fun z => by rw [z]; rfl)
    rw [z]
    exact kitAny_cons (kit_ty e2) (fun z => by rw [z]; exact kitAny_nil) (fun z => by rw [z]; rfl), q⟩
def rIsN : R2 := fun x y H Q => y = .non ∧ Q (.bl (decide (x = .non))) H
def rNotN : R2 := fun x y H Q => y = .non ∧ Q (.bl (!decide (x = .non))) H
theorem o_isN {X : Cx} : OpR X (compareOp .Is) rIsN := op_isN
theorem r_isN (q : Q (.bl (decide (x = .non))) H) : rIsN x .non H Q := ⟨rfl, q⟩
theorem r_notN (q : Q (.bl (!decide (x = .non))) H) : rNotN x .non H Q := ⟨rfl, q⟩
theorem tyL {K : PySem.W.Frag} {a : Addr} {xs : List V} (h : H a = some (.lst xs)) : TyX K H (.ref a) (.type "list") := .base (.lst h)
theorem tyT {K : PySem.W.Frag} {a : Addr} {xs : List V} (h : H a = some (.tup xs)) : TyX K H (.ref a) (.type "tuple") := .base (.tup h)
end
end My
namespace My
open PySem L2
theorem r_iZipA {σ : L2.St} {H : Hp} {K : PySem.W.Frag} {ta : TA} {R : It → Hp → Prop} (h : ta σ H fun vs H1 => ∃ a b xs ys, vs = [.ref a, .ref b] ∧ ((SqL K H1 a xs ∧ SqL K H1 b ys ∧ R (Itz K a b) H1) ∨ (SqT K H1 a xs ∧ SqT K H1 b ys ∧ R (RZ.ItzT K a b) H1))) : RZ.iZipA K ta σ H R := h
end My
namespace My
open PySem L2
section
variable {X : Cx}
theorem opK {f : Value → Value → Sem Value} {r : PySem.W.Frag → R2} (K : PySem.W.Frag) (h : OpR X f (r X.K)) (e : X.K = K := by rfl) : OpR X f (r K) := by subst e; exact h
theorem ixK {r : PySem.W.Frag → R2} (K : PySem.W.Frag) (h : IxR X (r X.K)) (e : X.K = K := by rfl) : IxR X (r K) := by subst e; exact h
end
end My

namespace My
open PySem L2
abbrev cds (z : Str) : List Nat := z.cps.toList
def AllL (l : List Nat) : Prop := ∀ c ∈ l, 97 ≤ c ∧ c ≤ 122
/-- one small letter -/
def Lt1 (s : Str) : Prop := ∃ c, s = ⟨#[c]⟩ ∧ 97 ≤ c ∧ c ≤ 122
def KindS (s : Str) : Prop := 1 ≤ (cds s).length ∧ (cds s).length ≤ 8 ∧ AllL (cds s)
theorem len_cds (z : Str) : z.length = (cds z).length := by
  rw [Array.length_toList]
  rfl
theorem joinL_nil : ∀ ps : List (List Nat), TL.joinL [] ps = ps.flatten
  | [] => rfl
  | [p] => by rw [List.flatten_cons, List.flatten_nil, List.append_nil]; rfl
  | p :: q :: r => by
    rw [List.flatten_cons, ← joinL_nil (q :: r)]
    rfl
theorem cds_join (ys : List Str) : cds (Txt.join (Str.ofString "") ys) = (ys.map cds).flatten := by
  rw [TL.join_eq]
  have e := TL.tl_join (Str.ofString "") ys
  have e0 : TL.tl (Str.ofString "") = [] := by decide +kernel
  rw [e0, joinL_nil] at e
  exact e
theorem flat_len : ∀ (ys : List Str), (∀ s ∈ ys, Lt1 s) → ((ys.map cds).flatten.length = ys.length ∧ AllL (ys.map cds).flatten)
  | [], _ => ⟨rfl, fun c h => by simp at h⟩
  | y :: r, h => by
    obtain ⟨h1, h2⟩ := flat_len r fun s hs => h s (List.mem_cons_of_mem _ hs)
    obtain ⟨c, rfl, c1, c2⟩ := h y List.mem_cons_self
    rw [List.map_cons, List.flatten_cons, List.length_append, h1, List.length_cons]
    refine ⟨Nat.add_comm _ _, fun d hd => ?_⟩
    rcases List.mem_append.mp hd with hd | hd
    · have : d = c := by simpa using hd
      subst this
      exact ⟨c1, c2⟩
    · exact h2 d hd
theorem sum_len : ∀ (ys : List Str), (∀ s ∈ ys, Lt1 s) → (ys.map (·.length)).sum = ys.length
  | [], _ => rfl
  | y :: r, h => by
    obtain ⟨c, rfl, _⟩ := h y List.mem_cons_self
    rw [List.map_cons, List.sum_cons, sum_len r fun s hs => h s (List.mem_cons_of_mem _ hs), List.length_cons]
    exact Nat.add_comm 1 _
theorem letters_at : ∀ j : Nat, j < 26 → (cds (Str.ofString "abcdefghijklmnopqrstuvwxyz"))[j]? = some (97 + j) := by decide +kernel
theorem empty_len : (Str.ofString "").length = 0 := by decide +kernel
theorem letters_len : (Str.ofString "abcdefghijklmnopqrstuvwxyz").length = 26 := by decide +kernel
/-- a name as the law draws it: a letter of its own at a place that hangs on its size -/
def NameAt (w : Str) (p c : Nat) : Prop := 1 ≤ (cds w).length ∧ (cds w).length ≤ 8 ∧ (cds w)[p % (cds w).length]? = some c ∧ AllL (cds w)
theorem NameAt.kind {w : Str} {p c : Nat} (h : NameAt w p c) : KindS w := ⟨h.1, h.2.1, h.2.2.2⟩
def steps : List Nat := [1, 3, 5, 7, 9, 11, 15, 17, 19, 21, 23, 25]
theorem names_nodup {p f s : Nat} (hs : s ∈ steps) {ws : List Str} (hl : ws.length ≤ 13) (h : ∀ (k : Nat) (w : Str), ws[k]? = some w → NameAt w p (97 + (f + s * k) % 26)) : ws.Nodup := by
  refine List.pairwise_iff_getElem.mpr fun i j hi hj hij e => ?_
  have h1 := h i ws[i] (List.getElem?_eq_getElem hi)
  have h2 := h j ws[j] (List.getElem?_eq_getElem hj)
  rw [e] at h1
  have e2 := h1.2.2.1.symm.trans h2.2.2.1
  have e3 := Option.some.inj e2
  unfold steps at hs
  simp only [List.mem_cons, List.not_mem_nil, or_false] at hs
  rcases hs with rfl | rfl | rfl | rfl | rfl | rfl | rfl | rfl | rfl | rfl | rfl | rfl <;> omega
/-- a word with one letter put in -/
theorem put_letter {w w' : Str} {c p n : Nat} (hw : (cds w).length = n) (ha : AllL (cds w)) (hn : 1 ≤ n ∧ n ≤ 8) (hc : 97 ≤ c ∧ c ≤ 122) (e : cds w' = (cds w).take (p % n) ++ [c] ++ (cds w).drop (p % n + 1)) : NameAt w' p c := by
  have hp : p % n < n := Nat.mod_lt _ (by omega)
  have hl : (cds w').length = n := by
    rw [e, List.length_append, List.length_append, List.length_take, List.length_drop, hw]
    show min (p % n) n + 1 + (n - (p % n + 1)) = n
    omega
  refine ⟨by omega, by omega, ?_, fun d hd => ?_⟩
  · rw [hl, e, List.append_assoc, List.getElem?_append_right (by rw [List.length_take, hw]; omega), List.length_take, hw, Nat.min_eq_left (by omega), Nat.sub_self]
    rfl
  · rw [e] at hd
    rcases List.mem_append.mp hd with hd | hd
    · rcases List.mem_append.mp hd with hd | hd
      · exact ha d (List.mem_of_mem_take hd)
      · have : d = c := by simpa using hd
        subst this
        exact hc
    · exact ha d (List.mem_of_mem_drop hd)
theorem cds_app (a b : Str) : cds (a ++ b) = cds a ++ cds b := by
  show (a.cps ++ b.cps).toList = _
  rw [Array.toList_append]
section
variable {σ : L2.St} {H : Hp} {Q : VK}
theorem r_yes {q : Bool → Hp → Prop} (h : q true H) : tYes σ H q := h
/-- one of the letters -/
theorem r_ixSl {d : Nat} (h : d < 26 ∧ Q (.str ⟨#[97 + d]⟩) H) : rIxS (.str (Str.ofString "abcdefghijklmnopqrstuvwxyz")) (.int (d : Int)) H Q :=
  r_ixS (sz (by rw [letters_len]; decide)) (atI_nat (letters_at d h.1)) h.2
end
theorem cds_to (z : Str) (k : Nat) : cds (cutS z none (some (k : Int))) = (cds z).take k := cutS_to z k
theorem cds_from (z : Str) (k : Nat) : cds (cutS z (some (k : Int)) none) = (cds z).drop k := cutS_from z k
end My

namespace My
open PySem L2
/-! the order of texts, of pairs (text, number) -/
def sle (s t : Str) : Bool := !decide (cds t < cds s)
theorem sle_iff {s t : Str} : sle s t = true ↔ cds s ≤ cds t := by
  unfold sle
  rw [Bool.not_eq_true', decide_eq_false_iff_not, List.not_lt]
theorem sle_total (s t : Str) : sle s t = true ∨ sle t s = true := by
  rw [sle_iff, sle_iff]
  exact List.le_total _ _
theorem sle_trans {s t u : Str} (h : sle s t = true) (h' : sle t u = true) : sle s u = true := by
  rw [sle_iff] at *
  exact List.le_trans h h'
theorem str_ext {s t : Str} (h : cds s = cds t) : s = t := by
  obtain ⟨a⟩ := s
  obtain ⟨b⟩ := t
  have e : a = b := Array.toList_inj.mp h
  rw [e]
theorem sle_anti {s t : Str} (h : sle s t = true) (h' : sle t s = true) : s = t := by
  rw [sle_iff] at *
  exact str_ext (List.le_antisymm h h')
theorem sle_refl (s : Str) : sle s s = true := (sle_total s s).elim id id
def ple (p q : Str × Int) : Bool := if p.1 = q.1 then decide (p.2 ≤ q.2) else sle p.1 q.1
theorem ple_total (p q : Str × Int) : ple p q = true ∨ ple q p = true := by
  unfold ple
  by_cases e : p.1 = q.1
  · rw [if_pos e, if_pos e.symm, decide_eq_true_iff, decide_eq_true_iff]
    omega
  · rw [if_neg e, if_neg (Ne.symm e)]
    exact sle_total _ _
theorem ple_trans {p q r : Str × Int} (h : ple p q = true) (h' : ple q r = true) : ple p r = true := by
  unfold ple at *
  by_cases e : p.1 = q.1
  · rw [if_pos e, decide_eq_true_iff] at h
    by_cases e2 : q.1 = r.1
    · rw [if_pos e2, decide_eq_true_iff] at h'
      rw [if_pos (e.trans e2), decide_eq_true_iff]
      omega
    · rw [if_neg e2] at h'
      rw [if_neg (fun z => e2 (e.symm.trans z)), e]
      exact h'
  · rw [if_neg e] at h
    by_cases e2 : q.1 = r.1
    · rw [if_neg (fun z => e (z.trans e2.symm)), ← e2]
      exact h
    · rw [if_neg e2] at h'
      by_cases e3 : p.1 = r.1
      · exact absurd (sle_anti h (by rw [e3]; exact h')) e
      · rw [if_neg e3]
        exact sle_trans h h'
theorem ple_anti {p q : Str × Int} (h : ple p q = true) (h' : ple q p = true) : p = q := by
  unfold ple at *
  by_cases e : p.1 = q.1
  · rw [if_pos e, decide_eq_true_iff] at h
    rw [if_pos e.symm, decide_eq_true_iff] at h'
    exact Prod.ext e (by omega)
  · rw [if_neg e] at h
    rw [if_neg (Ne.symm e)] at h'
    exact absurd (sle_anti h h') e
/-! putting one more into a rising list -/
section
variable {α : Type} {le : α → α → Bool}
def cnt (le : α → α → Bool) (qs : List α) (p : α) : Nat := (qs.filter fun q => le q p).length
theorem put_rising (tot : ∀ p q, le p q = true ∨ le q p = true) (tr : ∀ {p q r}, le p q = true → le q r = true → le p r = true) : ∀ {qs : List α} (p : α), qs.Pairwise (fun a b => le a b = true) →
    (qs.take (cnt le qs p) ++ [p] ++ qs.drop (cnt le qs p)).Pairwise (fun a b => le a b = true) ∧ (∀ q ∈ qs.take (cnt le qs p), le q p = true) ∧ ∀ q ∈ qs.drop (cnt le qs p), le p q = true
  | [], p, _ => ⟨by simp [cnt], by simp, by simp⟩
  | q :: r, p, h => by
    obtain ⟨h1, h2⟩ := List.pairwise_cons.mp h
    by_cases c : le q p = true
    · obtain ⟨i1, i2, i3⟩ := put_rising tot tr p h2
      have e : cnt le (q :: r) p = cnt le r p + 1 := by
        unfold cnt
        rw [List.filter_cons, if_pos c, List.length_cons]
      rw [e, List.take_succ_cons, List.drop_succ_cons]
      refine ⟨?_, ?_, i3⟩
      · show (q :: (r.take (cnt le r p) ++ [p] ++ r.drop (cnt le r p))).Pairwise _
        refine List.pairwise_cons.mpr ⟨fun x hx => ?_, i1⟩
        rcases List.mem_append.mp hx with hx | hx
        · rcases List.mem_append.mp hx with hx | hx
          · exact h1 x (List.mem_of_mem_take hx)
          · have : x = p := by simpa using hx
            rw [this]
            exact c
        · exact h1 x (List.mem_of_mem_drop hx)
      · intro x hx
        rcases List.mem_cons.mp hx with rfl | hx
        · exact c
        · exact i2 x hx
    · have c' : le p q = true := (tot p q).resolve_right c
      have no : ∀ x ∈ r, ¬ le x p = true := fun x hx z => c (tr (h1 x hx) z)
      have e : cnt le (q :: r) p = 0 := by
        unfold cnt
        rw [List.filter_cons, if_neg c, List.filter_eq_nil_iff.mpr (fun x hx => no x hx)]
        rfl
      rw [e]
      refine ⟨?_, by simp, fun x hx => ?_⟩
      · show (p :: q :: r).Pairwise _
        exact List.pairwise_cons.mpr ⟨fun x hx => by
          rcases List.mem_cons.mp hx with rfl | hx
          · exact c'
          · exact tr c' (h1 x hx), h⟩
      · rcases List.mem_cons.mp hx with rfl | hx
        · exact c'
        · exact tr c' (h1 x hx)
theorem cnt_le (le : α → α → Bool) (qs : List α) (p : α) : cnt le qs p ≤ qs.length := List.length_filter_le _ _
theorem perm_in (qs : List α) (p : α) (c : Nat) : (qs.take c ++ [p] ++ qs.drop c).Perm (qs ++ [p]) := by
  have h : (qs.take c ++ [p] ++ qs.drop c).Perm ([p] ++ (qs.take c ++ qs.drop c)) := by
    rw [← List.append_assoc]
    exact List.Perm.append_right _ List.perm_append_comm
  rw [List.take_append_drop] at h
  exact h.trans List.perm_append_comm
end
/-! <= of such pairs -/
def rLeP (K : PySem.W.Frag) : R2 := fun x y H Q => ∃ (a b : Addr) (p q : Str × Int), x = .ref a ∧ y = .ref b ∧ SqT K H a [.str p.1, .int p.2] ∧ SqT K H b [.str q.1, .int q.2] ∧ Q (.bl (ple p q)) H
theorem RcOp.le_str {A : Around} {s : Shared} (a b : Str) (t u : Tok) : Ob.RcOp .LtE A s (.str a t) (.str b u) (sle a b) := fun _ _ _ _ h => PySem.P.le_str h
theorem pair_shape {p : Str × Int} {its : List Value} (r : Vals [.str p.1, .int p.2] its) : ∃ t u, its = [.str p.1 t, .int p.2 u] := by
  cases r with
  | cons r1 r =>
    cases r with
    | cons r2 r =>
      cases r
      obtain ⟨t, rfl⟩ := (show ∃ t, _ = Value.str p.1 t from r1)
      obtain ⟨u, rfl⟩ := (show ∃ t, _ = Value.int p.2 t from r2)
      exact ⟨t, u, rfl⟩
theorem o_leP {X : Cx} (hu : X.A.units < cLine) : OpR X (compareOp .LtE) (rLeP X.K) := by
  intro pins s σ H x y v u Q I rx ry h
  obtain ⟨a, b, p, q, rfl, rfl, ha, hb, q0⟩ := h
  cases rx
  cases ry
  obtain ⟨its, r1, p1, _⟩ := I.tuple ha
  obtain ⟨its2, r2, p2, _⟩ := I.tuple hb
  obtain ⟨t1, u1, rfl⟩ := pair_shape r1
  obtain ⟨t2, u2, rfl⟩ := pair_shape r2
  have R := Ob.RcOp.tuples_le (A := X.A) (s := s) (e := fun j => if j = 0 then (p.1 == q.1) else (p.2 == q.2)) (r := fun j => if j = 0 then sle p.1 q.1 else decide (p.2 ≤ q.2)) p1 p2 hu (fun j h1 h2 => by
    match j, h1, h2 with
    | 0, _, _ => exact SeqAt.EqAt.str_str _ _ _ _
    | 1, _, _ => exact SeqAt.EqAt.int_int _ _ _ _) (fun j h1 h2 _ => by
    match j, h1, h2 with
    | 0, _, _ => exact RcOp.le_str _ _ _ _
    | 1, _, _ => exact Ob.RcOp.le_int _ _ _ _)
  have e : Ob.lexAt (fun j => if j = 0 then (p.1 == q.1) else (p.2 == q.2)) (fun j => if j = 0 then sle p.1 q.1 else decide (p.2 ≤ q.2)) (decide ([Value.str p.1 t1, .int p.2 u1].toArray.size ≤ [Value.str q.1 t2, .int q.2 u2].toArray.size)) 0 (min [Value.str p.1 t1, .int p.2 u1].toArray.size [Value.str q.1 t2, .int q.2 u2].toArray.size) = ple p q := by
    show (if (p.1 == q.1) = true then (if (p.2 == q.2) = true then true else decide (p.2 ≤ q.2)) else sle p.1 q.1) = ple p q
    unfold ple
    by_cases e1 : p.1 = q.1
    · rw [if_pos (beq_iff_eq.mpr e1), if_pos e1]
      by_cases e2 : p.2 = q.2
      · rw [if_pos (beq_iff_eq.mpr e2), e2]
        exact (decide_eq_true (Int.le_refl _)).symm
      · rw [if_neg (fun z => e2 (beq_iff_eq.mp z))]
    · rw [if_neg (fun z => e1 (beq_iff_eq.mp z)), if_neg e1]
  rw [e] at R
  have z : wpAny (model X.prog X.w) X.A (compareOp .LtE (.ref a) (.ref b)) (EP X pins σ Q) X.xe s := R X.prog X.w X.xe (EP X pins σ Q) ⟨.bl _, H, I, rfl, q0⟩
  exact z
/-- a tuple of a text and a number stands there -/
def PrA (H : Hp) (x : V) (p : Str × Int) : Prop := ∃ t, x = .ref t ∧ H t = some (.tup [.str p.1, .int p.2])
theorem PrA.same {H H' : Hp} {x : V} {p : Str × Int} (h : PrA H x p) (e : Same H H') : PrA H' x p := let ⟨t, h1, h2⟩ := h; ⟨t, h1, e _ _ h2⟩
theorem PrA.all {H H' : Hp} {xs : List V} {ps : List (Str × Int)} (h : Paired (PrA H) xs ps) (e : Same H H') : Paired (PrA H') xs ps := Paired.mapP h fun _ _ z => z.same e
theorem PrA.kp {a : Addr} {b : Nat} {H H' : Hp} {x : V} {p : Str × Int} (h : PrA H x p) (e : Kp a H H') (bx : Bx H a b) : PrA H' x p := by
  obtain ⟨t, h1, h2⟩ := h
  obtain ⟨_, _, _, hb, _⟩ := bx
  exact ⟨t, h1, e _ _ h2 (ne_of h2 hb (by intro z; cases z))⟩
theorem Paired.len {α β : Type} {R : α → β → Prop} : ∀ {xs : List α} {ys : List β}, Paired R xs ys → xs.length = ys.length
  | _, _, .nil => rfl
  | _, _, .cons _ t => by rw [List.length_cons, List.length_cons, Paired.len t]
theorem Paired.at {α β : Type} {R : α → β → Prop} : ∀ {xs : List α} {ys : List β} {i : Nat} {x : α}, Paired R xs ys → xs[i]? = some x → ∃ y, ys[i]? = some y ∧ R x y
  | _, _, _, _, .nil, e => by simp at e
  | _, _, 0, _, .cons r _, e => by simp at e; subst e; exact ⟨_, rfl, r⟩
  | _, _, i + 1, x, .cons _ t, e => by
    obtain ⟨y, h1, h2⟩ := Paired.at (i := i) t (by simpa using e)
    exact ⟨y, by simpa using h1, h2⟩
theorem Paired.app {α β : Type} {R : α → β → Prop} : ∀ {xs xs' : List α} {ys ys' : List β}, Paired R xs ys → Paired R xs' ys' → Paired R (xs ++ xs') (ys ++ ys')
  | _, _, _, _, .nil, h => h
  | _, _, _, _, .cons r t, h => .cons r (Paired.app t h)
theorem Paired.tk {α β : Type} {R : α → β → Prop} : ∀ {xs : List α} {ys : List β} (n : Nat), Paired R xs ys → Paired R (xs.take n) (ys.take n)
  | _, _, 0, _ => .nil
  | _, _, _ + 1, .nil => .nil
  | _, _, n + 1, .cons r t => .cons r (Paired.tk n t)
theorem Paired.dr {α β : Type} {R : α → β → Prop} : ∀ {xs : List α} {ys : List β} (n : Nat), Paired R xs ys → Paired R (xs.drop n) (ys.drop n)
  | _, _, 0, h => h
  | _, _, _ + 1, .nil => .nil
  | _, _, n + 1, .cons _ t => Paired.dr n t
end My
namespace My
open PySem L2
theorem filter_take {α : Type} {f : α → Bool} {qs : List α} {j : Nat} {r : α} (h : qs[j]? = some r) : ((qs.take (j + 1)).filter f).length = ((qs.take j).filter f).length + (if f r = true then 1 else 0) := by
  rw [List.take_add_one, h, List.filter_append, List.length_append]
  congr 1
  show ([r].filter f).length = _
  rw [List.filter_cons]
  split <;> rfl
theorem r_leP {H : Hp} {Q : VK} {K : PySem.W.Frag} {a b : Addr} {p q : Str × Int} (ha : SqT K H a [.str p.1, .int p.2]) (hb : SqT K H b [.str q.1, .int q.2]) (h : Q (.bl (ple p q)) H) : rLeP K (.ref a) (.ref b) H Q := ⟨a, b, p, q, rfl, rfl, ha, hb, h⟩
end My

namespace My
open PySem L2
/-! a dict of texts to numbers, as its pairs -/
abbrev AL := List (Str × Int)
def enc (m : AL) : List (Key × V) := m.map fun p => (Sum.inr p.1, V.int p.2)
def look (m : AL) (k : Str) : Option Int := (m.find? fun p => decide (p.1 = k)).map (·.2)
def put (m : AL) (k : Str) (n : Int) : AL := if (m.any fun p => decide (p.1 = k)) = true then m.map (fun p => if p.1 = k then (p.1, n) else p) else m ++ [(k, n)]
def get (m : AL) (k : Str) : Int := (look m k).getD 0
def keys (m : AL) : List Str := m.map (·.1)
theorem enc_len (m : AL) : (enc m).length = m.length := List.length_map _
theorem inr_eq {a b : Str} : decide ((Sum.inr a : Key) = Sum.inr b) = decide (a = b) := key_rr a b
theorem enc_look : ∀ (m : AL) (k : Str), valV (enc m) (Sum.inr k) = (look m k).map V.int
  | [], _ => rfl
  | p :: r, k => by
    show valV ((Sum.inr p.1, V.int p.2) :: enc r) (Sum.inr k) = (look (p :: r) k).map V.int
    by_cases e : p.1 = k
    · rw [valV_pos (by rw [e])]
      unfold look
      rw [List.find?_cons, decide_eq_true e]
      rfl
    · rw [valV_neg (fun z => e (Sum.inr.inj z)), enc_look r k]
      unfold look
      rw [List.find?_cons, decide_eq_false e]
theorem enc_any (m : AL) (k : Str) : ((enc m).any fun kv => decide (kv.1 = (Sum.inr k : Key))) = (m.any fun p => decide (p.1 = k)) := by
  unfold enc
  rw [List.any_map]
  congr 1
  funext p
  exact inr_eq
theorem enc_put (m : AL) (k : Str) (n : Int) : putK (enc m) (Sum.inr k) (V.int n) = enc (put m k n) := by
  unfold putK put
  rw [enc_any]
  split
  · unfold enc
    rw [List.map_map, List.map_map]
    congr 1
    funext p
    show (if (Sum.inr p.1 : Key) = Sum.inr k then ((Sum.inr p.1 : Key), V.int n) else ((Sum.inr p.1 : Key), V.int p.2)) = _
    by_cases e : p.1 = k
    · rw [if_pos (by rw [e])]
      show _ = (Sum.inr (if p.1 = k then (p.1, n) else p).1, V.int (if p.1 = k then (p.1, n) else p).2)
      rw [if_pos e]
    · rw [if_neg (fun z => e (Sum.inr.inj z))]
      show _ = (Sum.inr (if p.1 = k then (p.1, n) else p).1, V.int (if p.1 = k then (p.1, n) else p).2)
      rw [if_neg e]
  · unfold enc
    rw [List.map_append]
    rfl
theorem look_cons (p : Str × Int) (r : AL) (k : Str) : look (p :: r) k = if p.1 = k then some p.2 else look r k := by
  unfold look
  rw [List.find?_cons]
  by_cases e : p.1 = k
  · rw [decide_eq_true e, if_pos e]
    rfl
  · rw [decide_eq_false e, if_neg e]
theorem look_none : ∀ {m : AL} {k : Str}, look m k = none ↔ k ∉ keys m
  | [], _ => by simp [look, keys]
  | p :: r, k => by
    rw [look_cons]
    show _ ↔ k ∉ p.1 :: keys r
    by_cases e : p.1 = k
    · rw [if_pos e, e]
      simp
    · rw [if_neg e, look_none, List.mem_cons, not_or]
      exact ⟨fun h => ⟨Ne.symm e, h⟩, fun h => h.2⟩
theorem any_look (m : AL) (k : Str) : (m.any fun p => decide (p.1 = k)) = true ↔ k ∈ keys m := by
  rw [List.any_eq_true]
  constructor
  · rintro ⟨p, hp, e⟩
    exact List.mem_map.mpr ⟨p, hp, of_decide_eq_true e⟩
  · intro h
    obtain ⟨p, hp, e⟩ := List.mem_map.mp h
    exact ⟨p, hp, decide_eq_true e⟩
theorem keys_put (m : AL) (k : Str) (n : Int) : keys (put m k n) = if k ∈ keys m then keys m else keys m ++ [k] := by
  unfold put
  by_cases h : k ∈ keys m
  · rw [if_pos ((any_look m k).mpr h), if_pos h]
    unfold keys
    rw [List.map_map]
    congr 1
    funext p
    show (if p.1 = k then (p.1, n) else p).1 = p.1
    split <;> rfl
  · rw [if_neg (fun z => h ((any_look m k).mp z)), if_neg h]
    unfold keys
    rw [List.map_append]
    rfl
theorem put_nodup {m : AL} {k : Str} {n : Int} (h : (keys m).Nodup) : (keys (put m k n)).Nodup := by
  rw [keys_put]
  split
  · exact h
  · exact nd_snoc h (by assumption)
theorem put_len (m : AL) (k : Str) (n : Int) : (put m k n).length ≤ m.length + 1 := by
  have e : (put m k n).length = (keys (put m k n)).length := (List.length_map _).symm
  rw [e, keys_put]
  have e2 : (keys m).length = m.length := List.length_map _
  split
  · omega
  · rw [List.length_append]
    show (keys m).length + 1 ≤ _
    omega
theorem look_map (m : AL) (k j : Str) (n : Int) : look (m.map (fun p => if p.1 = k then (p.1, n) else p)) j = if j = k then (if k ∈ keys m then some n else none) else look m j := by
  induction m with
  | nil =>
    show none = _
    split
    · rw [if_neg (by simp [keys])]
    · rfl
  | cons p r ih =>
    rw [List.map_cons, look_cons, ih, look_cons]
    show (if (if p.1 = k then (p.1, n) else p).1 = j then some (if p.1 = k then (p.1, n) else p).2 else _) = if j = k then (if k ∈ p.1 :: keys r then some n else none) else _
    by_cases e : p.1 = k
    · rw [if_pos e]
      by_cases ej : j = k
      · subst ej
        rw [if_pos e, if_pos rfl, if_pos (by rw [e]; exact List.mem_cons_self)]
      · rw [if_neg (fun z : p.1 = j => ej (z.symm.trans e)), if_neg ej, if_neg ej, if_neg (fun z : p.1 = j => ej (z.symm.trans e))]
    · rw [if_neg e]
      by_cases ej : j = k
      · subst ej
        rw [if_neg e, if_pos rfl, if_pos rfl]
        by_cases hk : j ∈ keys r
        · rw [if_pos hk, if_pos (List.mem_cons_of_mem _ hk)]
        · rw [if_neg hk, if_neg (fun z => (List.mem_cons.mp z).elim (fun q => e q.symm) hk)]
      · rw [if_neg ej, if_neg ej]
theorem look_app (m : AL) (k j : Str) (n : Int) : look (m ++ [(k, n)]) j = (look m j).or (if k = j then some n else none) := by
  induction m with
  | nil =>
    show look [(k, n)] j = _
    rw [look_cons]
    rfl
  | cons p r ih =>
    rw [List.cons_append, look_cons, ih, look_cons]
    split <;> rfl
theorem look_put (m : AL) (k j : Str) (n : Int) : look (put m k n) j = if j = k then some n else look m j := by
  unfold put
  by_cases h : k ∈ keys m
  · rw [if_pos ((any_look m k).mpr h), look_map, if_pos h]
  · rw [if_neg (fun z => h ((any_look m k).mp z)), look_app]
    by_cases e : j = k
    · subst e
      rw [look_none.mpr h, if_pos rfl]
      rfl
    · rw [if_neg (Ne.symm e), if_neg e]
      cases look m j <;> rfl
theorem get_put (m : AL) (k j : Str) (n : Int) : get (put m k n) j = if j = k then n else get m j := by
  unfold get
  rw [look_put]
  split <;> rfl
theorem look_mem : ∀ {m : AL} {k : Str} {n : Int}, (keys m).Nodup → (look m k = some n ↔ (k, n) ∈ m)
  | [], _, _, _ => by simp [look]
  | p :: r, k, n, h => by
    obtain ⟨h1, h2⟩ := List.nodup_cons.mp (show (p.1 :: keys r).Nodup from h)
    rw [look_cons]
    by_cases e : p.1 = k
    · rw [if_pos e, List.mem_cons]
      constructor
      · intro z
        left
        have z := Option.some.inj z
        exact Prod.ext e.symm z.symm
      · rintro (z | z)
        · rw [← z]
        · exact absurd (List.mem_map.mpr ⟨_, z, rfl⟩ : k ∈ keys r) (by rw [← e]; exact h1)
    · rw [if_neg e, look_mem h2, List.mem_cons]
      exact ⟨.inr, fun z => z.resolve_left fun q => e (by rw [← q])⟩
theorem nodup_of_keys {m : AL} (h : (keys m).Nodup) : m.Nodup := List.Pairwise.of_map (fun p => p.1) (fun _ _ q z => q (by rw [z])) h
/-- the pairs above 0 -/
def pos (m : AL) : AL := m.filter fun p => decide (0 < p.2)
theorem mem_pos {m : AL} (h : (keys m).Nodup) {k : Str} {n : Int} : (k, n) ∈ pos m ↔ get m k = n ∧ 0 < n := by
  unfold pos
  rw [List.mem_filter, ← look_mem h]
  unfold get
  constructor
  · rintro ⟨h1, h2⟩
    rw [h1]
    exact ⟨rfl, of_decide_eq_true h2⟩
  · rintro ⟨h1, h2⟩
    cases e : look m k with
    | none => rw [e] at h1; have : (0 : Int) = n := h1; omega
    | some v =>
      rw [e] at h1
      have : v = n := h1
      rw [this]
      exact ⟨rfl, decide_eq_true h2⟩
theorem pos_perm {m m' : AL} (h : (keys m).Nodup) (h' : (keys m').Nodup) (e : ∀ k, 0 < get m k ∨ 0 < get m' k → get m k = get m' k) : (pos m).Perm (pos m') := by
  refine (List.perm_ext_iff_of_nodup ((nodup_of_keys h).filter _) ((nodup_of_keys h').filter _)).mpr fun ⟨k, n⟩ => ?_
  show (k, n) ∈ pos m ↔ (k, n) ∈ pos m'
  rw [mem_pos h, mem_pos h']
  constructor
  · rintro ⟨h1, h2⟩
    exact ⟨by rw [← e k (.inl (by omega)), h1], h2⟩
  · rintro ⟨h1, h2⟩
    exact ⟨by rw [e k (.inr (by omega)), h1], h2⟩
/-- a dict's pairs above 0, rising -/
def Cn (m qs : AL) : Prop := qs.Perm (pos m) ∧ qs.Pairwise (fun a b => ple a b = true)
theorem cn_unique {m m' qs qs' : AL} (h : (keys m).Nodup) (h' : (keys m').Nodup) (c : Cn m qs) (c' : Cn m' qs') (e : ∀ k, 0 < get m k ∨ 0 < get m' k → get m k = get m' k) : qs = qs' :=
  List.Perm.eq_of_pairwise (le := fun a b => ple a b = true) (fun _ _ _ _ z z' => ple_anti z z') c.2 c'.2 (c.1.trans ((pos_perm h h' e).trans c'.1.symm))
/-- the numbers of a kind in a row of pairs, added up -/
def tot : AL → Str → Int
  | [], _ => 0
  | p :: r, k => (if p.1 = k then p.2 else 0) + tot r k
theorem tot_app (a b : AL) (k : Str) : tot (a ++ b) k = tot a k + tot b k := by
  induction a with
  | nil => exact (Int.zero_add _).symm
  | cons p r ih =>
    show (if p.1 = k then p.2 else 0) + tot (r ++ b) k = (if p.1 = k then p.2 else 0) + tot r k + tot b k
    rw [ih, Int.add_assoc]
theorem tot_nodup : ∀ {m : AL} (k : Str), (keys m).Nodup → tot m k = get m k
  | [], _, _ => rfl
  | p :: r, k, h => by
    obtain ⟨h1, h2⟩ := List.nodup_cons.mp (show (p.1 :: keys r).Nodup from h)
    show (if p.1 = k then p.2 else 0) + tot r k = get (p :: r) k
    unfold get
    rw [look_cons, tot_nodup k h2]
    by_cases e : p.1 = k
    · rw [if_pos e, if_pos e]
      unfold get
      rw [look_none.mpr (by rw [← e]; exact h1)]
      exact Int.add_zero _
    · rw [if_neg e, if_neg e, Int.zero_add]
      rfl
theorem tot_perm {a b : AL} (h : a.Perm b) (k : Str) : tot a k = tot b k := by
  induction h with
  | nil => rfl
  | cons p _ ih => show _ + _ = _ + _; rw [ih]
  | swap p q r => show _ + (_ + _) = _ + (_ + _); omega
  | trans _ _ i1 i2 => exact i1.trans i2
theorem tot_pos {m : AL} (h : (keys m).Nodup) (h0 : ∀ k, 0 ≤ get m k) (k : Str) : tot (pos m) k = get m k := by
  have hk : (keys (pos m)).Nodup := List.Nodup.sublist (List.Sublist.map _ List.filter_sublist) h
  rw [tot_nodup k hk]
  unfold get
  cases e : look (pos m) k with
  | some v =>
    have := (mem_pos h).mp ((look_mem hk).mp e)
    exact this.1.symm
  | none =>
    have h1 := h0 k
    have h2 : ¬ 0 < get m k := fun z => by
      have := (mem_pos h).mpr ⟨rfl, z⟩
      rw [(look_mem hk).mpr this] at e
      cases e
    show (0 : Int) = get m k
    omega
end My
namespace My
open PySem L2
theorem PrA.kpd {d : Addr} {u : HO} {H H' : Hp} {x : V} {p : Str × Int} (h : PrA H x p) (e : Kp d H H') (hd : H d = some u) (hu : ∀ xs, HO.tup xs ≠ u) : PrA H' x p := by
  obtain ⟨t, h1, h2⟩ := h
  exact ⟨t, h1, e _ _ h2 (ne_of h2 hd (hu _))⟩
theorem PrA.kpdAll {d : Addr} {u : HO} {H H' : Hp} {xs : List V} {ps : AL} (h : Paired (PrA H) xs ps) (e : Kp d H H') (hd : H d = some u) (hu : ∀ xs, HO.tup xs ≠ u) : Paired (PrA H') xs ps := Paired.mapP h fun _ _ z => z.kpd e hd hu
theorem pos_take {m : AL} {i : Nat} {p : Str × Int} (h : m[i]? = some p) : pos (m.take (i + 1)) = pos (m.take i) ++ (if 0 < p.2 then [p] else []) := by
  unfold pos
  rw [List.take_add_one, h, List.filter_append]
  congr 1
  show [p].filter _ = _
  rw [List.filter_cons]
  by_cases c : 0 < p.2
  · rw [if_pos (decide_eq_true c), if_pos c]
    rfl
  · rw [if_neg (fun z => c (of_decide_eq_true z)), if_neg c]
    rfl
theorem enc_at {m : AL} {i : Nat} {k : Key} {v : V} (h : (enc m)[i]? = some (k, v)) : ∃ p, m[i]? = some p ∧ k = Sum.inr p.1 ∧ v = V.int p.2 := by
  unfold enc at h
  rw [List.getElem?_map] at h
  cases e : m[i]? with
  | none => rw [e] at h; cases h
  | some p =>
    rw [e] at h
    have h := Option.some.inj h
    exact ⟨p, rfl, (congrArg Prod.fst h).symm, (congrArg Prod.snd h).symm⟩
theorem DGet_enc {H : Hp} {d : Addr} {m : AL} {k : Str} {r : Option Int} (h : L2.Rd H d (.dK (enc m))) (e : look m k = r) : DGet H d (.str k) (r.map V.int) := .inl ⟨enc m, Sum.inr k, h, rfl, by rw [enc_look, e]⟩
theorem look_at {m : AL} {i : Nat} {p : Str × Int} (hn : (keys m).Nodup) (h : m[i]? = some p) : look m p.1 = some p.2 := (look_mem hn).mpr (List.mem_of_getElem? h)
section
variable {σ : L2.St} {H : Hp} {Q : VK} {td ty tx te : TE} {D : Ends} {ts : TS} {d : Addr} {u : HO}
theorem r_dget (h : td σ H fun x H1 => ty σ H1 fun y H2 => ∃ a v, x = .ref a ∧ DGet H2 a y (some v) ∧ Q v H2) : tDGet td ty σ H Q := h
theorem r_dget2 (h : td σ H fun x H1 => ∃ a, x = .ref a ∧ IsD H1 a ∧ ty σ H1 fun y H2 => tx σ H2 fun z H3 => ∃ o, DGet H3 a y o ∧ Q (o.getD z) H3) : tDGet2 td ty tx σ H Q := h
theorem r_lockE (hd : H d = some u) (m : Mut (some u)) (h : ∀ od, te σ (upd H d (.frz od u)) fun v H' => H' d = some (.frz od u) ∧ Q v (upd H' d u)) : tLockE te σ H Q := ⟨d, u, hd, m, h⟩
theorem r_lock (hd : H d = some u) (m : Mut (some u)) (h : ∀ od, ts ⟨fun σ' H' => H' d = some (.frz od u) ∧ D.nx σ' (upd H' d u), fun v H' => H' d = some (.frz od u) ∧ D.rt v (upd H' d u), fun σ' H' => H' d = some (.frz od u) ∧ D.bk σ' (upd H' d u), fun σ' H' => H' d = some (.frz od u) ∧ D.ct σ' (upd H' d u)⟩ σ (upd H d (.frz od u))) : tLock ts D σ H := ⟨d, u, hd, m, h⟩
theorem r_iKeys {R : It → Hp → Prop} (h : td σ H fun x H1 => ∃ d o, x = .ref d ∧ ((∃ kvs, H1 d = some (.frz o (.dK kvs)) ∧ R (Itk d o kvs) H1) ∨ ∃ kvs, H1 d = some (.frz o (.dT kvs)) ∧ R (Itkt d o kvs) H1)) : iKeys td σ H R := h
theorem r_dput {tv : TE} (h : tv σ H fun v H1 => td σ H1 fun x H2 => ty σ H2 fun y H3 => ∃ a H4, x = .ref a ∧ DPut H3 a y v H4 ∧ D.nx σ H4) : sDPut td ty tv D σ H := h
end
theorem DPut_enc {H : Hp} {d : Addr} {m : AL} {k : Str} {n : Int} (h : H d = some (.dK (enc m))) (hl : m.length < sizeLine) : DPut H d (.str k) (.int n) (upd H d (.dK (enc (put m k n)))) := .inl ⟨enc m, Sum.inr k, h, rfl, by rw [enc_len]; exact hl, by rw [enc_put]⟩
end My
namespace My
open PySem L2
theorem get_look {m : AL} {k : Str} : (Option.map V.int (look m k)).getD (V.int 0) = V.int (get m k) := by
  unfold get
  cases look m k <;> rfl
theorem tot_take {ps : AL} {i : Nat} {p : Str × Int} (h : ps[i]? = some p) (k : Str) : tot (ps.take (i + 1)) k = tot (ps.take i) k + (if p.1 = k then p.2 else 0) := by
  rw [List.take_add_one, h, tot_app]
  show _ + ((if p.1 = k then p.2 else 0) + 0) = _
  rw [Int.add_zero]
end My

/-! an own class's operators, by its own methods -/
namespace My
open PySem L2 PySem.W
/-- a method of the class at C, with its promise -/
structure OCal (P : Program) (w : World) (K : PySem.W.Frag) (mg : Str → Option Value) (base : Heap) (CX : CXT) (k : Nat) (C : Addr) (name : Str) (ps : List Str) (sp : Sp) : Prop where
  ex : ∃ (f : Addr) (fd : FuncData), FnOk P w K mg base CX k f fd ps sp ∧ PySem.W.findIn K (.ref C) name = some (some (.ref f)) ∧ PySem.W.isFn K (.ref f) = true ∧ PySem.W.keepIn K (.ref f) = true ∧ PySem.W.fnIn K f = true ∧ Binds K fd ps []
/-- what an operator asks of the class beside its method -/
structure OCls (K : PySem.W.Frag) (C : Addr) : Prop where
  cl : Cls K C
  sf : PySem.W.selfFirst K C = true
  ns : PySem.W.noSeq K C = true
  si : PySem.W.subIn K (.type "int") (.ref C) = some false
section
variable {X : Cx} {CX : CXT} {k : Nat} {f C : Addr} {fd : FuncData} {ps : List Str} {sp : Sp} {E : XK} {pins : List (Addr × Obj)} {σ : L2.St} {H : Hp} {s : Shared} {Q : VK}
theorem run_at {A : Around} {us : List Value} {vs : List V} (F : FnOk X.prog X.w X.K X.mg X.base CX k f fd ps sp) (hr : Room k A) (hf : A.frames = X.A.frames) (hb : Binds X.K fd ps []) (hx : ∀ e s', CX X.stack H s E e s' → X.xe e s')
    (I : Inv X pins σ H s) (r : Vals vs us) (h : sp vs H Q E) : wpAny (model X.prog X.w) A (call (.ref f) us) (EP X pins σ Q) X.xe s := by
  have hl : us.length = ps.length := by rw [← r.length]; exact F.len _ _ _ _ h
  have e0 : Env0 X.prog X.w X.K X.mg X.base A X.stack s H := by
    have e := I.env0
    exact ⟨by rw [hf]; exact e.frames, e.mod, e.bs, e.bsz, e.funs, e.frf, e.hok, e.bare⟩
  have b := hb s us I.kIn (by rw [List.append_nil]; exact hl)
  rw [List.append_nil] at b
  refine wpAny_call (codeAny_mono (F.run A X.stack s H ⟨us, []⟩ us vs Q E hr e0 b r h) fun r s' hq => ?_)
  cases r with
  | error e => exact hx e s' hq
  | ok fl =>
    cases fl with
    | ret u => exact I.after hq
    | next => exact False.elim hq
    | brk => exact False.elim hq
    | cont => exact False.elim hq
theorem cmpBack {u : Value} {s' : Shared} {R : Value → Shared → Prop} (h : EP X pins σ Q u s') (hR : EP X pins σ Q u s' → R u s') : CmpBack R u s' := by
  obtain ⟨v, H', I, rv, q⟩ := id h
  cases v <;> (first | (cases (show u = _ from rv); exact hR h) | (obtain ⟨t, z⟩ := (show ∃ t, u = _ from rv); cases z; exact hR h))
/-- x op y, both of the class at C -/
def rOwn (C : Addr) (sp : Sp) (E : L2.St → XK) (σ : L2.St) : R2 := fun x y H Q => ∃ a b dx dy fs gs, x = .ref a ∧ y = .ref b ∧ H a = some (.ins C dx fs) ∧ H b = some (.ins C dy gs) ∧ sp [x, y] H Q (E σ)
/-- x op n, n a whole number -/
def rOwnI (C : Addr) (sp : Sp) (E : L2.St → XK) (σ : L2.St) : R2 := fun x y H Q => ∃ a dx fs i, x = .ref a ∧ y = .int i ∧ H a = some (.ins C dx fs) ∧ sp [x, y] H Q (E σ)
def tOpS (r : L2.St → R2) (ta tb : TE) : TE := fun σ H Q => ta σ H fun x H1 => tb σ H1 fun y H2 => r σ x y H2 Q
theorem pe_opS {op : Operator} {r : L2.St → R2} {a b : Expr} {ta tb : TE} {pos : Pos} (ho : ∀ (pins : List (Addr × Obj)) (s : Shared) (σ : L2.St) (H : Hp) (x y : V) (v u : Value) (Q : VK), Inv X pins σ H s → RelV x v → RelV y u → r σ x y H Q →
    wpAny (model X.prog X.w) X.A (binaryOp op v u) (EP X pins σ Q) X.xe s) (ha : PE X a ta) (hb : PE X b tb) : PE X (.BinOp a op b pos) (tOpS r ta tb) := by
  refine ⟨fun pins s σ H Q I h => ?_⟩
  exact wpAny_BinOp (binT ha hb I h fun v u s2 x y H2 I2 rx ry q => ho pins s2 σ H2 x y v u Q I2 rx ry q)
/-- what a call may let out at the slots σ -/
def PassS (CX : CXT) (X : Cx) (E : L2.St → XK) : Prop := ∀ (pins : List (Addr × Obj)) (σ : L2.St) (H : Hp) (s : Shared) (e : Value) (s' : Shared), Inv X pins σ H s → CX X.stack H s (E σ) e s' → X.xe e s'
theorem PassS.of {X : Cx} {CX : CXT} {E : XK} (h : Passes CX X E) : PassS CX X (fun _ => E) := h
theorem pe_bin {op : Operator} {E : L2.St → XK} {a b : Expr} {ta tb : TE} {pos : Pos} (O : OCal X.prog X.w X.K X.mg X.base CX k C (PySem.dunder op.info.2) ps sp) (oc : OCls X.K C) (hr : Room k X.A) (hx : PassS CX X E)
    (ha : PE X a ta) (hb : PE X b tb) : PE X (.BinOp a op b pos) (tOpS (rOwn C sp E) ta tb) := by
  refine pe_opS (fun pins s σ H x y v u Q I rx ry h => ?_) ha hb
  obtain ⟨a, b, dx, dy, fs, gs, rfl, rfl, h1, h2, h⟩ := h
  cases rx
  cases ry
  obtain ⟨f, fd, F, hs, hf, hk, hfn, hb⟩ := O.ex
  obtain ⟨mA, J, _⟩ := ins_get I.hok h1
  obtain ⟨mB, J', _⟩ := ins_get I.hok h2
  obtain ⟨od, J, _⟩ := J.look
  obtain ⟨od', J', _⟩ := J'.look
  obtain ⟨m, hF⟩ := I.fr
  refine binop_K hF I.ok.mod.kin J J'.type oc.sf hs hf ?_
  exact wpAny_mono (run_at F hr rfl hb (fun e s' c => hx pins σ H s e s' I c) I (vs := [.ref a, .ref b]) (.cons rfl (.cons rfl .nil)) h) (fun u s' q => cmpBack q fun z => z) fun _ _ z => z
theorem pe_binI {op : Operator} {E : L2.St → XK} {a b : Expr} {ta tb : TE} {pos : Pos} {fo ro rc : Option Value} (O : OCal X.prog X.w X.K X.mg X.base CX k C (PySem.dunder op.info.2) ps sp) (oc : OCls X.K C) (hr : Room k X.A) (hx : PassS CX X E)
    (hrc : PySem.W.findIn X.K (.ref C) (dunderR op.info.2) = some rc) (hp : rc = none ∨ ∃ g : Addr, rc = some (.ref g)) (h1 : PySem.W.findIn X.K (.type "int") (PySem.dunder op.info.2) = some fo) (h2 : PySem.W.findIn X.K (.type "int") (dunderR op.info.2) = some ro)
    (ha : PE X a ta) (hb : PE X b tb) : PE X (.BinOp a op b pos) (tOpS (rOwnI C sp E) ta tb) := by
  refine pe_opS (fun pins s σ H x y v u Q I rx ry h => ?_) ha hb
  obtain ⟨a, dx, fs, i, rfl, rfl, e1, h⟩ := h
  cases rx
  obtain ⟨t, rfl⟩ := (show ∃ t, u = Value.int i t from ry)
  obtain ⟨f, fd, F, hs, hf, hk, hfn, hb⟩ := O.ex
  obtain ⟨mA, J, _⟩ := ins_get I.hok e1
  obtain ⟨od, J, _⟩ := J.look
  obtain ⟨m, hF⟩ := I.fr
  refine ksp_binT (T := "int") hF I.ok.mod.kin J rfl oc.sf hs hf hrc hp h1 h2 oc.si ?_
  exact wpAny_mono (run_at F hr rfl hb (fun e s' c => hx pins σ H s e s' I c) I (vs := [.ref a, .int i]) (.cons rfl (.cons ⟨t, rfl⟩ .nil)) h) (fun u s' q => cmpBack q fun z => z) fun _ _ z => z
/-- x[i] -/
def tIxO (C : Addr) (sp : Sp) (E : XK) (ta tb : TE) : TE := fun σ H Q => ta σ H fun x H1 => tb σ H1 fun y H2 => ∃ a dx fs, x = .ref a ∧ H2 a = some (.ins C dx fs) ∧ sp [x, y] H2 Q E
theorem pe_ixO {a b : Expr} {ta tb : TE} {pos : Pos} (O : OCal X.prog X.w X.K X.mg X.base CX k C "__getitem__" ps sp) (hr : Room (k + 1) X.A) (hx : Passes CX X E) (ha : PE X a ta) (hb : PE X b tb)
    (hsl : ∀ o i, subscripted b true o i = runValue (.builtin "lifetime.subscript" ⟨[o, i], []⟩) := by (intro o i; with_unfolding_all rfl)) : PE X (.Subscript a b pos) (tIxO C sp E ta tb) := by
  refine ⟨fun pins s σ H Q I h => ?_⟩
  refine PyProof.Rows.Subscript_ (binT ha hb I h fun v u s2 x y H2 I2 rx ry q => ?_)
  obtain ⟨p, dx, fs, rfl, e1, h⟩ := q
  cases rx
  obtain ⟨f, fd, F, hs, hf, hk, hfn, hb⟩ := O.ex
  obtain ⟨mA, J, _⟩ := ins_get I2.hok e1
  obtain ⟨od, J, _⟩ := J.look
  obtain ⟨m, hF⟩ := I2.fr
  refine sub_K hF I2.ok.mod.kin J hs hfn hf ?_ (hsl _ _)
  exact run_at F hr.in1 rfl hb (fun e s' c => hx pins σ H2 s2 e s' I2 c) I2 (vs := [.ref p, y]) (.cons rfl (.cons ry .nil)) h
/-- len(x) -/
theorem c_lenO (O : OCal X.prog X.w X.K X.mg X.base CX k C "__len__" ps sp) (hr : Room (k + 1) X.A) (hx : Passes CX X E) :
    CallR X (.builtin "len") (fun vs H Q => ∃ a dx fs, vs = [.ref a] ∧ H a = some (.ins C dx fs) ∧ sp vs H (fun v H' => ∃ n : Int, v = .int n ∧ (0 ≤ n ∧ n < 2 ^ 63) ∧ Q v H') E) := by
  intro pins s σ H xs us Q I r h
  obtain ⟨a, dx, fs, rfl, e1, h⟩ := h
  obtain ⟨u, rfl, ru⟩ := vals1 r
  cases ru
  obtain ⟨f, fd, F, hs, hf, hk, hfn, hb⟩ := O.ex
  obtain ⟨mA, J, _⟩ := ins_get I.hok e1
  obtain ⟨od, J, _⟩ := J.look
  obtain ⟨m, hF⟩ := I.fr
  refine len_K hF I.ok.mod.kin J hs hf ?_
  refine wpAny_mono (run_at F hr.in1 rfl hb (fun e s' c => hx pins σ H s e s' I c) I (vs := [.ref a]) (.cons rfl .nil) h) (fun u s' q => ?_) fun _ _ z => z
  obtain ⟨v, H', I', rv, n, rfl, hn, q⟩ := q
  obtain ⟨t, rfl⟩ := (show ∃ t, u = Value.int n t from rv)
  exact ⟨hn, .int n, H', I'.tok _, ⟨_, rfl⟩, q⟩
end
end My

namespace My
open PySem L2
/-! sets of texts: made of a dict, then sorted -/
/-- at a an exact set of just the texts L -/
def SetSR (P : Program) (w : World) (h : Heap) (a : Addr) (L : List Str) : Prop := ∃ (o : Obj) (es : Array (Int × Value)) (ep : Nat) (t : SetTable) (ks : List Str), h.get? a = some o ∧ o.ExactSet ∧ o.data = Data.set es ep t ∧ ElemsOf (mixKind P w) es.toList ∧
  Vals (ks.map V.str) (es.toList.map (·.2)) ∧ ks.Perm L ∧ es.size < scanBound ∧ t.fits es.size = true ∧ Ris t.place.toList ∧ (w.params.followText "set-order" = true ∨ t.led = true)
theorem vals_strs : ∀ {ks : List Str} {us : List Value}, Vals (ks.map V.str) us → ∀ u ∈ us, ∃ k ∈ ks, ∃ tk, u = Value.str k tk
  | [], _, .nil, _, h => by cases h
  | k :: r, _, .cons e h, u, hu => by
    rcases List.mem_cons.mp hu with z | z
    · obtain ⟨tk, e⟩ := (show ∃ tk, _ = Value.str k tk from e)
      exact ⟨k, List.mem_cons_self, tk, z.trans e⟩
    · obtain ⟨k', h1, h2⟩ := vals_strs h u z
      exact ⟨k', List.mem_cons_of_mem _ h1, h2⟩
theorem vals_perm {us us' : List Value} (p : us'.Perm us) : ∀ {ks : List Str}, Vals (ks.map V.str) us → ∃ ks' : List Str, ks'.Perm ks ∧ Vals (ks'.map V.str) us' := by
  induction p with
  | nil => exact fun {ks} h => ⟨ks, .refl _, h⟩
  | cons x _ ih =>
    intro ks h
    match ks, h with
    | k :: r, .cons e h =>
      obtain ⟨ks', p', h'⟩ := ih h
      exact ⟨k :: ks', p'.cons k, .cons e h'⟩
  | swap x y l =>
    intro ks h
    match ks, h with
    | k :: j :: r, .cons e (.cons e2 h) => exact ⟨j :: k :: r, .swap k j r, .cons e2 (.cons e h)⟩
  | trans _ _ i1 i2 =>
    intro ks h
    obtain ⟨k1, p1, h1⟩ := i2 h
    obtain ⟨k2, p2, h2⟩ := i1 h1
    exact ⟨k2, p2.trans p1, h2⟩
theorem find_none {P : Program} {w : World} {ks : List Str} {k : Str} {es : List (Int × Value)} (hv : Vals (ks.map V.str) (es.map (·.2))) (hk : k ∉ ks) : List.findIdx? (fun e => (mixKind P w).is (Sum.inr k) e.2) es = none := by
  rw [List.findIdx?_eq_none_iff]
  intro e he
  obtain ⟨j, hj, tk, ej⟩ := vals_strs hv e.2 (List.mem_map.mpr ⟨e, he, rfl⟩)
  show Value.isStrOf k e.2 = false
  rw [ej]
  show (j == k) = false
  exact beq_eq_false_iff_ne.mpr fun z => hk (z ▸ hj)
theorem SetSR.store {P : Program} {w : World} {h : Heap} {a : Addr} {o : Obj} {es es' : Array (Int × Value)} {ep : Nat} {t t' : SetTable} {ks L : List Str} (ho : h.get? a = some o) (hex : o.ExactSet) (hd : o.data = Data.set es ep t) (hel : ElemsOf (mixKind P w) es'.toList)
    (hv : Vals (ks.map V.str) (es'.toList.map (·.2))) (hp : ks.Perm L) (hb : es'.size < scanBound) (hf : t'.fits es'.size = true) (hr : Ris t'.place.toList) (hl : w.params.followText "set-order" = true ∨ t'.led = true) : SetSR P w (h.update a (Obj.putSet es' t')) a L :=
  ⟨_, es', ep + 1, t', ks, store_at ho hd, hex, rfl, hel, hv, hp, hb, hf, hr, hl⟩
theorem elems_perm {P : Program} {w : World} {xs ys : List (Int × Value)} (p : xs.Perm ys) (h : ElemsOf (mixKind P w) ys) : ElemsOf (mixKind P w) xs := fun e he => h e (p.mem_iff.mp he)
theorem setS_tail {P : Program} {w : World} {A : Around} {E : Value → Shared → Prop} {s : Shared} {a : Addr} {g : Bool → Sem Unit} (hg : ∀ (b : Bool) (s₁ : Shared) (Q' : Unit → Shared → Prop), Q' () s₁ → wpAny (model P w) A (g b) Q' E s₁)
    {o : Obj} {es : Array (Int × Value)} {ep : Nat} {t : SetTable} (ho : s.heap.get? a = some o) (hex : o.ExactSet) (hd : o.data = Data.set es ep t) {es1 : Array (Int × Value)} {t2 : SetTable} {ks L : List Str} (hel : ElemsOf (mixKind P w) es1.toList)
    (hv : Vals (ks.map V.str) (es1.toList.map (·.2))) (hp : ks.Perm L) (hb : es1.size < scanBound) (hf : t2.fits es1.size = true) (hr : Ris t2.place.toList) (hl : w.params.followText "set-order" = true ∨ t2.led = true) {wasDummy : Bool} {R : Option Bool → Shared → Prop}
    (hQ : ∀ h' : Heap, Heap.SameBut a s.heap h' → SetSR P w h' a L → R (some true) { s with heap := h' }) :
    wpAny (model P w) A (do
      storeSet a es1 t2
      if (!wasDummy && t2.tooFull) = true then do
        g (relayAll t2 es1 (SetTable.grown es1.size)).2.2
        storeSet a (relayAll t2 es1 (SetTable.grown es1.size)).1 (relayAll t2 es1 (SetTable.grown es1.size)).2.1
        pure (some true)
      else pure (some true)) R E s := by
  have sb : es1.size ≤ sizeLine := Nat.le_trans (Nat.le_of_lt hb) (by decide)
  refine wpAny_bind (wpAny_storeSet_of ho hd ?_ sb)
  split
  · refine wpAny_bind (hg _ _ _ ?_)
    have p1 := relayAll_perm t2 es1 (SetTable.grown es1.size)
    have l1 : (relayAll t2 es1 (SetTable.grown es1.size)).1.size = es1.size := by
      have := p1.length_eq
      rwa [Array.length_toList, Array.length_toList] at this
    obtain ⟨ks', pk, hv'⟩ := vals_perm (p1.map (·.2)) hv
    refine wpAny_bind (wpAny_storeSet_of (store_at ho hd) rfl ?_ (by rw [l1]; exact sb))
    refine wpAny_pure ?_
    have R1 := SetSR.store (P := P) (w := w) (L := L) (store_at (es' := es1) (t' := t2) ho hd) hex rfl (elems_perm p1 hel) hv' (pk.trans hp) (by rw [l1]; exact hb) (relayAll_fits _ _ _) (relayAll_ris _ _ _) (by rw [relayAll_led]; exact hl)
    exact hQ _ ((Heap.SameBut.update _ _ _).trans (Heap.SameBut.update _ _ _)) R1
  · refine wpAny_pure ?_
    exact hQ _ (Heap.SameBut.update _ _ _) (SetSR.store ho hex hd hel hv hp hb hf hr hl)

theorem setS_add {P : Program} {w : World} {A : Around} {E : Value → Shared → Prop} {s : Shared} {a : Addr} {L : List Str} {k : Str} {tk : Tok} {Q : Bool → Shared → Prop} (R : SetSR P w s.heap a L) (hk : k ∉ L) (room : L.length + 1 < scanBound)
    (hQ : ∀ h' : Heap, Heap.SameBut a s.heap h' → SetSR P w h' a (k :: L) → Q true { s with heap := h' }) : wpAny (model P w) A (setAddHashed a (.str k tk) ((mixKind P w).hash (Sum.inr k))) Q E s := by
  obtain ⟨o, es, ep, t, ks, ho, hex, hd, hel, hv, hp, hb, hf, hr, hl⟩ := R
  have hkey : (mixKind P w).is (Sum.inr k) (Value.str k tk) = true := by show (k == k) = true; exact beq_self_eq_true k
  have hsc : (Value.str k tk).scannable = true := rfl
  have hk' : k ∉ ks := fun z => hk (hp.mem_iff.mp z)
  have le : es.size = L.length := by
    have h1 := Paired.len hv
    have h2 : (ks.map V.str).length = L.length := by rw [List.length_map, hp.length_eq]
    have h3 : (es.toList.map (·.2)).length = es.size := by rw [List.length_map, Array.length_toList]
    omega
  have w1 := layNew_fits t es ((mixKind P w).hash (Sum.inr k)) (Value.str k tk)
  have w2 := layNew_perm t es ((mixKind P w).hash (Sum.inr k)) (Value.str k tk)
  have w3 := layNew_ris t es ((mixKind P w).hash (Sum.inr k)) (Value.str k tk) hr
  have w4 := layNew_led t es ((mixKind P w).hash (Sum.inr k)) (Value.str k tk)
  show wpAny (model P w) A (holding [Value.str k tk] do setAddHashedIn a (.str k tk) ((mixKind P w).hash (Sum.inr k)) (99999 + 1)) Q E s
  rw [setAddHashedIn_succ]
  refine wpAny_holding (wpAny_bind (wpAny_setState_of ho hd hf ?_))
  show wpAny (model P w) _ (if byScan (Value.str k tk) es = true then _ else _) _ _ _
  rw [if_pos (byScan_of hsc hb hel)]
  refine wpAny_bind ?_
  unfold setAddByScan
  refine wpAny_bind (wpAny_rule ?_)
  refine wpAny_bind (wpAny_setScan_of (knd := mixKind P w) (k := Sum.inr k) hkey ho hd hf hel ?_)
  rw [find_none hv hk']
  generalize layNew t es ((mixKind P w).hash (Sum.inr k)) (Value.str k tk) = r at w1 w2 w3 w4 ⊢
  obtain ⟨es1, t1, wd, gv⟩ := r
  replace w1 : t1.fits es1.size = true := w1
  replace w2 : es1.toList.Perm (es.push ((mixKind P w).hash (Sum.inr k), Value.str k tk)).toList := w2
  replace w3 : Ris t1.place.toList := w3
  replace w4 : t1.led = t.led := w4
  have l1 : es1.size = es.size + 1 := by
    have := w2.length_eq
    rwa [Array.length_toList, Array.length_toList, Array.size_push] at this
  have p2 : es1.toList.Perm (es.toList ++ [((mixKind P w).hash (Sum.inr k), Value.str k tk)]) := by rw [Array.toList_push] at w2; exact w2
  have el1 : ElemsOf (mixKind P w) es1.toList := elems_perm p2 fun e he => by
    rcases List.mem_append.mp he with z | z
    · exact hel e z
    · rw [List.mem_singleton.mp z]
      exact ⟨⟨Sum.inr k, hkey, rfl⟩, hsc⟩
  have v0 : Vals ((ks ++ [k]).map V.str) ((es.toList ++ [((mixKind P w).hash (Sum.inr k), Value.str k tk)]).map (·.2)) := by
    rw [List.map_append, List.map_append]
    exact hv.append (.cons ⟨tk, rfl⟩ .nil)
  obtain ⟨ks', pk, hv'⟩ := vals_perm (p2.map (·.2)) v0
  have pk' : ks'.Perm (k :: L) := pk.trans ((List.perm_append_singleton k ks).trans (hp.cons k))
  have hb1 : es1.size < scanBound := by omega
  have hl1 : w.params.followText "set-order" = true ∨ t1.led = true := by rw [w4]; exact hl
  refine wpAny_bind ?_
  cases gv
  case' true => refine (wpAny_rule ?_)
  case' false => refine (wpAny_pure ?_)
  all_goals
    show wpAny (model P w) A (if t1.plain = true then _ else _) _ _ _
    split
    case' isTrue => refine wpAny_bind (wpAny_pure ?_)
    case' isTrue => exact setS_tail (t2 := { t1 with plain := false }) (wasDummy := wd) (fun b s₁ Q' h => by cases b; exact wpAny_pure h; exact wpAny_rule h) ho hex hd el1 hv' pk' hb1 (SetTable.fits_plain_off w1) w3 hl1 fun h' sb R' => wpAny_pure (hQ h' sb R')
    case' isFalse => refine wpAny_bind (wpAny_pure ?_)
    case' isFalse => exact setS_tail (t2 := t1) (wasDummy := wd) (fun b s₁ Q' h => by cases b; exact wpAny_pure h; exact wpAny_rule h) ho hex hd el1 hv' pk' hb1 w1 w3 hl1 fun h' sb R' => wpAny_pure (hQ h' sb R')
end My

namespace My
open PySem L2
theorem SetTR.to_s {P : Program} {w : World} {s : Shared} {a : Addr} {es : Array (Int × Value)} {ep : Nat} {t : SetTable} (R : SetTR P w s.heap a [] es ep t) : SetSR P w s.heap a [] := by
  obtain ⟨o, ho, hex, hd⟩ := R.ob
  have he : es.toList = [] := R.rows
  have h0 : es.size = 0 := by rw [← Array.length_toList, he]; rfl
  refine ⟨o, es, ep, t, [], ho, hex, hd, ?_, ?_, .refl _, ?_, R.fits, R.tab.ris, R.led⟩
  · rw [he]
    intro e z
    cases z
  · rw [he]
    exact .nil
  · rw [h0]
    decide
def relOk (led : Bool) (n : Nat) : Bool := match (SetTable.fresh 0 0 led).relaid #[] (n * 2) with
  | some (t', order) => decide (t'.place = #[] ∧ t'.dummies = #[] ∧ t'.led = led ∧ order = #[]) && decide (SetTable.sizeAbove (n * 2) ≤ 1000)
  | none => false
theorem relOk_all : ∀ led : Bool, ∀ n, n < 31 → relOk led n = true := by decide +kernel
theorem relaid0 (led : Bool) {n : Nat} (h : n < 31) : ∃ t' : SetTable, (SetTable.fresh 0 0 led).relaid #[] (n * 2) = some (t', #[]) ∧ t'.place = #[] ∧ t'.dummies = #[] ∧ t'.led = led ∧ SetTable.sizeAbove (n * 2) ≤ 1000 := by
  have e := relOk_all led n h
  unfold relOk at e
  split at e
  · rename_i t' order q
    rw [Bool.and_eq_true] at e
    obtain ⟨h1, h2, h3, h4⟩ := of_decide_eq_true e.1
    subst h4
    exact ⟨t', q, h1, h2, h3, of_decide_eq_true e.2⟩
  · cases e
theorem set_room {P : Program} {w : World} {A : Around} {E : Value → Shared → Prop} {s : Shared} {a : Addr} {n : Nat} {Q : Unit → Shared → Prop} (ho : s.heap.get? a = some { cls := Value.type "set", data := Data.set #[] 0 (SetTable.fresh 0 0 !w.params.followText "set-order") }) (hn : n ≤ 30)
    (hQ : ∀ h' : Heap, Heap.SameBut a s.heap h' → SetSR P w h' a [] → Q () { s with heap := h' }) : wpAny (model P w) A (setRoomFor a n) Q E s := by
  have R := setTR_fresh (P := P) (w := w) ho
  unfold setRoomFor
  refine wpAny_bind (wpAny_setState_of ho rfl R.fits ?_)
  have e : (SetTable.fresh 0 0 !w.params.followText "set-order").roomFor n = if (0 + n) * 5 ≥ 7 * 3 then some ((0 + n) * 2) else none := rfl
  rw [show ((#[], 0, SetTable.fresh 0 0 !w.params.followText "set-order") : Array (Int × Value) × Nat × SetTable).snd.snd.roomFor n = if (0 + n) * 5 ≥ 7 * 3 then some ((0 + n) * 2) else none from rfl]
  by_cases c : (0 + n) * 5 ≥ 7 * 3
  · rw [if_pos c, Nat.zero_add]
    obtain ⟨t', h1, h2, h3, h4, h5⟩ := relaid0 (!w.params.followText "set-order") (show n < 31 by omega)
    show wpAny (model P w) A (setRelay a (n * 2)) Q E s
    rw [setRelay_eq]
    refine wpAny_bind (wpAny_setState_of ho rfl R.fits ?_)
    have big : ¬ SetTable.sizeAbove (n * 2) > sizeLine := fun z => by
      have : 1000 ≤ sizeLine := by decide
      omega
    show wpAny (model P w) A (if SetTable.sizeAbove (n * 2) > sizeLine then _ else _) Q E s
    rw [if_neg big]
    refine wpAny_bind ?_
    rw [show (Array.map (fun x : Int × Value => x.fst) #[]) = #[] from by simp, h1]
    refine wpAny_pure ?_
    refine wpAny_storeSet_of ho rfl ?_ (by decide)
    refine hQ _ (Heap.SameBut.update _ _ _) (SetSR.store (ks := []) ho ⟨rfl, rfl, rfl⟩ rfl (fun e z => by cases z) .nil (.refl _) (by decide) ?_ (by rw [h2]; exact List.Pairwise.nil) ?_)
    · unfold SetTable.fits SetTable.fill
      rw [h2, h3]
      show (true && decide (0 + 0 ≤ t'.mask)) = true
      rw [Bool.true_and]
      exact decide_eq_true (by omega)
    · rw [h4]
      cases w.params.followText "set-order"
      · exact .inr rfl
      · exact .inl rfl
  · rw [if_neg c]
    exact wpAny_pure (hQ s.heap ⟨rfl, fun _ _ => rfl⟩ (SetTR.to_s R))
theorem for_range0 {M : Model} {A : Around} {E : Value → Shared → Prop} {f : Nat → PUnit → Sem (ForInStep PUnit)} (I : Nat → Shared → Prop) (n : Nat) (h : ∀ i s, i < n → I i s → wpAny M A (f i ⟨⟩) (fun r s' => r = .yield ⟨⟩ ∧ I (i + 1) s') E s) {Q : PUnit → Shared → Prop} (hQ : ∀ s, I n s → Q ⟨⟩ s) : ∀ (k i : Nat), i + k = n → ∀ s, I i s → wpAny M A (forIn (List.range' i k) PUnit.unit f) Q E s
  | 0, i, e, s, hi => by
    have : i = n := e
    subst this
    exact wpAny_pure (hQ s hi)
  | k + 1, i, e, s, hi => by
    rw [List.range'_succ, List.forIn_cons]
    refine wpAny_bind (wpAny_mono (h i s (by omega) hi) ?_ fun _ _ z => z)
    rintro r s' ⟨rfl, hi'⟩
    exact for_range0 I n h hQ k (i + 1) (by omega) s' hi'
theorem for_range {M : Model} {A : Around} {E : Value → Shared → Prop} {f : Nat → PUnit → Sem (ForInStep PUnit)} {n : Nat} {s : Shared} {Q : PUnit → Shared → Prop} (I : Nat → Shared → Prop) (h0 : I 0 s) (h : ∀ i s, i < n → I i s → wpAny M A (f i ⟨⟩) (fun r s' => r = .yield ⟨⟩ ∧ I (i + 1) s') E s)  (hQ : ∀ s, I n s → Q ⟨⟩ s) :
    wpAny M A (forIn ([0:n] : Std.Legacy.Range) PUnit.unit f) Q E s := by
  rw [Std.Legacy.Range.forIn_eq_forIn_range']
  have e : ([0:n] : Std.Legacy.Range).size = n := by simp [Std.Legacy.Range.size]
  show wpAny M A (forIn (List.range' 0 ([0:n] : Std.Legacy.Range).size 1) PUnit.unit f) Q E s
  rw [e]
  exact for_range0 I n h hQ n 0 (Nat.zero_add n) s h0
theorem pairs_at {P : Program} {w : World} : ∀ {es : List DictEntry} {kvs : List (Key × Value)}, Pairs (mixKind P w) es kvs → es.length = kvs.length ∧ ∀ (i : Nat) (e : DictEntry), es[i]? = some e → ∃ kv, kvs[i]? = some kv ∧ (mixKind P w).is kv.1 e.key = true
  | _, _, .nil => ⟨rfl, fun i e z => by simp at z⟩
  | _, _, .cons (e := e0) (kv := kv0) h _ r => by
    obtain ⟨h1, h2⟩ := pairs_at r
    refine ⟨by rw [List.length_cons, List.length_cons, h1], fun i e z => ?_⟩
    cases i with
    | zero =>
      have z := Option.some.inj z
      subst z
      exact ⟨kv0, rfl, h⟩
    | succ j => exact h2 j e z
theorem SetSR.perm {P : Program} {w : World} {h : Heap} {a : Addr} {L L' : List Str} (R : SetSR P w h a L) (p : L.Perm L') : SetSR P w h a L' := by
  obtain ⟨o, es, ep, t, ks, ho, hex, hd, hel, hv, hp, hb, hf, hr, hl⟩ := R
  exact ⟨o, es, ep, t, ks, ho, hex, hd, hel, hv, hp.trans p, hb, hf, hr, hl⟩
theorem key_str {P : Program} {w : World} {k : Str} {v : Value} (h : (mixKind P w).is (Sum.inr k) v = true) : ∃ tk, v = .str k tk := by
  have h : Value.isStrOf k v = true := h
  unfold Value.isStrOf at h
  split at h
  · exact ⟨_, by rw [eq_of_beq h]⟩
  · cases h
theorem upd_dict {P : Program} {w : World} {A : Around} {E : Value → Shared → Prop} {s : Shared} {a d : Addr} {m : List Str} {kvs : List (Key × Value)} {Q : Unit → Shared → Prop} (ho : s.heap.get? a = some { cls := Value.type "set", data := Data.set #[] 0 (SetTable.fresh 0 0 !w.params.followText "set-order") }) (hd : Heap.DictOf (mixKind P w) s.heap d kvs) (hm : kvs.map (·.1) = m.map Sum.inr) (hn : kvs.length ≤ 30) (hs : (d == sysModules) = false) (hne : d ≠ a)
    (hQ : ∀ h' : Heap, Heap.SameBut a s.heap h' → SetSR P w h' a m → Q () { s with heap := h' }) : wpAny (model P w) A (Builtin.Frozenset.updateFrom "set.__init__" a (.ref d)) Q E s := by
  obtain ⟨o, es, ep, h1, hex, h2, hk, hp, nd⟩ := hd
  unfold Builtin.Frozenset.updateFrom
  have td : s.TypeIs (.ref d) "dict" := ⟨o, h1, hex.1⟩
  refine wpAny_bind ?_
  unfold Builtin.Frozenset.isAnySet
  refine wpAny_bind (wpAny_isInstance td F.sub_dict_set ?_)
  refine wpAny_isInstance td F.sub_dict_frozenset ?_
  rw [if_neg (by decide)]
  refine wpAny_bind (wpAny_typeOf td ?_)
  rw [if_pos (by decide)]
  refine wpAny_bind (wpAny_rule ?_)
  refine wpAny_bind (wpAny_pure ?_)
  rw [if_neg (by rw [hs]; decide)]
  refine wpAny_bind (wpAny_dictEpoch h1 h2 ?_)
  refine wpAny_bind (wpAny_dictEntries h1 h2 ?_)
  obtain ⟨le, at_⟩ := pairs_at hp
  have lm : kvs.length = m.length := by
    have := congrArg List.length hm
    rwa [List.length_map, List.length_map] at this
  have ls : es.size = m.length := by rw [← Array.length_toList, le, lm]
  have ndm : m.Nodup := by
    rw [hm] at nd
    exact List.Pairwise.of_map Sum.inr (fun _ _ q z => q (by rw [z])) nd
  refine wpAny_bind (set_room ho (by omega) fun h' sb R => ?_)
  have hd0 : ∀ h' : Heap, Heap.SameBut a s.heap h' → h'.get? d = some o := fun h' sb => by rw [sb.2 d hne]; exact h1
  refine wpAny_bind (wpAny_dictEntries (hd0 h' sb) h2 ?_)
  refine wpAny_bind (for_range (fun i u => ∃ h' : Heap, u = { s with heap := h' } ∧ Heap.SameBut a s.heap h' ∧ SetSR P w h' a (m.take i)) ⟨h', rfl, sb, R⟩ ?_ ?_)
  · rintro i u hi ⟨h2', rfl, sb', R'⟩
    have hi' : i < m.length := by rw [← ls]; exact hi
    refine wpAny_bind (wpAny_dictEntries (hd0 h2' sb') h2 ?_)
    rw [Array.getElem?_eq_getElem hi]
    obtain ⟨kv, hkv, hk1⟩ := at_ i es[i] (by rw [Array.getElem?_toList, Array.getElem?_eq_getElem hi])
    have ek : kv.1 = Sum.inr m[i] := by
      have e1 : (kvs.map (·.1))[i]? = some kv.1 := by rw [List.getElem?_map, hkv]; rfl
      rw [hm, List.getElem?_map, List.getElem?_eq_getElem hi'] at e1
      exact (Option.some.inj e1).symm
    rw [ek] at hk1
    obtain ⟨tk, et⟩ := key_str hk1
    obtain ⟨k, hk2, hh⟩ := hk es[i] (Array.getElem_mem hi)
    have e3 : k = Sum.inr m[i] := (mixKind P w).inj _ _ _ hk2 hk1
    rw [e3] at hh
    have nin : m[i] ∉ m.take i := fun z => by
      obtain ⟨j, hj, e⟩ := List.mem_iff_getElem.mp z
      rw [List.length_take] at hj
      rw [List.getElem_take] at e
      have := (List.pairwise_iff_getElem.mp ndm) j i (by omega) hi' (by omega)
      exact this e
    show wpAny (model P w) A (do
      let _ ← holding [es[i].key] (setAddHashed a es[i].key es[i].hash)
      let __do_lift ← dictEpoch d
      if (__do_lift != ep) = true then do
        unsupported (toString "set.__init__" ++ toString ":changed-during-callback")
        pure (ForInStep.yield PUnit.unit)
      else pure (ForInStep.yield PUnit.unit)) _ _ _
    rw [et, hh]
    refine wpAny_bind (wpAny_holding (setS_add R' nin (by rw [List.length_take]; have : scanBound = 4096 := rfl; omega) fun h3 sb3 R3 => ?_))
    have sb4 : Heap.SameBut a s.heap h3 := ⟨sb3.1.trans sb'.1, fun b n => (sb3.2 b n).trans (sb'.2 b n)⟩
    refine wpAny_bind (wpAny_dictEpoch (hd0 h3 sb4) h2 ?_)
    rw [if_neg (by simp)]
    refine wpAny_pure ⟨rfl, h3, rfl, sb4, R3.perm ?_⟩
    rw [List.take_add_one, List.getElem?_eq_getElem hi']
    exact (List.perm_append_singleton _ _).symm
  · rintro u ⟨h3, rfl, sb3, R3⟩
    refine wpAny_pure (hQ h3 sb3 (R3.perm ?_))
    rw [ls, List.take_length]
end My

namespace My
open PySem L2
theorem call_set_dict {P : Program} {w : World} {A : Around} {E : Value → Shared → Prop} {s : Shared} {d : Addr} {m : List Str} {kvs : List (Key × Value)} {Q : Value → Shared → Prop} (hd : Heap.DictOf (mixKind P w) s.heap d kvs) (hm : kvs.map (·.1) = m.map Sum.inr) (hn : kvs.length ≤ 30) (hs : (d == sysModules) = false)
    (hQ : ∀ (h' : Heap), (∀ (b : Addr) (o : Obj), s.heap.get? b = some o → h'.get? b = some o) → SetSR P w h' s.heap.objs.size m → Q (.ref s.heap.objs.size) { s with heap := h' }) : wpAny (model P w) A (call (Value.type "set") [.ref d]) Q E s := by
  obtain ⟨o, es, ep, h1, hex, hrest⟩ := id hd
  have ltd : d < s.heap.objs.size := Heap.lt_size h1
  obtain ⟨c, tl, hmro⟩ := F.called_set.mro
  refine wpAny_call (codeAny_of_tree ?_)
  refine wpAny_pure ⟨Code.quiet_builtin _ (by decide +kernel), codeAny_builtin F.entry_type_call ?_⟩
  rw [Around.under_plain (weight_type_call_type "set" [Value.ref d] []) rfl]
  have hcan : decide (((Manifest.find? "set").bind fun x => List.findSome? (fun t => (Manifest.find? t).bind fun b => if b.noNew = true then some true else if (b.attrs.any fun x => x.fst == "__new__") = true then some false else none) x.mro).getD false = true) = false := by rw [F.called_set.canCreate]; rfl
  unfold Builtin.«type.__call__»
  refine wpAny_ite_false (show decide ((Value.type "set" == Value.type "type") = true) = false from rfl) ?_
  refine wpAny_ite_false hcan ?_
  refine wpAny_bind (wpAny_of_eq (F.typeCall_set_1 _) ?_)
  refine wpAny_bind (wpAny_of_eq hmro ?_)
  refine wpAny_ite_false rfl ?_
  refine wpAny_bind (wpAny_of_eq F.called_set.made ?_)
  refine wpAny_bind (wpAny_pure ?_)
  refine wpAny_bind (wpAny_holding (wpAny_call (codeAny_mono (code_set_led1 (E := fun _ _ => False) (Q₁ := fun obj s₁ => obj = .ref s.heap.objs.size ∧ s₁ = { s with heap := s.heap.push { cls := Value.type "set", data := Data.set #[] 0 (SetTable.fresh 0 0 !w.params.followText "set-order") } }) _ ⟨rfl, rfl⟩) ?_)))
  intro r s₁ hr
  cases r with
  | error e => exact hr.elim
  | ok fl =>
    cases fl with
    | next => exact hr.elim
    | brk => exact hr.elim
    | cont => exact hr.elim
    | ret v =>
      obtain ⟨rfl, rfl⟩ := hr
      have hnew := Heap.get?_push_size s.heap (o := { cls := Value.type "set", data := Data.set #[] 0 (SetTable.fresh 0 0 !w.params.followText "set-order") }) rfl
      have td := (⟨_, hnew, rfl⟩ : Shared.TypeIs { s with heap := s.heap.push { cls := Value.type "set", data := Data.set #[] 0 (SetTable.fresh 0 0 !w.params.followText "set-order") } } (Value.ref s.heap.objs.size) "set")
      refine wpAny_bind (wpAny_isInstance td F.called_set.sub ?_)
      refine wpAny_ite_false (show decide ((!true) = true) = false from rfl) ?_
      refine wpAny_bind (wpAny_holding (wpAny_callSpecial?_slot td F.called_set.init ?_))
      refine wpAny_call (codeAny_call_builtin F.called_set.init.plain F.entry_set_init (check_set_init_1 td ?_))
      unfold Builtin.«set.__init__»
      have R := setTR_fresh (P := P) (w := w) hnew
      refine wpAny_bind (wpAny_pure ?_)
      refine wpAny_bind ?_
      unfold typeNameOfCut
      refine wpAny_bind ?_
      unfold shownTypeOf
      refine wpAny_bind (wpAny_typeOf td ?_)
      refine wpAny_ite_false (show decide ((Value.type "set" == Value.type "builtin_function_or_method") = true) = false from rfl) ?_
      refine wpAny_pure ?_
      refine wpAny_pure ?_
      refine wpAny_bind (wpAny_pure ?_)
      refine wpAny_bind (wpAny_pure ?_)
      refine wpAny_bind (wpAny_bind (wpAny_setState_of hnew rfl (SetTR.fits (s := { s with heap := s.heap.push { cls := Value.type "set", data := Data.set #[] 0 (SetTable.fresh 0 0 !w.params.followText "set-order") } }) R) (wpAny_pure ?_)))
      refine wpAny_ite_false (show decide (((SetTable.fresh 0 0 !w.params.followText "set-order").fill != 0) = true) = false from rfl) ?_
      have hd' : Heap.DictOf (mixKind P w) (s.heap.push { cls := Value.type "set", data := Data.set #[] 0 (SetTable.fresh 0 0 !w.params.followText "set-order") }) d kvs := ⟨o, es, ep, Heap.get?_push_of_some _ h1, hex, hrest⟩
      refine wpAny_bind (upd_dict (s := { s with heap := s.heap.push { cls := Value.type "set", data := Data.set #[] 0 (SetTable.fresh 0 0 !w.params.followText "set-order") } }) hnew hd' hm hn hs (Nat.ne_of_lt ltd) fun h' sb R' => ?_)
      refine wpAny_pure ?_
      refine wpAny_pure ?_
      refine hQ h' (fun b u e => ?_) R'
      rw [sb.2 b (Nat.ne_of_lt (Heap.lt_size e))]
      exact Heap.get?_push_of_some _ e
end My

namespace My
open PySem L2
theorem sorted_setS {P : Program} {w : World} {A : Around} {E : Value → Shared → Prop} {s : Shared} {a : Addr} {L : List Str} {Q : Value → Shared → Prop} (R : SetSR P w s.heap a L) (hh : A.handled = none) (hn : L.length < 64)
    (hQ : ∀ (s' : Shared) (p : Nat) (out : Array Value) (c : Nat) (ys : List Str), (∀ (b : Addr) (o : Obj), s.heap.get? b = some o → s'.heap.get? b = some o) → s'.gens = s.gens → s'.os = s.os → s.heap.objs.size ≤ p → s'.heap.get? p = some (PyProof.Rows.seqObj "list" out c) →
      Vals (ys.map V.str) out.toList → ys.Perm L → PyProof.Rows.sortedS ys = true → Q (.ref p) s') : wpAny (model P w) A (call (Value.builtin "sorted") [.ref a]) Q E s := by
  obtain ⟨o, es, ep, t, ks, ho, hex, hd, hel, hv, hp, hb, hf, hr, hl⟩ := R
  refine Calls.call_function_entry PyProof.Rows.kind_sorted PyProof.Rows.plain_sorted PyProof.Rows.entry_sorted (PyProof.Rows.args_sorted1 (Value.ref a)) ?_
  refine wpAny_bind (wpAny_pure ?_)
  refine wpAny_bind (collect_set hh ⟨o, ho, hex.1, hd⟩ hf hb hr hl fun s1 vs k1 hz g1 o1 pm => ?_)
  obtain ⟨ks', pk, hv'⟩ := vals_perm pm hv
  have lv : vs.length = L.length := by
    have h1 := Paired.len hv'
    rw [List.length_map] at h1
    rw [← h1, pk.length_eq, hp.length_eq]
  have h64 : vs.length < 64 := by omega
  have hsl : vs.length ≤ sizeLine := sz (by omega)
  refine wpAny_bind (wpAny_newList ?_ hsl)
  have hoL := Heap.get?_push_size s1.heap (o := PyProof.Rows.seqObj "list" vs.toArray 0) rfl
  have hS := Vals.strs hv'
  refine wpAny_bind (wpAny_holding (wpAny_call_entry (rest := []) PyProof.Rows.slot_list_sort ⟨_, hoL, rfl⟩ PyProof.Rows.entry_list_sort (PyProof.Rows.list_sort_treeK PyProof.Rows.strKind_oneLt hoL (PyProof.Rows.StrsAre.keysOf hS) (fun v₁ v₂ rest e => PyProof.Rows.keyKind_strs (by rw [← e]; exact hS)) h64 fun st' hp' hs' => ?_) (PyProof.Rows.args_list_sort _)))
  obtain ⟨ys, g1', g2, g3⟩ := PyProof.Rows.sorted_out_str hS hp' hs'
  obtain ⟨c, hc⟩ := PyProof.Rows.sortedHeap_at (out := Array.map (fun x => x.snd) (PyProof.Rows.arrOf st')) hoL
  refine ⟨_, rfl, ?_⟩
  refine wpAny_pure ⟨_, rfl, ?_⟩
  refine hQ _ s1.heap.objs.size _ c ys (fun b u e => ?_) g1 o1 hz hc (vals_of_strs g1') (g2.trans (pk.trans hp)) g3
  have q := k1 b u e
  have hlt := Heap.lt_size q
  show (PyProof.Rows.sortedHeap _ _ _ _).get? b = some u
  rw [PyProof.Rows.sortedHeap_old (Nat.ne_of_lt hlt) (by rw [PyProof.Rows.size_push']; exact Nat.lt_succ_of_lt hlt)]
  exact Heap.get?_push_of_some _ q
/-- a set of just the texts L -/
def SetSO (P : Program) (w : World) (a : Addr) (L : List Str) : HO := .ext fun h => SetSR P w h a L
theorem setSO_new {P : Program} {w : World} {H : Hp} {h : Heap} {a : Addr} {L : List Str} (R : SetSR P w h a L) : ObjOk P w H h a (SetSO P w a L) := by
  refine ⟨R, ?_, ?_⟩
  · obtain ⟨o, es, ep, t, ks, ho, _⟩ := R
    exact ⟨o, ho⟩
  · rintro h1 h2 ⟨o, es, ep, t, ks, ho, r⟩ k
    exact ⟨o, es, ep, t, ks, k o ho, r⟩
def rSetD (P : Program) (w : World) : List V → Hp → VK → Prop := fun xs H Q => ∃ (d : Addr) (kvs : List (Key × V)) (ks : List Str), xs = [.ref d] ∧ H d = some (.dK kvs) ∧ kvs.map (·.1) = ks.map Sum.inr ∧ kvs.length ≤ 30 ∧ ∀ a, H a = none → Q (.ref a) (upd H a (SetSO P w a ks))
theorem kv_keys {κ : Type} : ∀ {kvs : List (κ × V)} {vs : List (κ × Value)}, KV kvs vs → vs.map (·.1) = kvs.map (·.1)
  | _, _, .nil => rfl
  | _, _, .cons h r => by
    rw [List.map_cons, List.map_cons, kv_keys r, h.1]
theorem cr_setD {X : Cx} : CallR X (.type "set") (rSetD X.prog X.w) := by
  intro pins s σ H xs us Q I r h
  obtain ⟨d, kvs, ks, rfl, hd, hk, hn, q⟩ := h
  obtain ⟨u, rfl, ru⟩ := vals1 r
  cases ru
  obtain ⟨hz, hs, vs, kv, dof⟩ := (show kvs.length ≤ sizeLine ∧ (d == sysModules) = false ∧ ∃ vs, KV kvs vs ∧ Heap.DictOf (mixKind X.prog X.w) s.heap d vs from I.hok d _ hd)
  have e1 := kv_keys kv
  have e2 : vs.length = kvs.length := by
    have := congrArg List.length e1
    rwa [List.length_map, List.length_map] at this
  refine call_set_dict dof (e1.trans hk) (by omega) hs fun h' k R => ?_
  have hnw := HOk.fresh I.hok (Nat.le_refl s.heap.objs.size)
  exact ⟨.ref s.heap.objs.size, _, Inv.laid I k (Nat.le_refl _) (setSO_new R), rfl, q _ hnw⟩
def rSortedSet' (P : Program) (w : World) : List V → Hp → VK → Prop := fun xs H Q => ∃ (a : Addr) (L : List Str), xs = [.ref a] ∧ H a = some (SetSO P w a L) ∧ L.length < 64 ∧ ∀ (ys : List Str) (p : Addr), ys.Perm L → PyProof.Rows.sortedS ys = true → H p = none → Q (.ref p) (upd H p (.lst (ys.map V.str)))
theorem cr_sortedSO {X : Cx} (hc : X.calm = true) : CallR X (.builtin "sorted") (rSortedSet' X.prog X.w) := by
  intro pins s σ H xs us Q I r h
  obtain ⟨a, L, rfl, ha, hn, q⟩ := h
  obtain ⟨u, rfl, ru⟩ := vals1 r
  cases ru
  have R : SetSR X.prog X.w s.heap a L := (I.hok a _ ha).1
  refine sorted_setS R (I.ok.hd hc) hn fun s' p out c ys k g o hp hg hv pm so => ?_
  have hnp := HOk.fresh I.hok hp
  have hlen : (ys.map V.str).length ≤ sizeLine := by
    rw [List.length_map, pm.length_eq]
    exact sz (by omega)
  have J : Inv X pins σ (upd H p (.lst (ys.map V.str))) { heap := s'.heap, gens := s'.gens, drawn := s'.drawn, toks := s'.toks, os := s.os } :=
    Inv.call (ch := []) I (Un.laid k hp hnp) (HOk.laid I.hok k hp ⟨hlen, out.toList, c, hv, hg⟩) (by rw [g]; exact I.bare) fun x z => by cases z
  have e : s' = { heap := s'.heap, gens := s'.gens, drawn := s'.drawn, toks := s'.toks, os := s.os } := by rw [← o]
  rw [e]
  exact ⟨.ref p, _, J, rfl, q ys p pm so hnp⟩
end My

namespace My
open PySem L2
/-! a Lot: an instance with a dict of numbers above 0 -/
structure LoA (C : Addr) (H : Hp) (a : Addr) (m : AL) : Prop where
  ex : ∃ d dx, H a = some (.ins C dx [("_many", .ref d)]) ∧ H d = some (.dK (enc m))
  nd : (keys m).Nodup
  ps : ∀ p ∈ m, 0 < p.2
  ln : m.length ≤ 30
theorem LoA.same {C : Addr} {H H' : Hp} {a : Addr} {m : AL} (h : LoA C H a m) (s : Same H H') : LoA C H' a m := by
  obtain ⟨⟨d, dx, h1, h2⟩, nd, ps, ln⟩ := h
  exact ⟨⟨d, dx, s _ _ h1, s _ _ h2⟩, nd, ps, ln⟩
theorem LoA.upd {C : Addr} {H : Hp} {a p : Addr} {m : AL} {o : HO} (h : LoA C H a m) (hp : H p = none) : LoA C (L2.upd H p o) a m := h.same fun _ _ e => upd_at e (ne_of_none e hp)
theorem pos_all {m : AL} (h : ∀ p ∈ m, 0 < p.2) : pos m = m := List.filter_eq_self.mpr fun p hp => decide_eq_true (h p hp)
theorem LoA.pos {C : Addr} {H : Hp} {a : Addr} {m : AL} (h : LoA C H a m) : My.pos m = m := pos_all h.ps
theorem get_pos {m : AL} (h : ∀ p ∈ m, 0 < p.2) (nd : (keys m).Nodup) {k : Str} (hk : k ∈ keys m) : 0 < get m k := by
  obtain ⟨p, hp, rfl⟩ := List.mem_map.mp hk
  have e : look m p.1 = some p.2 := (look_mem nd).mpr hp
  unfold get
  rw [e]
  exact h p hp
theorem get_none {m : AL} {k : Str} (hk : k ∉ keys m) : get m k = 0 := by
  unfold get
  rw [look_none.mpr hk]
  rfl
theorem get_nn {m : AL} (h : ∀ p ∈ m, 0 < p.2) (nd : (keys m).Nodup) (k : Str) : 0 ≤ get m k := by
  by_cases c : k ∈ keys m
  · exact Int.le_of_lt (get_pos h nd c)
  · rw [get_none c]
    exact Int.le_refl _
theorem enc_keys (m : AL) : (enc m).map (·.1) = (keys m).map Sum.inr := by
  unfold enc keys
  rw [List.map_map, List.map_map]
  rfl
section
variable {X : Cx} {CX : CXT} {k : Nat} {C : Addr} {m : Str} {ps : List Str} {sp : Sp} {E : XK}
theorem pe_methO {o e : Expr} {es : List Expr} {ta : TE} {t : TA} {pos apos : Pos} {pl : Sem Bool} (O : OCal X.prog X.w X.K X.mg X.base CX k C m ps sp) (c : Cls X.K C) (hr : Room k X.A) (hx : Passes CX X E) (ho : PE X o ta) (ha : PA X (e :: es) t)
    (h1 : starEach (e :: es) X.env = (false, eval e X.env) :: starEach es X.env := by rfl) (h2 : (backTo pos (starEach es X.env)).any (·.1) = false := by rfl)
    (h3 : eval (.Call (.Attribute o m apos) (e :: es) [] pos) X.env = (do
      let ov ← eval o X.env
      standAt apos.atName
      let __x ← holding [ov] (getMethod ov m pl)
      match __x with
      | (f, first) => callWith pos f first (backTo pos (starEach (e :: es) X.env)) (backToKw pos (keywordEach [] X.env))) := by with_unfolding_all rfl) :
    PE X (.Call (.Attribute o m apos) (e :: es) [] pos) (tMeth C m sp [] E ta t) := by
  obtain ⟨f, fd, F, hs, hf, hk, _, hb⟩ := O.ex
  exact pe_meth (pl := pl) ho c ⟨hs, hf, hk⟩ F hr hb .nil hx ha h1 h2 h3
theorem pe_methO0 {o : Expr} {ta : TE} {pos apos : Pos} {pl : Sem Bool} (O : OCal X.prog X.w X.K X.mg X.base CX k C m ps sp) (c : Cls X.K C) (hr : Room k X.A) (hx : Passes CX X E) (ho : PE X o ta)
    (h3 : eval (.Call (.Attribute o m apos) [] [] pos) X.env = (do
      let ov ← eval o X.env
      standAt apos.atName
      let __x ← holding [ov] (getMethod ov m pl)
      match __x with
      | (f, first) => callWith pos f first (backTo pos (starEach [] X.env)) (backToKw pos (keywordEach [] X.env))) := by with_unfolding_all rfl) :
    PE X (.Call (.Attribute o m apos) [] [] pos) (tMeth C m sp [] E ta tNil) := by
  obtain ⟨f, fd, F, hs, hf, hk, _, hb⟩ := O.ex
  exact pe_meth0 (pl := pl) ho c ⟨hs, hf, hk⟩ F hr hb .nil hx h3
theorem r_meth0 {σ : L2.St} {H : Hp} {Q : VK} {ta : TE} (h : ta σ H fun x H1 => ∃ a dx fs, x = .ref a ∧ H1 a = some (.ins C dx fs) ∧ fs.lookup m = none ∧ sp [x] H1 Q E) : tMeth C m sp [] E ta tNil σ H Q := h
/-- C(e): a new instance by __init__ -/
structure OMk (P : Program) (w : World) (K : PySem.W.Frag) (mg : Str → Option Value) (base : Heap) (CX : CXT) (k : Nat) (C : Addr) (x : Str) (ps : List Str) (sp : Sp) : Prop where
  ex : ∃ (f : Addr) (fd : FuncData), Mk K C f ∧ FnOk P w K mg base CX k f fd ps sp ∧ mg x = some (.ref C) ∧ Binds K fd ps []
def tMk (C : Addr) (sp : Sp) (E : XK) (t : TA) : TE := fun σ H Q => t σ H fun vs H1 => ∀ x dx, H1 x = none → H1 dx = none → dx ≠ x → sp (.ref x :: vs) (upd (upd H1 dx (.own x)) x (.ins C dx [])) (fun v H2 => v = .non ∧ Q (.ref x) H2) E
theorem pe_makeO {x : Str} {e : Expr} {es : List Expr} {t : TA} {p pos : Pos} (O : OMk X.prog X.w X.K X.mg X.base CX k C x ps sp) (hr : Room (k + 1) X.A) (hx : Passes CX X E) (ha : PA X (e :: es) t) (hg : Gl X x := by rfl)
    (hdb : (x == ("__debug__" : Str)) = false := by decide) (he : starEach (e :: es) X.env = (false, eval e X.env) :: starEach es X.env := by rfl) (hpl : (backTo pos (starEach es X.env)).any (·.1) = false := by rfl) : PE X (.Call (.Name x p) (e :: es) [] pos) (tMk C sp E t) := by
  obtain ⟨f, fd, M, F, hm, hb⟩ := O.ex
  have h := pe_make (p := p) (pos := pos) M F hr hg hm hb (dvs := []) .nil hx ha hdb he hpl
  refine ⟨fun pins s σ H Q I q => h.run pins s σ H Q I ?_⟩
  have e : (fun vs H1 => ∀ x dx, H1 x = none → H1 dx = none → dx ≠ x → sp (.ref x :: (vs ++ [])) (upd (upd H1 dx (.own x)) x (.ins C dx [])) (fun v H2 => v = .non ∧ Q (.ref x) H2) E) = fun vs H1 => ∀ x dx, H1 x = none → H1 dx = none → dx ≠ x → sp (.ref x :: vs) (upd (upd H1 dx (.own x)) x (.ins C dx [])) (fun v H2 => v = .non ∧ Q (.ref x) H2) E := by
    funext vs H1
    rw [List.append_nil]
  show t σ H _
  rw [e]
  exact q
end
theorem fldK {X : Cx} {e : Expr} {f : Str} {pos : Pos} {ta : TE} (K : PySem.W.Frag) (h : PE X e ta) (hb : attributeBase e f X.env (eval e X.env) = eval e X.env) (eK : X.K = K := by rfl) : PE X (.Attribute e f pos) (tFld K ta f) := by
  subst eK
  exact pe_fld h hb
theorem rising_sle : ∀ {r : List Str} {x : Str}, PyProof.Rows.risingS x r = true → (x :: r).Pairwise (fun a b => sle a b = true)
  | [], x, _ => List.pairwise_singleton _ _
  | y :: r, x, h => by
    unfold PyProof.Rows.risingS at h
    rw [Bool.and_eq_true, PyProof.Rows.ltCps_eq] at h
    have ih := rising_sle h.2
    have h1 : sle x y = true := h.1
    refine List.pairwise_cons.mpr ⟨fun b hb => ?_, ih⟩
    rcases List.mem_cons.mp hb with z | z
    · rw [z]
      exact h1
    · exact sle_trans h1 ((List.pairwise_cons.mp ih).1 b z)
theorem sorted_sle : ∀ {ys : List Str}, PyProof.Rows.sortedS ys = true → ys.Pairwise (fun a b => sle a b = true)
  | [], _ => List.Pairwise.nil
  | _ :: _, h => rising_sle h
theorem cn_of {m : AL} {ys : List Str} (h : ∀ p ∈ m, 0 < p.2) (nd : (keys m).Nodup) (hp : ys.Perm (keys m)) (hs : PyProof.Rows.sortedS ys = true) : Cn m (ys.map fun k => (k, get m k)) := by
  constructor
  · rw [pos_all h]
    refine (hp.map _).trans (List.Perm.of_eq ?_)
    unfold keys
    rw [List.map_map]
    refine (List.map_congr_left fun p hp => ?_).trans (List.map_id m)
    show (p.1, get m p.1) = p
    unfold get
    rw [(look_mem nd).mpr (show (p.1, p.2) ∈ m from hp)]
    rfl
  · rw [List.pairwise_map]
    refine List.Pairwise.imp (fun {a b} z => ?_) (List.Pairwise.and (sorted_sle hs) (hp.nodup_iff.mpr nd))
    show (if a = b then _ else sle a b) = true
    rw [if_neg z.2]
    exact z.1
theorem keys_map (m : AL) (f : Str → Int → Int) : keys (m.map fun p => (p.1, f p.1 p.2)) = keys m := by
  unfold keys
  rw [List.map_map]
  rfl
theorem look_mapf : ∀ (m : AL) (f : Str → Int → Int) (k : Str), look (m.map fun p => (p.1, f p.1 p.2)) k = (look m k).map (f k)
  | [], _, _ => rfl
  | p :: r, f, k => by
    rw [List.map_cons, look_cons, look_cons, look_mapf r f k]
    by_cases e : p.1 = k
    · rw [if_pos e, if_pos e, ← e]
      rfl
    · rw [if_neg e, if_neg e]
theorem tot_mapf {m : AL} (f : Str → Int → Int) (nd : (keys m).Nodup) (k : Str) : tot (m.map fun p => (p.1, f p.1 p.2)) k = if k ∈ keys m then f k (get m k) else 0 := by
  rw [tot_nodup k (by rw [keys_map]; exact nd)]
  unfold get
  rw [look_mapf]
  by_cases h : k ∈ keys m
  · rw [if_pos h]
    cases e : look m k with
    | none => exact absurd h (look_none.mp e)
    | some v => rfl
  · rw [if_neg h, look_none.mpr h]
    rfl
theorem Cn.mem {m qs : AL} (h : Cn m qs) (mp : ∀ p ∈ m, 0 < p.2) (p : Str × Int) : p ∈ qs ↔ p ∈ m := by
  have := h.1.mem_iff (a := p)
  rwa [pos_all mp] at this
theorem Cn.len {m qs : AL} (h : Cn m qs) (mp : ∀ p ∈ m, 0 < p.2) : qs.length = m.length := by
  have := h.1.length_eq
  rwa [pos_all mp] at this
theorem Cn.totf {m qs : AL} (h : Cn m qs) (mp : ∀ p ∈ m, 0 < p.2) (nd : (keys m).Nodup) (f : Str → Int → Int) (k : Str) : tot (qs.map fun p => (p.1, f p.1 p.2)) k = if k ∈ keys m then f k (get m k) else 0 := by
  have e := h.1
  rw [pos_all mp] at e
  rw [tot_perm (e.map _), tot_mapf f nd]
theorem r_mk {C : Addr} {sp : Sp} {E : XK} {σ : L2.St} {H : Hp} {Q : VK} {t : TA} (h : t σ H fun vs H1 => ∀ x dx, H1 x = none → H1 dx = none → dx ≠ x → sp (.ref x :: vs) (L2.upd (L2.upd H1 dx (.own x)) x (.ins C dx [])) (fun v H2 => v = .non ∧ Q (.ref x) H2) E) : tMk C sp E t σ H Q := h
/-- facts of the class Lot -/
structure TxL (K : PySem.W.Frag) (C : Addr) : Prop where
  oc : OCls K C
  nM : NoAttr K C "_many"
theorem r_many {σ : L2.St} {H : Hp} {Q : VK} {K : PySem.W.Frag} {C a d dx : Addr} {i : Nat} (L : TxL K C) (h : H a = some (.ins C dx [("_many", .ref d)])) (q : Q (.ref d) H) (e : σ[i]? = some (some (.ref a)) := by rfl) : tFld K (tVar i) "_many" σ H Q :=
  ⟨_, e, a, C, dx, _, _, rfl, h, L.oc.cl, L.nM, List.lookup_cons_self, q⟩
theorem look1 {m : Str} {v : V} (h : (m == ("_many" : Str)) = false := by decide +kernel) : List.lookup m [(("_many" : Str), v)] = none := by
  rw [List.lookup_cons, h]
  rfl
theorem r_isD {H : Hp} {d : Addr} {m : AL} {R : Prop} (h : H d = some (.dK (enc m))) (q : R) : IsD H d ∧ R := ⟨Or.inl ⟨enc m, Or.inl h⟩, q⟩
theorem r_setD {P : Program} {w : World} {H : Hp} {Q : VK} {d : Addr} {m : AL} (h : H d = some (.dK (enc m))) (hn : m.length ≤ 30) (q : ∀ a, H a = none → Q (.ref a) (L2.upd H a (SetSO P w a (keys m)))) : rSetD P w [.ref d] H Q := ⟨d, enc m, keys m, rfl, h, enc_keys m, by rw [enc_len]; exact hn, q⟩
theorem r_sortedSO {P : Program} {w : World} {H : Hp} {Q : VK} {a : Addr} {L : List Str} (h : H a = some (SetSO P w a L)) (hn : L.length < 64) (q : ∀ (ys : List Str) (p : Addr), ys.Perm L → PyProof.Rows.sortedS ys = true → H p = none → Q (.ref p) (L2.upd H p (.lst (ys.map V.str)))) : rSortedSet' P w [.ref a] H Q := ⟨a, L, rfl, h, hn, q⟩
end My

namespace My
open PySem L2
/-- a def with defaults, called with all its arguments -/
theorem binds_full {K : PySem.W.Frag} {x qual : Str} {params : Arguments} {body : List Stmt} {scope : PySem.Scope} {dvs : List V} {kws : List (Str × V)} {f : Addr} {fd : FuncData} {ps : List Str} (F : FunD K x qual params body scope dvs kws f fd) (hd : dvs ≠ [])
    (h : ∀ (T : Addr) (kV doc pm : Value) (an : Option Addr) (cdv ct : Value) (us : List Value), us.length = ps.length → ∃ k, bindArgs (PySem.W.fnOf x qual params body scope (.ref T) kV doc pm an cdv ct) { pos := us } = seqItems? (.ref T) >>= k ∧ ∀ its : List Value, its.length = dvs.length → k (some its.toArray) = pure (ps.zip us)) : Binds K fd ps [] := by
  intro s us hk hl
  obtain ⟨oc, od, dV, kV, doc, pm, an, cdv, ct, osl, rfl, h1, h2, h3, h4⟩ := F.ex
  rcases h3 with ⟨e, _⟩ | ⟨_, T, o, its, n, rfl, e1, e2, hv⟩
  · exact absurd e hd
  rw [List.append_nil] at hl ⊢
  obtain ⟨k, hb, hk2⟩ := h T kV doc pm an cdv ct us hl
  refine BindsTo.of_looks fun M => ?_
  rw [hb]
  refine looks_items hk e1 e2 ?_
  rw [hk2 its (Paired.len hv).symm]
  exact PySem.W.Looks.now
end My

/-! Lots that are changed in place: the Lot's own dict has an address -/
namespace My
open PySem L2
section
variable {C : Addr}
/-- a Lot whose dict stands at d -/
structure LoD (C : Addr) (H : Hp) (x d : Addr) (m : AL) : Prop where
  at_ : ∃ dx, H x = some (.ins C dx [("_many", .ref d)])
  di : H d = some (.dK (enc m))
  nd : (keys m).Nodup
  ps : ∀ p ∈ m, 0 < p.2
  ln : m.length ≤ 30
theorem LoD.lo {H : Hp} {x d : Addr} {m : AL} (h : LoD C H x d m) : LoA C H x m := by
  obtain ⟨⟨dx, h1⟩, h2, h3, h4, h5⟩ := h
  exact ⟨⟨d, dx, h1, h2⟩, h3, h4, h5⟩
theorem LoD.same {H H' : Hp} {x d : Addr} {m : AL} (h : LoD C H x d m) (s : Same H H') : LoD C H' x d m := by
  obtain ⟨⟨dx, h1⟩, h2, h3, h4, h5⟩ := h
  exact ⟨⟨dx, s _ _ h1⟩, s _ _ h2, h3, h4, h5⟩
theorem LoD.ne {H : Hp} {x d y e : Addr} {m m' : AL} (h : LoD C H x d m) (h' : LoD C H y e m') : x ≠ e := fun z => by
  obtain ⟨dx, h1⟩ := h.at_
  rw [z, h'.di] at h1
  cases h1
/-- a new Lot with a new dict -/
def LoN (C : Addr) (H H' : Hp) (x : Addr) (m : AL) : Prop := ∃ d, H d = none ∧ LoD C H' x d m
theorem LoN.lo {H H' : Hp} {x : Addr} {m : AL} (h : LoN C H H' x m) : LoA C H' x m := by
  obtain ⟨d, _, h⟩ := h
  exact h.lo
theorem LoN.mono {H0 H H' : Hp} {x : Addr} {m : AL} (h : LoN C H H' x m) (s : Same H0 H) : LoN C H0 H' x m := by
  obtain ⟨d, h1, h⟩ := h
  exact ⟨d, Same.free s h1, h⟩
theorem LoN.same {H H' H'' : Hp} {x : Addr} {m : AL} (h : LoN C H H' x m) (s : Same H' H'') : LoN C H H'' x m := by
  obtain ⟨d, h1, h⟩ := h
  exact ⟨d, h1, h.same s⟩
/-- all but what stands at x and d is as it was -/
def Kx (x d : Addr) (H H' : Hp) : Prop := ∀ c o, H c = some o → c ≠ x → c ≠ d → H' c = some o
theorem Kx.of {x d : Addr} {H H' : Hp} (s : Same H H') : Kx x d H H' := fun c o e _ _ => s c o e
theorem Kx.kp {x d : Addr} {H H' : Hp} (s : Kp x H H') : Kx x d H H' := fun c o e n _ => s c o e n
end
end My

namespace My
open PySem L2
theorem r_ixO {C : Addr} {sp : Sp} {E : XK} {ta tb : TE} {σ : L2.St} {H : Hp} {Q : VK} (h : ta σ H fun x H1 => tb σ H1 fun y H2 => ∃ a dx fs, x = .ref a ∧ H2 a = some (.ins C dx fs) ∧ sp [x, y] H2 Q E) : tIxO C sp E ta tb σ H Q := h
end My

namespace My
open PySem L2
theorem passE0 {X : Cx} : PassS CX0 X (fun _ => E0) := fun _ _ _ _ _ _ _ h => h.elim
theorem r_opS {r : L2.St → R2} {ta tb : TE} {σ : L2.St} {H : Hp} {Q : VK} (h : ta σ H fun x H1 => tb σ H1 fun y H2 => r σ x y H2 Q) : tOpS r ta tb σ H Q := h
theorem r_catA {K : PySem.W.Frag} {H : Hp} {Q : VK} {a b : Addr} {xs ys : List V} (h1 : SqT K H a xs) (h2 : SqT K H b ys) (hl : xs.length + ys.length ≤ sizeLine) (q : ∀ c H', SqT K H' c (xs ++ ys) → Same H H' → Q (.ref c) H') : rCatA K (.ref a) (.ref b) H Q := by
  refine ⟨a, b, xs, ys, rfl, rfl, h1, h2, hl, fun e => ?_, fun _ e => ?_, fun _ _ p hp => ?_⟩
  · refine q b H ?_ fun _ _ z => z
    rw [e]
    exact h2
  · refine q a H ?_ fun _ _ z => z
    rw [e, List.append_nil]
    exact h1
  · exact q p _ (SqT.of upd_same) fun c o z => upd_at z (ne_of_none z hp)
end My

namespace My
open PySem L2
theorem hu64 {k : Nat} {A : Around} (h : Room k A) : A.units + 64 < cLine := by
  have := h.un
  omega
def pd1 (p : Str × Int) : PyData := .tuple [.str p.1, .int p.2]
def pd (qs : AL) : PyData := .tuple (qs.map pd1)
theorem dp_all {K : PySem.W.Frag} {H : Hp} : ∀ {xs : List V} {qs : AL}, Paired (PrA H) xs qs → DpAll K H xs (qs.map pd1)
  | _, _, .nil => .nil
  | _, _, .cons h r => by
    obtain ⟨t, e, ht⟩ := h
    subst e
    exact .cons (.tup (SqT.of ht) (.cons (.str _) (.cons (.int _) .nil))) (dp_all r)
theorem dp_pairs {K : PySem.W.Frag} {H : Hp} {a : Addr} {xs : List V} {qs : AL} (h : H a = some (.tup xs)) (hp : Paired (PrA H) xs qs) : Dp K H (.ref a) (pd qs) := .tup (SqT.of h) (dp_all hp)
theorem strOk_kind {z : Str} (h : KindS z) : PyData.strOk z = true := by
  show z.cps.all (fun c => decide (c < 0x110000)) = true
  rw [← Array.all_toList, List.all_eq_true]
  intro c hc
  have := h.2.2 c hc
  exact decide_eq_true (by omega)
theorem can_pd {qs : AL} (h : ∀ p ∈ qs, KindS p.1) : (pd qs).canLay0 = true := by
  unfold pd
  unfold PyData.canLay0
  induction qs with
  | nil => rfl
  | cons p r ih =>
    rw [List.map_cons]
    show (PyData.canLay0 (pd1 p) && PyData.canLayAll0 (List.map pd1 r)) = true
    rw [ih fun q hq => h q (List.mem_cons_of_mem _ hq), Bool.and_true]
    show (PyData.strOk p.1 && (true && true)) = true
    rw [strOk_kind (h p List.mem_cons_self)]
    rfl
theorem depth_pd (qs : AL) : PyData.depthAll (qs.map pd1) ≤ 1 := by
  induction qs with
  | nil => exact Nat.zero_le _
  | cons p r ih =>
    rw [List.map_cons]
    show max (PyData.depth (pd1 p)) (PyData.depthAll (List.map pd1 r)) ≤ 1
    exact Nat.max_le.mpr ⟨by show max 0 (max 0 0) + 1 ≤ 1; decide, ih⟩
end My

/-! == of two dicts from texts to numbers -/
namespace My
open PySem L2
def hitsB (m2 : AL) : AL → Bool
  | [] => true
  | p :: r => match look m2 p.1 with
    | none => false
    | some v => decide (p.2 = v) && hitsB m2 r
def dEq (m m2 : AL) : Bool := (m.length == m2.length) && hitsB m2 m
theorem hitsB_iff (m2 : AL) : ∀ m : AL, hitsB m2 m = true ↔ ∀ p ∈ m, look m2 p.1 = some p.2
  | [] => ⟨fun _ p h => (by cases h), fun _ => rfl⟩
  | p :: r => by
    unfold hitsB
    cases e : look m2 p.1 with
    | none =>
      refine ⟨fun h => (by cases h), fun h => ?_⟩
      rw [h p List.mem_cons_self] at e
      cases e
    | some v =>
      show (decide (p.2 = v) && hitsB m2 r) = true ↔ _
      rw [Bool.and_eq_true, hitsB_iff m2 r, decide_eq_true_eq]
      refine ⟨fun ⟨h1, h2⟩ q hq => ?_, fun h => ⟨?_, fun q hq => h q (List.mem_cons_of_mem _ hq)⟩⟩
      · rcases List.mem_cons.mp hq with z | z
        · rw [z, e, h1]
        · exact h2 q z
      · have := h p List.mem_cons_self
        rw [e] at this
        exact (Option.some.inj this).symm
theorem hits_enc {A : Around} {s : Shared} {m2 : AL} {vb : List (Key × Value)} (rb : KV (enc m2) vb) : ∀ {m : AL} {va : List (Key × Value)}, KV (enc m) va → PySem.W.KeqHits A s vb va (hitsB m2 m)
  | [], _, .nil => .nil
  | p :: r, _, .cons h t => by
    rename_i q qs
    obtain ⟨h1, h2⟩ := h
    obtain ⟨k, v⟩ := q
    have h1' : Sum.inr p.1 = k := h1
    subst h1'
    obtain ⟨tk, rfl⟩ := (show ∃ tk, v = Value.int p.2 tk from h2)
    have rr : RelO (valV (enc m2) (Sum.inr p.1)) (valueAt vb (Sum.inr p.1)) := rb.val _
    rw [enc_look] at rr
    unfold hitsB
    cases e : look m2 p.1 with
    | none =>
      rw [e] at rr
      have hn : valueAt vb (Sum.inr p.1) = none := by
        cases q : valueAt vb (Sum.inr p.1) with
        | none => rfl
        | some z => rw [q] at rr; exact rr.elim
      exact .miss hn
    | some z =>
      rw [e] at rr
      obtain ⟨y, hy, ry⟩ := RelO.some_of rr
      obtain ⟨t2, rfl⟩ := (show ∃ t, y = Value.int z t from ry)
      have e1 : SeqAt.EqAt A s (.int p.2 tk) (.int z t2) (decide (p.2 = z)) := by
        have := SeqAt.EqAt.int_int (A := A) (s := s) p.2 tk z t2
        rwa [show (p.2 == z) = decide (p.2 = z) from rfl] at this
      exact .hit hy e1 (hits_enc rb t)
theorem op_eqDE {X : Cx} (hu : X.A.units < cLine) : OpR X (compareOp .Eq) (fun x y H Q => ∃ a b m m2, x = .ref a ∧ y = .ref b ∧ H a = some (.dK (enc m)) ∧ H b = some (.dK (enc m2)) ∧ Q (.bl (dEq m m2)) H) := by
  intro pins s σ H x y v u Q I rx ry h
  obtain ⟨a, b, m, m2, rfl, rfl, ea, eb, q⟩ := h
  obtain rfl : v = Value.ref a := rx
  obtain rfl : u = Value.ref b := ry
  obtain ⟨_, ya, va, ra, da⟩ := (show ObjOk X.prog X.w H s.heap a (.dK (enc m)) from I.hok a _ ea)
  obtain ⟨_, yb, vb, rb, db⟩ := (show ObjOk X.prog X.w H s.heap b (.dK (enc m2)) from I.hok b _ eb)
  refine PySem.W.keq_eq (knd := mixKind X.prog X.w) (r := hitsB m2 m) ya yb da db hu (fun _ => hits_enc rb ra) ?_
  have e : (va.length == vb.length && hitsB m2 m) = dEq m m2 := by
    have h1 : va.length = m.length := by rw [← ra.length]; exact enc_len m
    have h2 : vb.length = m2.length := by rw [← rb.length]; exact enc_len m2
    rw [h1, h2]
    rfl
  exact ⟨.bl _, H, I, congrArg Value.bool e, q⟩
theorem look_keys {m : AL} {k : Str} {v : Int} (h : look m k = some v) : k ∈ keys m := by
  unfold look at h
  obtain ⟨p, hp, _⟩ := Option.map_eq_some_iff.mp h
  have h1 := List.find?_some hp
  have h2 := List.mem_of_find?_eq_some hp
  exact List.mem_map.mpr ⟨p, h2, of_decide_eq_true h1⟩
theorem mem_get {m : AL} (nd : (keys m).Nodup) (ps : ∀ p ∈ m, 0 < p.2) (k : Str) : k ∈ keys m ↔ get m k ≠ 0 := by
  constructor
  · intro h
    obtain ⟨p, hp, rfl⟩ := List.mem_map.mp h
    have : look m p.1 = some p.2 := (look_mem nd).mpr hp
    unfold get
    rw [this]
    have := ps p hp
    show p.2 ≠ 0
    omega
  · intro h
    cases e : look m k with
    | none => exact absurd (by unfold get; rw [e]; rfl) h
    | some v => exact look_keys e
theorem dEq_iff {m m2 : AL} (n1 : (keys m).Nodup) (n2 : (keys m2).Nodup) (p1 : ∀ p ∈ m, 0 < p.2) (p2 : ∀ p ∈ m2, 0 < p.2) : dEq m m2 = true ↔ ∀ k, get m k = get m2 k := by
  unfold dEq
  rw [Bool.and_eq_true, hitsB_iff, beq_iff_eq]
  have l1 : (keys m).length = m.length := List.length_map _
  have l2 : (keys m2).length = m2.length := List.length_map _
  constructor
  · rintro ⟨hl, h⟩ k
    have sub : ∀ k ∈ keys m, k ∈ keys m2 := fun k hk => by
      obtain ⟨p, hp, rfl⟩ := List.mem_map.mp hk
      exact look_keys (h p hp)
    by_cases hk : k ∈ keys m
    · obtain ⟨p, hp, rfl⟩ := List.mem_map.mp hk
      have e1 : look m p.1 = some p.2 := (look_mem n1).mpr hp
      unfold get
      rw [e1, h p hp]
    · have hk2 : k ∉ keys m2 := fun z => by
        have := List.Nodup.length_le_of_subset (List.nodup_cons.mpr ⟨hk, n1⟩) (l₂ := keys m2) fun c hc => by
          rcases List.mem_cons.mp hc with e | e
          · rw [e]; exact z
          · exact sub c e
        rw [List.length_cons] at this
        omega
      have e1 : get m k = 0 := Decidable.byContradiction fun z => hk ((mem_get n1 p1 k).mpr z)
      have e2 : get m2 k = 0 := Decidable.byContradiction fun z => hk2 ((mem_get n2 p2 k).mpr z)
      rw [e1, e2]
  · intro h
    have pm : (keys m).Perm (keys m2) := (List.perm_ext_iff_of_nodup n1 n2).mpr fun k => by rw [mem_get n1 p1, mem_get n2 p2, h k]
    refine ⟨by rw [← l1, ← l2]; exact pm.length_eq, fun p hp => ?_⟩
    have e1 : look m p.1 = some p.2 := (look_mem n1).mpr hp
    have e2 : get m2 p.1 = p.2 := by
      rw [← h p.1]
      unfold get
      rw [e1]
      rfl
    unfold get at e2
    cases e : look m2 p.1 with
    | none =>
      rw [e] at e2
      have := p1 p hp
      have e3 : (0 : Int) = p.2 := e2
      omega
    | some v =>
      rw [e] at e2
      exact congrArg some e2
end My

/-! own classes: in, abs, ==, n * x -/
namespace PySem.W
open PySem PySem.Spec PySem.Calls PyProof.Rows
section
variable {prog : Program} {w : World} {A : Around} {E : Value → Shared → Prop} {s : Shared} {h₀ : Heap} {L : Addr} {m : Str → Option Value} {K : Frag} {x C f : Addr} {ox : Obj} {od : Option Obj}
end
end PySem.W
namespace My
open PySem L2 PySem.W
section
variable {X : Cx} {CX : CXT} {k : Nat} {f C : Addr} {fd : FuncData} {ps : List Str} {sp : Sp} {E : XK}
/-- x in y -/
theorem op_inO (O : OCal X.prog X.w X.K X.mg X.base CX k C "__contains__" ps sp) (hr : Room k X.A) (hx : Passes CX X E) :
    OpR X (compareOp .In) (fun x y H Q => ∃ a dx fs, y = .ref a ∧ H a = some (.ins C dx fs) ∧ sp [y, x] H (fun v H' => ∃ b, v = .bl b ∧ Q (.bl b) H') E) := by
  intro pins s σ H x y v u Q I rx ry h
  obtain ⟨a, dx, fs, rfl, e1, h⟩ := h
  cases ry
  obtain ⟨f, fd, F, hs, hf, hk, hfn, hb⟩ := O.ex
  obtain ⟨mA, J, _⟩ := ins_get I.hok e1
  obtain ⟨od, J, _⟩ := J.look
  obtain ⟨m, hF⟩ := I.fr
  refine in_K hF I.ok.mod.kin J hs hf ?_
  refine wpAny_mono (run_at F hr rfl hb (fun e s' c => hx pins σ H s e s' I c) I (vs := [.ref a, x]) (.cons rfl (.cons rx .nil)) h) (fun u s' q => ?_) fun _ _ z => z
  obtain ⟨z, H', I', rz, b, rfl, q⟩ := q
  cases rz
  exact wpAny_truthy_bool ⟨.bl b, H', I', rfl, q⟩
/-- x == y, both of the class -/
theorem op_eqO (O : OCal X.prog X.w X.K X.mg X.base CX k C "__eq__" ps sp) (hr : Room k X.A) (hx : Passes CX X E) :
    OpR X (compareOp .Eq) (fun x y H Q => ∃ a b dx dy fs gs, x = .ref a ∧ y = .ref b ∧ H a = some (.ins C dx fs) ∧ H b = some (.ins C dy gs) ∧ sp [x, y] H Q E) := by
  intro pins s σ H x y v u Q I rx ry h
  obtain ⟨a, b, dx, dy, fs, gs, rfl, rfl, e1, e2, h⟩ := h
  cases rx
  cases ry
  obtain ⟨f, fd, F, hs, hf, hk, hfn, hb⟩ := O.ex
  obtain ⟨mA, J, _⟩ := ins_get I.hok e1
  obtain ⟨mB, J', _⟩ := ins_get I.hok e2
  obtain ⟨od, J, _⟩ := J.look
  obtain ⟨od', J', _⟩ := J'.look
  obtain ⟨m, hF⟩ := I.fr
  show wpAny (model X.prog X.w) X.A (richCompare .Eq (.ref a) (.ref b)) (EP X pins σ Q) X.xe s
  refine PySem.W.cmp_K (op := .Eq) (tb := .ref C) hr.units0 hF I.ok.mod.kin J J'.type (by simp [PySem.W.notFirst]) hs hf ?_
  exact wpAny_mono (run_at F hr rfl hb (fun e s' c => hx pins σ H s e s' I c) I (vs := [.ref a, .ref b]) (.cons rfl (.cons rfl .nil)) h) (fun u s' q => cmpBack q fun z => z) fun _ _ z => z
/-- o.m(k = e) -/
def tMethK (C : Addr) (m : Str) (sp : Sp) (gV : List V → List V → List V) (E : XK) (ta : TE) (tk : TA) : TE := fun σ H Q => ta σ H fun x H1 => ∃ a dx fs, x = .ref a ∧ H1 a = some (.ins C dx fs) ∧ fs.lookup m = none ∧ tk σ H1 fun zs H2 => sp (gV [.ref a] zs) H2 Q E
theorem pe_methK0 {m : Str} {o : Expr} {ta : TE} {tk : TA} {pos apos : Pos} {kws : List Keyword} {ks : List Str} {g : List Value → List Value → List Value} {gV : List V → List V → List V} {pl : Sem Bool} (he : PE X o ta) (c : Cls X.K C) (hm : Meth X.K C m f) (F : FnOk X.prog X.w X.K X.mg X.base CX k f fd ps sp) (hr : Room k X.A) (hb : KBinds X.K fd ps ks g gV) (hx : Passes CX X E) (hkw : PK X kws tk)
    (hall : (backToKw pos (keywordEach kws X.env)).all (·.1.isSome) = true := by rfl) (hks : (backToKw pos (keywordEach kws X.env)).filterMap (·.1) = ks := by rfl)
    (hpl : ((backTo pos (starEach [] X.env)).any (·.1) || (backToKw pos (keywordEach kws X.env)).any (·.1.isNone)) = false := by rfl)
    (ht : eval (.Call (.Attribute o m apos) [] kws pos) X.env = (do
      let ov ← eval o X.env
      standAt apos.atName
      let (f, first) ← holding [ov] (getMethod ov m pl)
      callWith pos f first (backTo pos (starEach [] X.env)) (backToKw pos (keywordEach kws X.env))) := by with_unfolding_all rfl) :
    PE X (.Call (.Attribute o m apos) [] kws pos) (tMethK C m sp gV E ta tk) := by
  refine ⟨fun pins s σ H Q I h => ?_⟩
  refine PySem.W.methodCall_KW (pl := pl) (thn (he.run pins s σ H _ I h) fun u s1 ⟨x, H1, I1, rx, a, dx, fs, ex, ea, l, q⟩ => ?_) ht
  subst ex
  obtain rfl : u = Value.ref a := rx
  refine getmeth_ok I1 ea c hm l ?_
  refine PySem.W.callWith_KW0 (first := [.ref a]) (h₀ := X.base) I.ok.mod.kin hm.kp hall ?_ hpl
  refine thn (hkw.run pos pins s1 σ H1 _ I1 q) fun ws s2 ⟨zs, H2, I2, rz, q2⟩ => ⟨I2.kIn, ?_⟩
  rw [hks]
  exact run_fnk (us := [.ref a]) (vs := [.ref a]) F hr hb hx I2 (.cons rfl .nil) rz q2
end
end My

namespace My
open PySem L2
end My

namespace My
open PySem L2
theorem unsuite2 {X : Cx} {pins : List (Addr × Obj)} {σ : L2.St} {H : Hp} {s : Shared} {a : Addr} {q : Addr × Obj} {pn' : List (Addr × Obj)} (I : Inv (X.suite a (q :: (X.pn ++ pins))) pn' σ H s) (ok : X.Ok) : Inv X (q :: pins) σ H s :=
  ⟨ok, I.os, I.bare, I.base, I.loc, I.cell, I.free, I.freeC, fun p hp => I.pin p (by
    rcases List.mem_append.mp hp with z | z
    · exact List.mem_append_left _ (List.mem_cons_of_mem _ (List.mem_append_left _ z))
    · rcases List.mem_cons.mp z with z | z
      · rw [z]
        exact List.mem_append_left _ List.mem_cons_self
      · exact List.mem_append_left _ (List.mem_cons_of_mem _ (List.mem_append_right _ z))), I.hok, I.len⟩
end My

/-! own errors with fields, made, raised, caught and kept as values -/
namespace My
open PySem L2
/-- an error of the class cls with the dict d -/
def ExD (cls : Value) (d : Option Addr) (a : Addr) : HO := .ext fun h => ∃ (oe : Obj) (vs : Array Value), h.get? a = some oe ∧ Zc cls d oe ∧ oe.data = Data.fields vs
theorem exD_ok {P : Program} {w : World} {H : Hp} {h : Heap} {a : Addr} {cls : Value} {d : Option Addr} {oe : Obj} {vs : Array Value} (h1 : h.get? a = some oe) (h2 : Zc cls d oe) (h3 : oe.data = Data.fields vs) : ObjOk P w H h a (ExD cls d a) :=
  ⟨⟨oe, vs, h1, h2, h3⟩, ⟨oe, h1⟩, fun _ _ ⟨o, v, e1, e2, e3⟩ k => ⟨o, v, k o e1, e2, e3⟩⟩
theorem exD_at {P : Program} {w : World} {H : Hp} {h : Heap} {a : Addr} {cls : Value} {d : Option Addr} (hok : HOk P w H h) (e : H a = some (ExD cls d a)) : ∃ (oe : Obj) (vs : Array Value), h.get? a = some oe ∧ Zc cls d oe ∧ oe.data = Data.fields vs := by
  have x : ObjOk P w H h a (.ext fun h => ∃ (oe : Obj) (vs : Array Value), h.get? a = some oe ∧ Zc cls d oe ∧ oe.data = Data.fields vs) := hok a _ e
  exact x.1
/-- at a an error of the class C with the fields fs -/
def Er (H : Hp) (a C : Addr) (fs : List (Str × V)) : Prop := ∃ d, H a = some (ExD (.ref C) d a) ∧ ((d = none ∧ fs = []) ∨ ∃ dd, d = some dd ∧ H dd = some (.xd fs))
theorem Er.same {H H' : Hp} {a C : Addr} {fs : List (Str × V)} (h : Er H a C fs) (s : ∀ c o, H c = some o → H' c = some o) : Er H' a C fs := by
  obtain ⟨d, h1, h2⟩ := h
  refine ⟨d, s _ _ h1, ?_⟩
  rcases h2 with z | ⟨dd, z1, z2⟩
  · exact .inl z
  · exact .inr ⟨dd, z1, s _ _ z2⟩
/-- the object with its dict, in the heap -/
theorem Er.inst {P : Program} {w : World} {H : Hp} {h : Heap} {a C : Addr} {fs : List (Str × V)} (hok : HOk P w H h) (e : Er H a C fs) : ∃ (oe : Obj) (od : Option Obj), PySem.W.InstAt h a oe C od ∧ (fs ≠ [] → ∃ (mA : Str → Option Value) (o : Obj), od = some o ∧ (∀ f, RelO (fs.lookup f) (mA f)) ∧ ∀ f, PySem.W.lookIn f o = some (mA f)) := by
  obtain ⟨d, h1, h2⟩ := e
  obtain ⟨oe, vs, g1, g2, g3⟩ := exD_at hok h1
  rcases h2 with ⟨rfl, rfl⟩ | ⟨dd, rfl, h2⟩
  · exact ⟨oe, none, ⟨g1, g2.1, by unfold PySem.W.notCls; rw [g3], by rw [g2.2]; trivial⟩, fun z => absurd rfl z⟩
  · have hx : ObjOk P w H h dd (.xd fs) := hok dd _ h2
    obtain ⟨mA, hns, hr⟩ := hx
    obtain ⟨od, ho, hl⟩ := lookIn_ns hns
    exact ⟨oe, some od, ⟨g1, g2.1, by unfold PySem.W.notCls; rw [g3], by rw [g2.2]; exact ho⟩, fun _ => ⟨mA, od, rfl, hr, hl⟩⟩
/-! ### e.f -/
def tXd (K : PySem.W.Frag) (f : Str) (te : TE) : TE := fun σ H Q => te σ H fun x H1 => ∃ (a C : Addr) (fs : List (Str × V)) (v : V), x = .ref a ∧ Er H1 a C fs ∧ XfC K C ∧ PySem.W.findIn K (.ref C) f = some none ∧ fs.lookup f = some v ∧ Q v H1
theorem pe_xd {X : Cx} {e : Expr} {te : TE} {pos : Pos} {n : Str} (K : PySem.W.Frag) (he : PE X e te) (hb : attributeBase e n X.env (eval e X.env) = eval e X.env := by rfl) (eK : X.K = K := by rfl) : PE X (.Attribute e n pos) (tXd K n te) := by
  subst eK
  refine ⟨fun pins s σ H Q I h => ?_⟩
  refine attr_of hb (thn (he.run pins s σ H _ I h) fun u s1 hh => ?_)
  obtain ⟨x, H1, I1, rx, a, C, fs, v, ex, ea, T, hno, l, q⟩ := hh
  subst ex
  obtain rfl : u = Value.ref a := rx
  obtain ⟨oe, od, J, hd⟩ := ea.inst I1.hok
  have hne : fs ≠ [] := fun z => by rw [z] at l; cases l
  obtain ⟨mA, o, rfl, hr, hl⟩ := hd hne
  obtain ⟨u, hu, ru⟩ := RelO.some_of (v := v) (o := mA n) (by rw [← l]; exact hr n)
  exact HandSPX.exc_get I1.kIn J T.ga T.gg T.exC (PySem.W.findObj_own T.hdC hno rfl (by rw [hl, hu])) (handed_of ru) ⟨v, H1, I1.tok _, ru, q⟩
end My
namespace PySem.W
open PySem PySem.Spec PySem.Calls PyProof.Rows
section
variable {prog : Program} {w : World} {A : Around} {E : Value → Shared → Prop} {s : Shared} {K : Frag} {x D : Addr} {ox : Obj} {od : Option Obj}
end
end PySem.W
namespace My
open PySem L2
/-! ### isinstance -/
/-! ### a value of an error: C(..) -/
end My
namespace PySem
namespace HandSPX
open Builtin Builtin.ObjectAttr
section
variable {M : Model} {A : Around} {E : Value → Shared → Prop} {h : Heap} {g : Array GenState} {d : Drawn} {t : Nat} {os : OsState}
variable {nm q : Str} {C N : Addr} {bs bm bmB : List Value} {hdct : Bool} {sn : List Str} {sub : List Value} {ab : Bool} {col : Option Bool} {dd : Option Addr} {k0 k1 k2 k3 k5 : Option Value} {B newId initId : String} {kw : List (Str × Value)}
end
section
variable {prog : Program} {w : World} {A : Around} {E : Value → Shared → Prop} {R : Result → Shared → Prop} {h : Heap} {g : Array GenState} {d : Drawn} {t : Nat} {os : OsState}
variable {nm q : Str} {C N : Addr} {bs bm bmB : List Value} {hdct : Bool} {sn : List Str} {sub : List Value} {ab : Bool} {col : Option Bool} {dd : Option Addr} {k0 k1 k2 k3 k5 : Option Value} {B newId initId : String} {kw : List (Str × Value)}
end
end HandSPX
end PySem
namespace My
open PySem L2
section
variable {X : Cx} {pins : List (Addr × Obj)} {σ : L2.St} {H : Hp} {s : Shared} {a C d : Addr} {fs : List (Str × V)}
end
def spI1 (C : Addr) (f : Str) : Sp := fun vs H Q _ => ∃ (a : Addr) (y : V), vs = [.ref a, y] ∧ H a = some (exo a C none) ∧ ∀ d, H d = none → d ≠ a → Q .non (upd (upd H d (exd d [(f, y)])) a (exo a C (some d)))
def spI2 (C : Addr) (f g : Str) : Sp := fun vs H Q _ => ∃ (a : Addr) (y z : V), vs = [.ref a, y, z] ∧ H a = some (exo a C none) ∧ ∀ d, H d = none → d ≠ a → Q .non (upd (upd (upd H d (exd d [(f, y)])) a (exo a C (some d))) d (exd d [(g, z), (f, y)]))
section
variable {X : Cx} {CX : CXT} {k n : Nat} {fI C : Addr} {fd : FuncData} {ps ks : List Str} {sp : Sp} {x : Str} {p pos : Pos} {e : Expr} {es : List Expr} {kws : List Keyword} {t tk : TA} {g : List Value → List Value → List Value} {gV : List V → List V → List V}
end
/-! ### the fields as a caller sees them -/
/-- one field -/
structure E1 (P : Program) (w : World) (K : PySem.W.Frag) (mg : Str → Option Value) (base : Heap) (C : Addr) (x f : Str) : Prop where
  T : OexC K C
  gC : mg x = some (.ref C)
  ex : ∃ (fI : Addr) (fd : FuncData), PySem.W.findIn K (.ref C) "__init__" = some (some (.ref fI)) ∧ PySem.W.typeIn K (.ref fI) = some (.type "function") ∧ FnOk P w K mg base CX0 1 fI fd ["self", f] (spI1 C f) ∧
    KBn K fd ["self", f] 2 [] (fun us _ => us) (fun vs _ => vs) ∧ KBn K fd ["self", f] 1 [f] (fun us ws => us ++ ws) (fun vs zs => vs ++ zs) ∧ Binds K fd ["self", f] []
structure E2 (P : Program) (w : World) (K : PySem.W.Frag) (mg : Str → Option Value) (base : Heap) (C : Addr) (x f g : Str) : Prop where
  T : OexC K C
  gC : mg x = some (.ref C)
  ex : ∃ (fI : Addr) (fd : FuncData), PySem.W.findIn K (.ref C) "__init__" = some (some (.ref fI)) ∧ PySem.W.typeIn K (.ref fI) = some (.type "function") ∧ FnOk P w K mg base CX0 1 fI fd ["self", f, g] (spI2 C f g) ∧
    KBn K fd ["self", f, g] 3 [] (fun us _ => us) (fun vs _ => vs) ∧ KBn K fd ["self", f, g] 1 [g, f] (fun us ws => us ++ ws.reverse) (fun vs zs => vs ++ zs.reverse) ∧ Binds K fd ["self", f, g] []
section
variable {X : Cx} {C : Addr} {x f g : Str} {p pos : Pos} {e e' : Expr} {kws : List Keyword} {t tk : TA}
end
/-- what raise C(e, e') asks at its end -/
theorem end2X {f g : Str} {C : Addr} {H1 : Hp} {a : Addr} {y z : V} {Q : XK} (ha : H1 a = none) (q : ∀ d H', H1 d = none → Same H1 H' → H' d = some (.xd [(g, z), (f, y)]) → Q (.ref C) (some d) H') :
    spI2 C f g [.ref a, y, z] (upd H1 a (exo a C none)) (fun v H2 => v = .non ∧ ∃ (d : Addr) (fs : List (Str × V)), H2 a = some (exo a C (some d)) ∧ H2 d = some (exd d fs) ∧ H1 d = none ∧ Q (.ref C) (some d) (upd (del H2 a) d (.xd fs))) (fun _ _ _ => False) := by
  refine ⟨a, y, z, rfl, upd_same, fun d hd nda => ?_⟩
  have hd1 : H1 d = none := by rw [upd_ne nda] at hd; exact hd
  refine ⟨rfl, d, [(g, z), (f, y)], by rw [upd_ne (Ne.symm nda)]; exact upd_same, upd_same, hd1, q d _ hd1 (fun c o w => ?_) upd_same⟩
  have n1 : c ≠ a := ne_of_none w ha
  have n2 : c ≠ d := ne_of_none w hd1
  rw [upd_ne n2, L2.del_ne n1, upd_ne n2, upd_ne n1, upd_ne n2, upd_ne n1]
  exact w
/-! ### try: .. except x as n: .., the error kept -/
theorem trackD {X : Cx} {pins : List (Addr × Obj)} {σ : L2.St} {H : Hp} {s : Shared} {a : Addr} {oe : Obj} {cls : Value} {d : Option Addr} {vs : Array Value} (I : Inv X ((a, oe) :: pins) σ H s) (h0 : X.s_0.heap.get? a = none) (hz : Zc cls d oe) (hd : oe.data = Data.fields vs) (hne : ∀ p ∈ X.pn ++ pins, p.1 ≠ a) : Inv X pins σ (upd H a (ExD cls d a)) s := by
  have hp := I.pin (a, oe) (List.mem_append_right _ List.mem_cons_self)
  obtain ⟨ha, hn, hl, hf, hc⟩ := hp
  have hn : H a = none := hn
  have ha : s.heap.get? a = some oe := ha
  refine ⟨I.ok, I.os, I.bare, ?_, I.loc, I.cell, ?_, ?_, ?_, ?_, I.len⟩
  · obtain ⟨k1, k2, k3, k4, k5, k6, k7⟩ := I.base
    refine ⟨k1, k2, fun b o e n hb => ?_, k4, fun b xs e => ?_, fun b o u e => ?_, fun b ps e => ?_⟩
    · rw [upd_ne (fun z => by rw [z, h0] at e; cases e)]
      exact k3 b o e n hb
    · exact upd_at (k5 b xs e) (ne_of_none (k5 b xs e) hn)
    · exact upd_at (k6 b o u e) (ne_of_none (k6 b o u e) hn)
    · obtain ⟨m, e2⟩ := k7 b ps e
      exact ⟨m, upd_at e2 (ne_of_none e2 hn)⟩
  · rw [upd_ne (Ne.symm hl)]
    exact I.free
  · intro x c e
    obtain ⟨v, o, ho, hd2⟩ := I.cell x c e
    have : c ≠ a := fun z => by
      rw [z, ha] at ho
      cases ho
      exact hc v hd2
    rw [upd_ne this]
    exact I.freeC x c e
  · intro p hp
    obtain ⟨q1, q2, q3, q4, q5⟩ := I.pin p (by
      rcases List.mem_append.mp hp with z | z
      · exact List.mem_append_left _ z
      · exact List.mem_append_right _ (List.mem_cons_of_mem _ z))
    exact ⟨q1, by rw [upd_ne (hne p hp)]; exact q2, q3, q4, q5⟩
  · intro b u e
    by_cases hb : b = a
    · subst hb
      rw [upd_same] at e
      cases e
      exact exD_ok ha hz hd
    · rw [upd_ne hb] at e
      exact ObjOk.stay (I.hok b u e) (fun _ _ _ z => z) (fun c z => upd_at z (ne_of_none z hn)) fun c xs z => upd_at z (ne_of_none z hn)
def wD (cls : Value) (i : Nat) (ts : Addr → TS) (D : Ends) : WX := fun cls' d σ H => cls' = cls ∧ ∀ a, H a = none → ts a { nx := fun σ' H' => H' a = none → D.nx (σ'.set i none) (upd H' a (ExD cls d a)), rt := D.rt, bk := fun σ' H' => D.bk (σ'.set i none) H', ct := fun σ' H' => D.ct (σ'.set i none) H' } (σ.set i (some (.ref a))) H
/-- try: .. except x as n: ..; the error with its dict is tracked behind the suite -/
theorem ps_try_asD {X : Cx} {x n : Str} {c cls : Value} {i : Nat} {body suite : List Stmt} {b₀ : Stmt} {np pos pos' : Pos} {tb : WX → TS} {ts : Addr → TS} (hs : X.stack = X.env :: X.outer) (hf : X.env.frame = some X.env.locals) (hN : X.N.Nodup) (hi : X.N[i]? = some n) (hln : X.env.kindOf n = some NameKind.local) (hg : Gl X x) (hdb : (x == ("__debug__" : Str)) = false) (hmg : X.mg x = some c) (hex : X.ex = []) (hm : PySem.W.exmOne X.K cls c = some true)
    (hb : ∀ (W : WX) (pn : List (Addr × Obj)) (xe : Value → Shared → Prop), Takes (X.tr pn xe) W → PassesOwn (model X.prog X.w) X.A X.env xe → PSs (X.tr pn xe) body (tb W))
    (hsu : ∀ (a : Addr) (oe : Obj) (d : Option Addr) (pn : List (Addr × Obj)), Zc cls d oe → (∃ vs, oe.data = Data.fields vs) → PSs (X.suite a ((a, oe) :: pn)) (b₀ :: suite) (ts a)) :
    PS X (.Try body [.ExceptHandler (some (.Name x np)) (some n) (b₀ :: suite) pos'] [] [] pos) (fun D σ H => tb (wD cls i ts D) D σ H) := by
  refine ⟨fun pins s σ H D I h => ?_⟩
  have ok := I.ok
  have hfr : X.A.frames = some (X.env :: X.outer) := by rw [ok.frames, hs]
  refine wpAny_Try_except (wpAny_mono ((hb (wD cls i ts D) (X.pn ++ pins) _ ?_ PassesOwn.looking).run [] s σ H D (Inv.toTry I _) h) ?_ fun e s1 he => he)
  · rintro u s' ⟨a, B, sI, pins', σ', H', cls', d, rfl, J', nb, up, sky, na, os, ag, rfl, hy⟩
    have J := Inv.ofTry J' ok
    have sky' : Sky B (X.env :: X.outer) a (Zc cls' d) X.env.locals s'.heap := by rw [← hs]; exact sky
    refine Sky.land Zc.steady hfr hf sky' fun h3 fl3 up3 => ?_
    have J3 := Inv.landed (s' := { s' with heap := h3 }) J nb fl3.1 (up.trans up3) os ag
    obtain ⟨oe3, vs3, he3, hz3, hd3⟩ := HandSPX.FlyingZ.there fl3
    have nfr : a ∉ List.filterMap (fun x => x.frame) (X.env :: X.outer) := fun hm' => by
      obtain ⟨_, o', e', hnf⟩ := Heap.FunFrames.mem fl3.2.2.1 hm'
      rw [he3] at e'
      cases e'
      exact hnf vs3 hd3
    have nL : a ≠ X.env.locals := fun z => nfr (List.mem_filterMap.mpr ⟨X.env, List.mem_cons_self, by rw [hf, z]⟩)
    have nF : a ∉ X.fs := fun hm' => by
      obtain ⟨e, he, q⟩ := List.mem_filterMap.mp hm'
      exact nfr (List.mem_filterMap.mpr ⟨e, List.mem_cons_of_mem _ he, q⟩)
    have S3 := Inv.suite J3 he3 hd3 na nL nF
    have aB : B.get? a = none := fl3.2.1
    have fra : a ∉ frs X.stack := by rw [hs]; exact nfr
    have aI : sI.heap.get? a = none := by
      cases e : sI.heap.get? a with
      | none => rfl
      | some o => rw [nb a o e fra] at aB; cases aB
    have h0 : X.s_0.heap.get? a = none := by
      cases e : X.s_0.heap.get? a with
      | none => rfl
      | some o =>
        by_cases hx : a ∈ X.ex
        · rw [hex] at hx; cases hx
        · obtain ⟨o', e'⟩ := J.base.there a o e hx
          rw [aI] at e'
          cases e'
    have hne : ∀ p ∈ X.pn ++ pins, p.1 ≠ a := fun p hp z => by
      have := (J.pin p hp).1
      rw [z, aI] at this
      cases this
    refine wpAny_handleBy_cons (codeAny_handlers_test ?_) (by intro z; cases z)
    refine ld_glob (X := X.suite a ((a, oe3) :: (X.pn ++ pins))) S3 hg hmg ?_ hdb
    have LT : PySem.W.Looks (model X.prog X.w) h3 (typeOf (.ref a)) cls' := fun A Q E s hk hq => by
      refine wpAny_typeOf_ref (hk a oe3 he3) ?_
      rw [hz3.1]
      exact hq
    refine PySem.W.Looks.here (PySem.W.exm_one S3.kIn LT hm) ?_
    refine codeAny_handlers_suite_as (HandSPX.lands_againZ fl3 fun h4 fl4 up4 => ?_)
    have J4 := Inv.landed (s' := { s' with heap := h4 }) J nb fl4.1 ((up.trans up3).trans up4) os ag
    obtain ⟨oe4, vs4, he4, hz4, hd4⟩ := HandSPX.FlyingZ.there fl4
    have S4 := Inv.suite J4 he4 hd4 na nL nF
    refine store_ok (X := X.suite a ((a, oe4) :: (X.pn ++ pins))) (v := .ref a) S4 hN hi (Or.inl hln) rfl (fun s5 S5 => ?_) (Or.inr hln)
    refine wpAny_mono ((hsu a oe4 d (X.pn ++ pins) hz4 ⟨vs4, hd4⟩).run [] s5 _ H' _ S5 (hy a na)) ?_ fun e s he => he.elim
    intro f s6 hsp
    cases f with
    | next =>
      obtain ⟨σ6, H6, S6, hq⟩ := hsp
      have S6' := unsuite2 S6 ok
      refine gone_ok S6' hN hi hln fun s7 S7 => ⟨_, _, trackD S7 h0 hz4 hd4 hne, hq ?_⟩
      exact (S7.pin (a, oe4) (List.mem_append_right _ List.mem_cons_self)).2.1
    | brk =>
      obtain ⟨σ6, H6, S6, hq⟩ := hsp
      exact gone_ok (Inv.unsuite S6 ok) hN hi hln fun s7 S7 => ⟨_, _, S7, hq⟩
    | cont =>
      obtain ⟨σ6, H6, S6, hq⟩ := hsp
      exact gone_ok (Inv.unsuite S6 ok) hN hi hln fun s7 S7 => ⟨_, _, S7, hq⟩
    | ret v =>
      obtain ⟨v', σ6, H6, S6, r, hq⟩ := hsp
      exact gone_ok (Inv.unsuite S6 ok) hN hi hln fun s7 S7 => ⟨v', _, _, S7, r, hq⟩
  · intro f s1 hsp
    cases f with
    | next =>
      obtain ⟨σ', H', J', q⟩ := hsp
      exact wpAny_execs_nil ⟨σ', H', Inv.ofTry J' ok, q⟩
    | brk =>
      obtain ⟨σ', H', J', q⟩ := hsp
      exact ⟨σ', H', Inv.ofTry J' ok, q⟩
    | cont =>
      obtain ⟨σ', H', J', q⟩ := hsp
      exact ⟨σ', H', Inv.ofTry J' ok, q⟩
    | ret v =>
      obtain ⟨v', σ', H', J', r, q⟩ := hsp
      exact ⟨v', σ', H', Inv.ofTry J' ok, r, q⟩
/-! ### lists of unlike lengths -/
end My

/-! C(e), whose __init__ raises -/
namespace My
open PySem L2
section
variable {X : Cx} {CX : CXT} {k : Nat} {f C : Addr} {fd : FuncData} {ps : List Str} {sp : Sp} {E : L2.St → XK} {ds : List Value} {dvs : List V}
end
end My

/-! x[k] = v and x op= y of own classes, that may raise -/
namespace My
open PySem L2
section
variable {X : Cx} {CX : CXT} {k : Nat} {C : Addr} {ps : List Str} {sp : Sp} {E : L2.St → XK}
end
end My

/-! try: .. except (A, B) as e: the error with its dict is tracked behind the suite -/
namespace My
open PySem PySem.Spec PyProof.Rows L2
end My

/-! the order of data, of objects of an own class -/
namespace My
open PySem L2 PySem.W
section
variable {X : Cx}
variable {CX : CXT} {k : Nat} {C : Addr} {ps : List Str} {sp : Sp} {E : XK}
end
end My

/-! try: .. except A as e: .. except B as f: ..; the error with its dict is tracked behind the suite -/
namespace My
open PySem PySem.Spec PyProof.Rows L2
end My

/-! a dict with texts as keys and any values, as its pairs; a walk over a list or a tuple -/
namespace My
open PySem L2
section
variable {α : Type}
abbrev GL (α : Type) := List (Str × α)
def genc (f : α → V) (m : GL α) : List (Key × V) := m.map fun p => (Sum.inr p.1, f p.2)
def glook (m : GL α) (k : Str) : Option α := (m.find? fun p => decide (p.1 = k)).map (·.2)
def gput (m : GL α) (k : Str) (n : α) : GL α := if (m.any fun p => decide (p.1 = k)) = true then m.map (fun p => if p.1 = k then (p.1, n) else p) else m ++ [(k, n)]
def gkeys (m : GL α) : List Str := m.map (·.1)
theorem glook_cons (p : Str × α) (r : GL α) (k : Str) : glook (p :: r) k = if p.1 = k then some p.2 else glook r k := by
  unfold glook
  rw [List.find?_cons]
  by_cases e : p.1 = k
  · rw [decide_eq_true e, if_pos e]
    rfl
  · rw [decide_eq_false e, if_neg e]
theorem gany (m : GL α) (k : Str) : (m.any fun p => decide (p.1 = k)) = true ↔ k ∈ gkeys m := by
  rw [List.any_eq_true]
  exact ⟨fun ⟨p, hp, e⟩ => List.mem_map.mpr ⟨p, hp, of_decide_eq_true e⟩, fun h => let ⟨p, hp, e⟩ := List.mem_map.mp h; ⟨p, hp, decide_eq_true e⟩⟩
theorem gput_new {m : GL α} {k : Str} {n : α} (h : k ∉ gkeys m) : gput m k n = m ++ [(k, n)] := by
  unfold gput
  rw [if_neg fun z => h ((gany m k).mp z)]
theorem gkeys_put (m : GL α) (k : Str) (n : α) : gkeys (gput m k n) = if k ∈ gkeys m then gkeys m else gkeys m ++ [k] := by
  by_cases h : k ∈ gkeys m
  · unfold gput
    rw [if_pos ((gany m k).mpr h), if_pos h]
    unfold gkeys
    rw [List.map_map]
    refine List.map_congr_left fun p _ => ?_
    show (if p.1 = k then (p.1, n) else p).1 = p.1
    split <;> rfl
  · rw [gput_new h, if_neg h]
    exact List.map_append
theorem gput_nodup {m : GL α} {k : Str} {n : α} (h : (gkeys m).Nodup) : (gkeys (gput m k n)).Nodup := by
  rw [gkeys_put]
  split
  · exact h
  · exact nd_snoc h (by assumption)
theorem gput_len (m : GL α) (k : Str) (n : α) : (gput m k n).length ≤ m.length + 1 := by
  have e : (gput m k n).length = (gkeys (gput m k n)).length := (List.length_map _).symm
  have e2 : (gkeys m).length = m.length := List.length_map _
  rw [e, gkeys_put]
  split
  · omega
  · rw [List.length_append, List.length_singleton]
    omega
theorem glook_none {m : GL α} {k : Str} : glook m k = none ↔ k ∉ gkeys m := by
  induction m with
  | nil => simp [glook, gkeys]
  | cons p r ih =>
    rw [glook_cons]
    show _ ↔ k ∉ p.1 :: gkeys r
    by_cases e : p.1 = k
    · rw [if_pos e, e]
      simp
    · rw [if_neg e, ih, List.mem_cons, not_or]
      exact ⟨fun h => ⟨Ne.symm e, h⟩, fun h => h.2⟩
theorem glook_put (m : GL α) (k j : Str) (n : α) : glook (gput m k n) j = if j = k then some n else glook m j := by
  induction m with
  | nil =>
    show glook [(k, n)] j = _
    rw [glook_cons]
    by_cases e : k = j
    · rw [if_pos e, if_pos e.symm]
    · rw [if_neg e, if_neg (Ne.symm e)]
  | cons p r ih =>
    by_cases hk : p.1 = k
    · have e : gput (p :: r) k n = (p.1, n) :: r.map (fun p => if p.1 = k then (p.1, n) else p) := by
        unfold gput
        rw [if_pos (by rw [List.any_cons, decide_eq_true hk, Bool.true_or]), List.map_cons, if_pos hk]
      rw [e, glook_cons, glook_cons]
      by_cases ej : j = k
      · rw [if_pos (hk.trans ej.symm), if_pos ej]
      · rw [if_neg fun z => ej (z.symm.trans hk), if_neg ej, if_neg fun z => ej (z.symm.trans hk)]
        unfold glook
        congr 1
        have : ∀ r : GL α, List.find? (fun p => decide (p.1 = j)) (r.map fun p => if p.1 = k then (p.1, n) else p) = List.find? (fun p => decide (p.1 = j)) r := by
          intro r
          induction r with
          | nil => rfl
          | cons q r ih =>
            rw [List.map_cons, List.find?_cons, List.find?_cons, ih]
            by_cases eq : q.1 = k
            · rw [if_pos eq, decide_eq_false (fun z : q.1 = j => ej (z.symm.trans eq))]
            · rw [if_neg eq]
        exact this r
    · have e : gput (p :: r) k n = p :: gput r k n := by
        unfold gput
        rw [List.any_cons, decide_eq_false hk, Bool.false_or]
        split
        · rw [List.map_cons, if_neg hk]
        · rfl
      rw [e, glook_cons, glook_cons, ih]
      by_cases ej : j = k
      · rw [if_neg fun z => hk (z.trans ej), if_pos ej, if_pos ej]
      · rw [if_neg ej, if_neg ej]
end
/-! readings -/
section
variable {X : Cx} {tg : Expr} {σ : L2.St} {H H' : Hp} {K : PySem.W.Frag} {a p l : Addr} {xs : List V} {D : Ends}
/-- a list or a tuple -/
def SqA (K : PySem.W.Frag) (H : Hp) (a : Addr) (xs : List V) : Prop := SqL K H a xs ∨ SqT K H a xs
theorem SqA.same (h : SqA K H a xs) (e : Same H H') : SqA K H' a xs := h.imp (fun z => e.seq z) fun z => SqT.same z e
def SeqW (K : PySem.W.Frag) (H : Hp) (a : Addr) (xs : List V) (R : It → Hp → Prop) : Prop := (SqL K H a xs ∧ R (Itl K a) H) ∨ (SqT K H a xs ∧ R (Itt K a) H)
def iSeq (K : PySem.W.Frag) (tl : TE) : TI := fun σ H R => tl σ H fun x H1 => ∃ (a : Addr) (xs : List V), x = .ref a ∧ SeqW K H1 a xs R
theorem pi_seq {e : Expr} {tl : TE} (hl : PE X e tl) : PI X tg e (iSeq X.K tl) := by
  refine ⟨fun pins s σ H R I h => ?_⟩
  refine thn (hl.run pins s σ H _ I h) fun v s1 ⟨x, H1, I1, r1, q1⟩ => ?_
  obtain ⟨a, xs, e, q⟩ := q1
  subst e
  cases r1
  rcases q with ⟨hq, q⟩ | ⟨hq, q⟩
  · obtain ⟨its, rv, p, hz⟩ := I1.list hq
    refine wpAny_pyIter_list p.isList ⟨s1.heap.objs.size, [s1.heap.objs.size], _, _, H1, rfl, I1.kept (t' := s1.toks) fun b o e => Heap.get?_push_of_some _ e, turn_list a _, ⟨_, Heap.get?_push_size _ rfl, rfl, rfl⟩, fun b hb => ?_, q⟩
    rw [List.mem_singleton.mp hb]
    exact I1.fpOk (Nat.le_refl _) (I1.hok.fresh (Nat.le_refl _))
  · obtain ⟨its, rv, p, hz⟩ := I1.tuple hq
    refine wpAny_pyIter_tuple (show s1.heap.IsTuple a its.toArray from p) ⟨s1.heap.objs.size, [s1.heap.objs.size], _, _, H1, rfl, I1.kept (t' := s1.toks) fun b o e => Heap.get?_push_of_some _ e, turn_tuple a _, ⟨_, Heap.get?_push_size _ rfl, rfl, rfl⟩, fun b hb => ?_, q⟩
    rw [List.mem_singleton.mp hb]
    exact I1.fpOk (Nat.le_refl _) (I1.hok.fresh (Nat.le_refl _))
end
end My

namespace My
open PySem L2
/-! sets of texts made of a list of texts -/
theorem SetSR.nil {P : Program} {w : World} {s : Shared} {a : Addr} (ho : s.heap.get? a = some { cls := .type "set", dict := none, data := .set #[] 0 (.fresh 0 0 (!w.params.followText "set-order")) }) : SetSR P w s.heap a [] :=
  SetTR.to_s (s := s) (setTR_fresh ho)
theorem SetSR.at_ {P : Program} {w : World} {h h' : Heap} {a : Addr} {L : List Str} (R : SetSR P w h a L) (k : ∀ o, h.get? a = some o → h'.get? a = some o) : SetSR P w h' a L := by
  obtain ⟨o, es, ep, t, ks, ho, r⟩ := R
  exact ⟨o, es, ep, t, ks, k o ho, r⟩
theorem nodup_sub_len {α : Type} [DecidableEq α] : ∀ {l m : List α}, l.Nodup → (∀ x ∈ l, x ∈ m) → l.length ≤ m.length
  | [], _, _, _ => Nat.zero_le _
  | x :: l, m, h, s => by
    have hx := s x List.mem_cons_self
    have h2 := nodup_sub_len (m := m.erase x) (List.nodup_cons.mp h).2 fun y hy => by
      refine (List.mem_erase_of_ne (fun e : y = x => (List.nodup_cons.mp h).1 (by rw [← e]; exact hy))).mpr (s y (List.mem_cons_of_mem _ hy))
    rw [List.length_erase_of_mem hx] at h2
    have := List.length_pos_of_mem hx
    rw [List.length_cons]
    omega
/-- what of xs is taken up to i: no text twice -/
structure GotS (xs : List Str) (i : Nat) (L : List Str) : Prop where
  nd : L.Nodup
  me : ∀ k, k ∈ L ↔ k ∈ xs.take i
theorem GotS.zero (xs : List Str) : GotS xs 0 [] := ⟨List.nodup_nil, fun k => by rw [List.take_zero]⟩
theorem GotS.same {xs : List Str} {i : Nat} {L : List Str} {k : Str} (g : GotS xs i L) (hk : xs[i]? = some k) (h : k ∈ L) : GotS xs (i + 1) L := ⟨g.nd, fun j => by
  rw [List.take_add_one, hk, List.mem_append, ← g.me j]
  refine ⟨.inl, fun z => z.elim id fun z => ?_⟩
  rw [List.mem_singleton.mp z]
  exact h⟩
theorem GotS.more {xs : List Str} {i : Nat} {L : List Str} {k : Str} (g : GotS xs i L) (hk : xs[i]? = some k) (h : k ∉ L) : GotS xs (i + 1) (k :: L) := ⟨List.nodup_cons.mpr ⟨h, g.nd⟩, fun j => by
  rw [List.take_add_one, hk, List.mem_append, ← g.me j, List.mem_cons]
  exact ⟨fun z => z.elim (fun z => .inr (by rw [z]; exact List.mem_singleton_self _)) .inl, fun z => z.elim .inr fun z => .inl (List.mem_singleton.mp z)⟩⟩
theorem GotS.len {xs : List Str} {i : Nat} {L : List Str} (g : GotS xs i L) : L.length ≤ xs.length := by
  have h := nodup_sub_len g.nd fun k hk => (g.me k).mp hk
  rw [List.length_take] at h
  omega
section
open PySem.Spec PyProof.Rows
variable {P : Program} {w : World} {A : Around} {E : Value → Shared → Prop} {s : Shared}
end
def rSetL (K : PySem.W.Frag) (P : Program) (w : World) : List V → Hp → VK → Prop := fun xs H Q => ∃ (l : Addr) (ks : List Str), xs = [V.ref l] ∧ SqL K H l (ks.map V.str) ∧ ks.length < 64 ∧
  ∀ a L, H a = none → L.Nodup → (∀ k, k ∈ L ↔ k ∈ ks) → Q (.ref a) (upd H a (SetSO P w a L))
end My

namespace My
open PySem L2
/-! xs[lo::2] -/
/-- the items at 0, 2, 4 .. -/
def evs {α : Type} : List α → List α
  | [] => []
  | [a] => [a]
  | a :: _ :: r => a :: evs r
section
open PyProof.Rows PySem.Spec
variable {X : Cx} {e : Expr} {te : TE} {lo hi : Option Expr} {st : Expr} {tl th ts : TO} {pos p2 : Pos}
end
end My

/-! own classes with keywords -/
namespace My
open PySem L2
def g1 {α : Type} : List α → List α → List α
  | [u], [v] => [u, v]
  | _, _ => []
theorem g1_rel {vs zs : List V} {us ws : List Value} (h : Vals vs us) (h' : Vals zs ws) : Vals (g1 vs zs) (g1 us ws) := by
  match vs, us, h, zs, ws, h' with
  | [], [], .nil, _, _, _ => exact .nil
  | [_], [_], .cons r .nil, [], [], .nil => exact .nil
  | [_], [_], .cons r .nil, [_], [_], .cons r' .nil => exact .cons r (.cons r' .nil)
  | [_], [_], .cons r .nil, _ :: _ :: _, _ :: _ :: _, .cons _ (.cons _ _) => exact .nil
  | _ :: _ :: _, _ :: _ :: _, .cons _ (.cons _ _), _, _, _ => exact .nil
structure OCalK (P : Program) (w : World) (K : PySem.W.Frag) (mg : Str → Option Value) (base : Heap) (CX : CXT) (k : Nat) (C : Addr) (m : Str) (ps ks : List Str) (sp : Sp) : Prop where
  ex : ∃ (f : Addr) (fd : FuncData), FnOk P w K mg base CX k f fd ps sp ∧ Meth K C m f ∧ KBinds K fd ps ks g1 g1
structure OMkK (P : Program) (w : World) (K : PySem.W.Frag) (mg : Str → Option Value) (base : Heap) (CX : CXT) (k : Nat) (C : Addr) (x : Str) (ps ks : List Str) (gV : List V → List V → List V) (sp : Sp) : Prop where
  ex : ∃ (f : Addr) (fd : FuncData) (g : List Value → List Value → List Value), Mk K C f ∧ FnOk P w K mg base CX k f fd ps sp ∧ mg x = some (.ref C) ∧ KBn K fd ps 1 ks g gV
section
variable {X : Cx} {CX : CXT} {k : Nat} {C : Addr} {ps ks : List Str} {sp : Sp} {E : XK} {m x : Str} {o : Expr} {ta : TE} {tk : TA} {pos apos p : Pos} {kws : List Keyword} {pl : Sem Bool} {gV : List V → List V → List V}
theorem pe_methOK (O : OCalK X.prog X.w X.K X.mg X.base CX k C m ps ks sp) (c : Cls X.K C) (hr : Room k X.A) (hx : Passes CX X E) (he : PE X o ta) (hkw : PK X kws tk)
    (hall : (backToKw pos (keywordEach kws X.env)).all (·.1.isSome) = true := by rfl) (hks : (backToKw pos (keywordEach kws X.env)).filterMap (·.1) = ks := by rfl)
    (hpl : ((backTo pos (starEach [] X.env)).any (·.1) || (backToKw pos (keywordEach kws X.env)).any (·.1.isNone)) = false := by rfl)
    (ht : eval (.Call (.Attribute o m apos) [] kws pos) X.env = (do
      let ov ← eval o X.env
      standAt apos.atName
      let (f, first) ← holding [ov] (getMethod ov m pl)
      callWith pos f first (backTo pos (starEach [] X.env)) (backToKw pos (keywordEach kws X.env))) := by with_unfolding_all rfl) :
    PE X (.Call (.Attribute o m apos) [] kws pos) (tMethK C m sp g1 E ta tk) := by
  obtain ⟨f, fd, F, M, B⟩ := O.ex
  exact pe_methK0 (pl := pl) he c M F hr B hx hkw hall hks hpl ht
theorem pe_makeOK (O : OMkK X.prog X.w X.K X.mg X.base CX k C x ps ks gV sp) (hr : Room (k + 1) X.A) (hx : Passes CX X E) (hkw : PK X kws tk) (hg : Gl X x := by rfl)
    (hall : (backToKw pos (keywordEach kws X.env)).all (·.1.isSome) = true := by rfl) (hks : (backToKw pos (keywordEach kws X.env)).filterMap (·.1) = ks := by rfl) (hdb : (x == ("__debug__" : Str)) = false := by decide)
    (hpl : ((backTo pos (starEach [] X.env)).any (·.1) || (backToKw pos (keywordEach kws X.env)).any (·.1.isNone)) = false := by rfl) :
    PE X (.Call (.Name x p) [] kws pos) (tMakeK C 0 ks.length sp gV E tNil tk) := by
  obtain ⟨f, fd, g, M, F, hm, B⟩ := O.ex
  exact pe_makeK0 M F hr hg hm B hx hkw hall hks hdb hpl
end
theorem r_methK {C : Addr} {m : Str} {sp : Sp} {E : XK} {ta : TE} {tk : TA} {σ : L2.St} {H : Hp} {Q : VK} (h : ta σ H fun x H1 => ∃ a dx fs, x = .ref a ∧ H1 a = some (.ins C dx fs) ∧ fs.lookup m = none ∧ tk σ H1 fun zs H2 => sp (g1 [.ref a] zs) H2 Q E) : tMethK C m sp g1 E ta tk σ H Q := h
theorem r_makeK {C : Addr} {n m : Nat} {sp : Sp} {gV : List V → List V → List V} {E : XK} {t tk : TA} {σ : L2.St} {H : Hp} {Q : VK} (h : t σ H fun vs H1 => tk σ H1 fun zs H2 => vs.length = n ∧ zs.length = m ∧ ∀ x dx, H2 x = none → H2 dx = none → dx ≠ x →
  sp (gV (.ref x :: vs) zs) (L2.upd (L2.upd H2 dx (.own x)) x (.ins C dx [])) (fun v H3 => v = .non ∧ Q (.ref x) H3) E) : tMakeK C n m sp gV E t tk σ H Q := h
end My

/-! C(k = e, ..), whose __init__ raises -/
namespace My
open PySem L2 PyProof.Rows
section
variable {X : Cx} {CX : CXT} {k n : Nat} {f C : Addr} {fd : FuncData} {ps ks : List Str} {sp : Sp} {E : L2.St → XK} {x : Str} {p pos : Pos} {kws : List Keyword} {t tk : TA} {g : List Value → List Value → List Value} {gV : List V → List V → List V}
end
end My

/-! classmethods that raise: C.m(e), C.m(k = e); cls(..) of a local that holds a class -/
namespace My
open PySem L2 PyProof.Rows
/-- C.m is a classmethod, its def keeps sp -/
structure CCal (P : Program) (w : World) (K : PySem.W.Frag) (mg : Str → Option Value) (base : Heap) (CX : CXT) (k : Nat) (C : Addr) (m : Str) (ps ks : List Str) (sp : Sp) : Prop where
  ex : ∃ (f p : Addr) (fd : FuncData) (mc : Value), FnOk P w K mg base CX k f fd ps sp ∧ ClX.CRead K C mc ∧ ClX.CMet K C mc m p f ∧ Binds K fd ps [] ∧ KBinds K fd ps ks g1 g1
section
variable {X : Cx} {CX : CXT} {k : Nat} {C p g : Addr} {mc : Value} {ps ks : List Str} {sp : Sp} {E : L2.St → XK} {o e : Expr} {es : List Expr} {f m x : Str} {pos apos : Pos} {ta : TE} {t tk : TA} {pl : Sem Bool} {kws : List Keyword}
structure OMkD (P : Program) (w : World) (K : PySem.W.Frag) (mg : Str → Option Value) (base : Heap) (CX : CXT) (k : Nat) (C : Addr) (ps : List Str) (dvs : List V) (sp : Sp) : Prop where
  ex : ∃ (f : Addr) (fd : FuncData) (ds : List Value), Mk K C f ∧ FnOk P w K mg base CX k f fd ps sp ∧ Binds K fd ps ds ∧ Vals dvs ds
end
end My

set_option exponentiation.threshold 2000
/-! lots as texts: words, numbers, kinds -/
namespace My
open PySem L2
def ods {α : Type} (xs : List α) : List α := evs (xs.drop 1)
/-- a number as a Lot's text has it -/
def ManyS (s : Str) : Prop := 1 ≤ (cds s).length ∧ (cds s).length ≤ 300 ∧ (cds s)[0]? ≠ some 48 ∧ NumText.AllDigits (cds s)
def num (s : Str) : Int := ((NumText.digitsVal (cds s) : Nat) : Int)
def sp1 : Str := Str.ofString " "
def words (z : Str) : List Str := Txt.split z sp1
structure OkW (ws : List Str) : Prop where
  ev : ws.length % 2 = 0
  nu : ∀ c ∈ evs ws, ManyS c
  ki : ∀ k ∈ ods ws, KindS k
  up : (ods ws).Pairwise fun a b => cds a < cds b
def qsOf (ws : List Str) : AL := (ods ws).zip ((evs ws).map num)
def dash : Str := Str.ofString "-"
/-- what a line gives: none where it is no Lot's text -/
structure Reads (z : Str) (qs : AL) : Prop where
  ex : z = dash ∧ qs = [] ∨ z ≠ dash ∧ OkW (words z) ∧ qs = qsOf (words z)
/-- the digits' worth, back -/
theorem val_snoc (cs : List Nat) (c : Nat) : NumText.digitsVal (cs ++ [c]) = NumText.digitsVal cs * 10 + (c - 48) := by
  unfold NumText.digitsVal
  rw [List.foldl_append]
  rfl
theorem snocRec {P : List Nat → Prop} (h0 : P []) (h : ∀ cs c, P cs → P (cs ++ [c])) (cs : List Nat) : P cs := by
  have : ∀ l : List Nat, P l.reverse := fun l => by
    induction l with
    | nil => exact h0
    | cons a l ih => rw [List.reverse_cons]; exact h _ _ ih
  have := this cs.reverse
  rwa [List.reverse_reverse] at this
theorem val_pos : ∀ (cs : List Nat), NumText.AllDigits cs → cs ≠ [] → cs[0]? ≠ some 48 → 0 < NumText.digitsVal cs := by
  intro cs
  induction cs using snocRec with
  | h0 => intro _ h; exact absurd rfl h
  | h cs c ih =>
    intro h _ h0
    rw [val_snoc]
    by_cases e : cs = []
    · subst e
      have hc := h c (by simp)
      have : c ≠ 48 := fun z => h0 (by rw [z]; rfl)
      omega
    · have := ih (fun d hd => h d (List.mem_append_left _ hd)) e (by
        rw [List.getElem?_append_left (by cases cs; exact absurd rfl e; simp)] at h0
        exact h0)
      omega
theorem numL_back : ∀ (cs : List Nat), NumText.AllDigits cs → cs ≠ [] → cs[0]? ≠ some 48 → TL.numL (NumText.digitsVal cs) = cs := by
  intro cs
  induction cs using snocRec with
  | h0 => intro _ h; exact absurd rfl h
  | h cs c ih =>
    intro h _ h0
    have hc := h c (by simp)
    have hcs : NumText.AllDigits cs := fun d hd => h d (List.mem_append_left _ hd)
    rw [val_snoc]
    by_cases e : cs = []
    · subst e
      show TL.numL (0 * 10 + (c - 48)) = [c]
      rw [TL.numL_lt (by omega)]
      congr 1
      omega
    · have h0' : cs[0]? ≠ some 48 := by
        rw [List.getElem?_append_left (by cases cs; exact absurd rfl e; simp)] at h0
        exact h0
      have p := val_pos cs hcs e h0'
      rw [TL.numL_step (by omega)]
      have e1 : (NumText.digitsVal cs * 10 + (c - 48)) / 10 = NumText.digitsVal cs := by omega
      have e2 : 48 + (NumText.digitsVal cs * 10 + (c - 48)) % 10 = c := by omega
      rw [e1, e2, ih hcs e h0']
theorem val_lt : ∀ (cs : List Nat), NumText.AllDigits cs → NumText.digitsVal cs < 10 ^ cs.length := by
  intro cs
  induction cs using snocRec with
  | h0 => intro _; show 0 < 10 ^ 0; decide
  | h cs c ih =>
    intro h
    have hc := h c (by simp)
    have := ih fun d hd => h d (List.mem_append_left _ hd)
    rw [val_snoc, List.length_append]
    show _ < 10 ^ (cs.length + 1)
    rw [Nat.pow_succ]
    omega
theorem ManyS.ne {s : Str} (h : ManyS s) : cds s ≠ [] := fun e => by have := h.1; rw [e] at this; exact absurd this (by decide)
theorem ManyS.pos {s : Str} (h : ManyS s) : 0 < num s := by
  have := val_pos _ h.2.2.2 h.ne h.2.2.1
  unfold num
  omega
theorem ManyS.lt {s : Str} (h : ManyS s) : (num s).natAbs < 2 ^ 1000 := by
  have h1 := val_lt _ h.2.2.2
  have h2 : (10 : Nat) ^ (cds s).length ≤ 10 ^ 300 := Nat.pow_le_pow_right (by decide) h.2.1
  have h3 : (10 : Nat) ^ 300 < 2 ^ 1000 := by decide +kernel
  unfold num
  rw [Int.natAbs_natCast]
  omega
theorem ManyS.reads {s : Str} (h : ManyS s) : intText? s = some (num s) := by
  refine intText_digits h.2.2.2 h.ne ?_
  rw [len_cds]
  have := h.2.1
  omega
theorem ManyS.text {s : Str} (h : ManyS s) : ((toString (num s) : String) : Str) = s := by
  refine TL.ext_tl ?_
  show TL.tl (Str.ofString (toString (num s))) = cds s
  unfold num
  rw [TL.tl_num]
  exact numL_back _ h.2.2.2 h.ne h.2.2.1
end My

/-! lines: their words, how long, and back -/
namespace My
open PySem L2
/-- a line: its length, its blanks -/
structure Ln (z : Str) (a b : Nat) : Prop where
  le : (cds z).length ≤ a
  bl : (cds z).count 32 ≤ b
/-! ### the way back -/
def lw (p : Str × Int) : Str := (Str.ofString (toString p.2) ++ sp1) ++ p.1
end My

/-! a list of kinds against its own set, sorted -/
namespace My
open PySem L2
theorem lt_sle {a b : Str} (h : cds a < cds b) : sle a b = true := by
  unfold sle
  simpa using List.lt_asymm h
def sd (ks : List Str) : PyData := .list (ks.map .str)
theorem cn_tot {m qs : AL} (nd : (keys m).Nodup) (qn : (keys qs).Nodup) (qp : ∀ p ∈ qs, 0 < p.2) (up : qs.Pairwise fun a b => ple a b = true) (hg : ∀ k, get m k = tot qs k) : Cn m qs := by
  have h := pos_perm nd qn fun k _ => (hg k).trans (tot_nodup k qn)
  rw [pos_all qp] at h
  exact ⟨h.symm, up⟩
end My

/-! books: rows, edges, the dict of parts -/
namespace My
open PySem L2
/-- an Opening as data: its kind, the pairs of its contents -/
abbrev Row := Str × AL
structure RowOk (r : Row) : Prop where
  kk : KindS r.1
  ne : r.2 ≠ []
  pos : ∀ p ∈ r.2, 0 < p.2 ∧ KindS p.1
  up : (keys r.2).Pairwise fun a b => cds a < cds b
  no : r.1 ∉ keys r.2
  ln : r.2.length ≤ 29
theorem RowOk.nd {r : Row} (h : RowOk r) : (keys r.2).Nodup := h.up.imp fun {a b} z e => by rw [e] at z; exact List.lt_irrefl _ z
theorem up_ple {qs : AL} (up : (keys qs).Pairwise fun a b => cds a < cds b) : qs.Pairwise fun a b => ple a b = true := by
  unfold keys at up
  rw [List.pairwise_map] at up
  refine up.imp fun {a b} z => ?_
  show (if a.1 = b.1 then _ else sle a.1 b.1) = true
  rw [if_neg fun e => by rw [e] at z; exact List.lt_irrefl _ z]
  exact lt_sle z
theorem RowOk.cn {r : Row} (h : RowOk r) : Cn r.2 r.2 := ⟨by rw [pos_all fun p hp => (h.pos p hp).1], up_ple h.up⟩
def Edge (rows : List Row) (k p : Str) : Prop := ∃ r ∈ rows, r.1 = k ∧ p ∈ keys r.2
/-- a book without a ring: the parts of a kind rank above it -/
def Ranked (rows : List Row) : Prop := ∃ f : Str → Nat, ∀ k p, Edge rows k p → f k < f p
/-- the lists of parts in the heap -/
structure PtsH (H : Hp) (m : GL Addr) (ms : GL (List Str)) : Prop where
  ke : gkeys m = gkeys ms
  nd : (gkeys ms).Nodup
  at_ : ∀ k a ps, glook m k = some a → glook ms k = some ps → H a = some (.lst (ps.map V.str))
  inj : ∀ k j a, glook m k = some a → glook m j = some a → k = j
/-- their kinds and parts are the pairs es -/
structure EdOk (es : List (Str × Str)) (ms : GL (List Str)) : Prop where
  ed : ∀ k p, (∃ ps, glook ms k = some ps ∧ p ∈ ps) ↔ (k, p) ∈ es
  ne : ∀ k ps, glook ms k = some ps → ps ≠ []
  ln : ∀ k ps, glook ms k = some ps → ps.length ≤ es.length
  lm : ms.length ≤ es.length
  sm : (ms.map fun q => q.2.length).sum ≤ es.length
  fl : (ms.map (·.2)).flatten.Perm (es.map (·.2))
theorem gput_flat {ms : GL (List Str)} {k p : Str} {ps : List Str} (nd : (gkeys ms).Nodup) (h : glook ms k = some ps ∨ (glook ms k = none ∧ ps = [])) : ((gput ms k (ps ++ [p])).map (·.2)).flatten.Perm ((ms.map (·.2)).flatten ++ [p]) := by
  rcases h with h | ⟨h, rfl⟩
  · induction ms with
    | nil => cases h
    | cons q r ih =>
      have hn := List.nodup_cons.mp (show (q.1 :: gkeys r).Nodup from nd)
      rw [glook_cons] at h
      by_cases e : q.1 = k
      · rw [if_pos e] at h
        have e2 : gput (q :: r) k (ps ++ [p]) = (q.1, ps ++ [p]) :: r := by
          unfold gput
          rw [if_pos (by rw [List.any_cons, decide_eq_true e, Bool.true_or]), List.map_cons, if_pos e]
          congr 1
          have : ∀ x ∈ r, x.1 ≠ k := fun x hx z => hn.1 (by rw [e, ← z]; exact List.mem_map.mpr ⟨x, hx, rfl⟩)
          calc r.map (fun p_1 => if p_1.1 = k then (p_1.1, ps ++ [p]) else p_1) = r.map id := List.map_congr_left fun x hx => by rw [if_neg (this x hx)]; rfl
            _ = r := List.map_id _
        rw [e2, List.map_cons, List.map_cons, List.flatten_cons, List.flatten_cons, Option.some.inj h]
        show ((ps ++ [p]) ++ _).Perm _
        rw [List.append_assoc, List.append_assoc]
        exact List.Perm.append_left _ List.perm_append_comm
      · rw [if_neg e] at h
        have e2 : gput (q :: r) k (ps ++ [p]) = q :: gput r k (ps ++ [p]) := by
          unfold gput
          rw [List.any_cons, decide_eq_false e, Bool.false_or]
          split
          · rw [List.map_cons, if_neg e]
          · rfl
        rw [e2, List.map_cons, List.map_cons, List.flatten_cons, List.flatten_cons, List.append_assoc]
        exact List.Perm.append_left _ (ih hn.2 h)
  · rw [gput_new (glook_none.mp h), List.map_append, List.flatten_append]
    exact List.Perm.refl _
theorem gput_sum {ms : GL (List Str)} {k p : Str} {ps : List Str} (nd : (gkeys ms).Nodup) (h : glook ms k = some ps ∨ (glook ms k = none ∧ ps = [])) : ((gput ms k (ps ++ [p])).map fun q => q.2.length).sum = (ms.map fun q => q.2.length).sum + 1 := by
  rcases h with h | ⟨h, rfl⟩
  · induction ms with
    | nil => cases h
    | cons q r ih =>
      have hn := List.nodup_cons.mp (show (q.1 :: gkeys r).Nodup from nd)
      rw [glook_cons] at h
      by_cases e : q.1 = k
      · rw [if_pos e] at h
        have e2 : gput (q :: r) k (ps ++ [p]) = (q.1, ps ++ [p]) :: r := by
          unfold gput
          rw [if_pos (by rw [List.any_cons, decide_eq_true e, Bool.true_or]), List.map_cons, if_pos e]
          congr 1
          refine (List.map_congr_left fun x hx => ?_).trans (List.map_id r)
          rw [if_neg fun z : x.1 = k => hn.1 (by rw [e, ← z]; exact List.mem_map.mpr ⟨x, hx, rfl⟩)]
          rfl
        rw [e2, List.map_cons, List.map_cons, List.sum_cons, List.sum_cons]
        show (ps ++ [p]).length + _ = q.2.length + _ + 1
        rw [Option.some.inj h, List.length_append, List.length_singleton]
        omega
      · rw [if_neg e] at h
        have e2 : gput (q :: r) k (ps ++ [p]) = q :: gput r k (ps ++ [p]) := by
          unfold gput
          rw [List.any_cons, decide_eq_false e, Bool.false_or]
          split
          · rw [List.map_cons, if_neg e]
          · rfl
        rw [e2, List.map_cons, List.map_cons, List.sum_cons, List.sum_cons, ih hn.2 h]
        omega
  · rw [gput_new (glook_none.mp h), List.map_append, List.sum_append]
    rfl
theorem PtsH.same {H H' : Hp} {m : GL Addr} {ms : GL (List Str)} (h : PtsH H m ms) (s : Same H H') : PtsH H' m ms := ⟨h.ke, h.nd, fun k a ps h1 h2 => s _ _ (h.at_ k a ps h1 h2), h.inj⟩
theorem gkeys_some {α : Type} {m : GL α} {k : Str} : k ∈ gkeys m ↔ ∃ a, glook m k = some a := by
  cases e : glook m k with
  | none => exact ⟨fun h => absurd h (glook_none.mp e), fun ⟨a, h⟩ => by cases h⟩
  | some a => exact ⟨fun _ => ⟨a, rfl⟩, fun _ => Classical.byContradiction fun h => by rw [glook_none.mpr h] at e; cases e⟩
theorem PtsH.both {H : Hp} {m : GL Addr} {ms : GL (List Str)} (h : PtsH H m ms) {k : Str} {a : Addr} (e : glook m k = some a) : ∃ ps, glook ms k = some ps ∧ H a = some (.lst (ps.map V.str)) := by
  obtain ⟨ps, hp⟩ := gkeys_some.mp (by rw [← h.ke]; exact gkeys_some.mpr ⟨a, e⟩)
  exact ⟨ps, hp, h.at_ k a ps e hp⟩
theorem PtsH.len {H : Hp} {m : GL Addr} {ms : GL (List Str)} (h : PtsH H m ms) : m.length = ms.length := by
  have := congrArg List.length h.ke
  unfold gkeys at this
  rwa [List.length_map, List.length_map] at this
theorem PtsH.nil {H : Hp} : PtsH H [] [] := ⟨rfl, List.nodup_nil, fun _ _ _ h => (by cases h), fun _ _ _ h => (by cases h)⟩
theorem EdOk.nil : EdOk [] [] := ⟨fun k p => ⟨fun ⟨_, h, _⟩ => (by cases h), fun h => (nomatch h)⟩, fun _ _ h => (by cases h), fun _ _ h => (by cases h), Nat.le_refl _, Nat.le_refl _, List.Perm.refl _⟩
/-- one more part of a kind that has some -/
theorem PtsH.grow {H H' : Hp} {m : GL Addr} {ms : GL (List Str)} {k p : Str} {a : Addr} {ps : List Str} (h : PtsH H m ms) (e1 : glook m k = some a) (e2 : glook ms k = some ps) (ha : H' a = some (.lst ((ps ++ [p]).map V.str))) (oth : ∀ c o, H c = some o → c ≠ a → H' c = some o) : PtsH H' m (gput ms k (ps ++ [p])) := by
  have hk : k ∈ gkeys ms := gkeys_some.mpr ⟨ps, e2⟩
  refine ⟨by rw [gkeys_put, if_pos hk]; exact h.ke, gput_nodup h.nd, fun j b qs h1 h2 => ?_, h.inj⟩
  rw [glook_put] at h2
  by_cases c : j = k
  · rw [if_pos c] at h2
    subst c
    rw [e1] at h1
    rw [← Option.some.inj h1, ← Option.some.inj h2]
    exact ha
  · rw [if_neg c] at h2
    exact oth _ _ (h.at_ j b qs h1 h2) fun z => c (h.inj j k a (by rw [← z]; exact h1) e1)
theorem EdOk.grow {es : List (Str × Str)} {ms : GL (List Str)} {k p : Str} {ps : List Str} (nd : (gkeys ms).Nodup) (h : EdOk es ms) (hp : glook ms k = some ps ∨ (glook ms k = none ∧ ps = [])) : EdOk (es ++ [(k, p)]) (gput ms k (ps ++ [p])) := by
  have ll : (es ++ [(k, p)]).length = es.length + 1 := by rw [List.length_append]; rfl
  have lp : ps.length ≤ es.length := hp.elim (h.ln k ps) fun z => by rw [z.2]; exact Nat.zero_le _
  refine ⟨fun j q => ?_, fun j qs e => ?_, fun j qs e => ?_, ?_, by rw [gput_sum nd hp, ll]; exact Nat.succ_le_succ h.sm, by rw [List.map_append]; exact (gput_flat nd hp).trans (List.Perm.append_right _ h.fl)⟩
  · rw [List.mem_append, List.mem_singleton, ← h.ed j q, glook_put]
    by_cases c : j = k
    · subst c
      rw [if_pos rfl]
      constructor
      · rintro ⟨qs, e, hq⟩
        rw [← Option.some.inj e] at hq
        rcases List.mem_append.mp hq with z | z
        · rcases hp with w | w
          · exact .inl ⟨ps, w, z⟩
          · rw [w.2] at z; cases z
        · exact .inr (by rw [List.mem_singleton.mp z])
      · rintro (⟨qs, e, hq⟩ | z)
        · rcases hp with w | w
          · rw [w] at e
            exact ⟨_, rfl, List.mem_append_left _ (by rw [Option.some.inj e]; exact hq)⟩
          · rw [w.1] at e; cases e
        · exact ⟨_, rfl, List.mem_append_right _ (by rw [(Prod.mk.inj z).2]; exact List.mem_singleton_self _)⟩
    · rw [if_neg c]
      exact ⟨.inl, fun z => z.elim id fun z => absurd (Prod.mk.inj z).1 c⟩
  · rw [glook_put] at e
    by_cases c : j = k
    · rw [if_pos c] at e
      rw [← Option.some.inj e]
      simp
    · rw [if_neg c] at e
      exact h.ne j qs e
  · rw [ll]
    rw [glook_put] at e
    by_cases c : j = k
    · rw [if_pos c] at e
      rw [← Option.some.inj e, List.length_append, List.length_singleton]
      omega
    · rw [if_neg c] at e
      have := h.ln j qs e
      omega
  · have h1 := gput_len ms k (ps ++ [p])
    have h2 := h.lm
    omega
/-- the first part of a kind -/
theorem PtsH.more {H H' : Hp} {m : GL Addr} {ms : GL (List Str)} {k p : Str} {a : Addr} (h : PtsH H m ms) (e1 : glook m k = none) (fr : H a = none) (ha : H' a = some (.lst ([p].map V.str))) (oth : ∀ c o ys, H c = some o → o = .lst ys → H' c = some o) : PtsH H' (gput m k a) (gput ms k [p]) := by
  have hk : k ∉ gkeys m := glook_none.mp e1
  have hk2 : k ∉ gkeys ms := by rw [← h.ke]; exact hk
  refine ⟨by rw [gkeys_put, gkeys_put, if_neg hk, if_neg hk2, h.ke], gput_nodup h.nd, fun j b qs h1 h2 => ?_, fun i j b h1 h2 => ?_⟩
  · rw [glook_put] at h1 h2
    by_cases c : j = k
    · rw [if_pos c] at h1 h2
      rw [← Option.some.inj h1, ← Option.some.inj h2]
      exact ha
    · rw [if_neg c] at h1 h2
      exact oth _ _ _ (h.at_ j b qs h1 h2) rfl
  · have nb : ∀ j, glook m j ≠ some a := fun j e => by
      obtain ⟨ps, _, h2⟩ := h.both e
      rw [fr] at h2
      cases h2
    rw [glook_put] at h1 h2
    by_cases ci : i = k
    · by_cases cj : j = k
      · rw [ci, cj]
      · rw [if_pos ci] at h1
        rw [if_neg cj, ← Option.some.inj h1] at h2
        exact absurd h2 (nb j)
    · rw [if_neg ci] at h1
      by_cases cj : j = k
      · rw [if_pos cj] at h2
        rw [← Option.some.inj h2] at h1
        exact absurd h1 (nb i)
      · rw [if_neg cj] at h2
        exact h.inj i j b h1 h2
/-- how many parts the rows have -/
def esum (rows : List Row) : Nat := (rows.map fun r => r.2.length).sum
theorem esum_take {rows : List Row} {i : Nat} {r : Row} (e : rows[i]? = some r) : esum (rows.take (i + 1)) = esum (rows.take i) + r.2.length := by
  unfold esum
  rw [List.take_add_one, e, List.map_append, List.sum_append]
  simp
/-- the dict of parts of the book of these rows -/
def PartsA (H : Hp) (d : Addr) (rows : List Row) : Prop := ∃ (m : GL Addr) (ms : GL (List Str)) (es : List (Str × Str)), H d = some (.dK (genc V.ref m)) ∧ PtsH H m ms ∧ EdOk es ms ∧ (∀ k p, (k, p) ∈ es ↔ Edge rows k p) ∧ es.length ≤ 3000 ∧ es.length ≤ esum rows ∧ (es.map (·.2)).Perm (rows.map fun r => keys r.2).flatten
theorem PartsA.same {H H' : Hp} {d : Addr} {rows : List Row} (h : PartsA H d rows) (s : Same H H') : PartsA H' d rows := by
  obtain ⟨m, ms, es, h1, h2, h3, h4, h5⟩ := h
  exact ⟨m, ms, es, s _ _ h1, h2.same s, h3, h4, h5⟩
theorem Edge.take {rows : List Row} {i : Nat} {r : Row} (e : rows[i]? = some r) (k p : Str) : Edge (rows.take (i + 1)) k p ↔ Edge (rows.take i) k p ∨ (r.1 = k ∧ p ∈ keys r.2) := by
  have e2 : rows.take (i + 1) = rows.take i ++ [r] := by rw [List.take_add_one, e]; rfl
  unfold Edge
  rw [e2]
  constructor
  · rintro ⟨q, hq, h⟩
    rcases List.mem_append.mp hq with z | z
    · exact .inl ⟨q, z, h⟩
    · exact .inr (by rw [← List.mem_singleton.mp z]; exact h)
  · rintro (⟨q, hq, h⟩ | h)
    · exact ⟨q, List.mem_append_left _ hq, h⟩
    · exact ⟨r, List.mem_append_right _ (List.mem_singleton_self _), h⟩
end My
namespace My
open PySem L2
/-- p lies within k -/
inductive Rch (es : List (Str × Str)) (k : Str) : Str → Prop
  | one {p : Str} : (k, p) ∈ es → Rch es k p
  | step {h p : Str} : Rch es k h → (h, p) ∈ es → Rch es k p
theorem Rch.rank {es : List (Str × Str)} {f : Str → Nat} (hf : ∀ k p, (k, p) ∈ es → f k < f p) {k p : Str} (h : Rch es k p) : f k < f p := by
  induction h with
  | one h => exact hf _ _ h
  | step _ h ih => exact Nat.lt_trans ih (hf _ _ h)
end My
namespace My
open PySem L2
end My

/-! sets of tuples of texts, ints and such tuples: the keys -/
namespace My
open PySem L2
mutual
/-- data of texts, ints and tuples as a key -/
def nk : PyData → NestedKey
  | .int i => .num i
  | .str x => .text x
  | .tuple xs => .tup (nks xs)
  | _ => .none
def nks : List PyData → List NestedKey
  | [] => []
  | x :: r => nk x :: nks r
end
mutual
/-- ints, texts and tuples of such -/
def plD0 : PyData → Bool
  | .int _ => true
  | .str _ => true
  | .tuple xs => plD0s xs
  | _ => false
def plD0s : List PyData → Bool
  | [] => true
  | x :: r => plD0 x && plD0s r
end
mutual
theorem nk_inj : ∀ (a b : PyData), plD0 a = true → plD0 b = true → nk a = nk b → a = b
  | .int i, b, _, hb, e => by
    cases b with
    | int j => injection e with e; rw [e]
    | str _ => cases e
    | tuple _ => cases e
    | none => cases hb
    | bool _ => cases hb
    | list _ => cases hb
    | dict _ => cases hb
  | .str i, b, _, hb, e => by
    cases b with
    | str j => injection e with e; rw [e]
    | int _ => cases e
    | tuple _ => cases e
    | none => cases hb
    | bool _ => cases hb
    | list _ => cases hb
    | dict _ => cases hb
  | .tuple xs, b, ha, hb, e => by
    cases b with
    | tuple ys =>
      have e2 : nks xs = nks ys := by injection e
      rw [nks_inj xs ys ha hb e2]
    | int _ => cases e
    | str _ => cases e
    | none => cases hb
    | bool _ => cases hb
    | list _ => cases hb
    | dict _ => cases hb
  | .none, _, ha, _, _ => by cases ha
  | .bool _, _, ha, _, _ => by cases ha
  | .list _, _, ha, _, _ => by cases ha
  | .dict _, _, ha, _, _ => by cases ha
theorem nks_inj : ∀ (a b : List PyData), plD0s a = true → plD0s b = true → nks a = nks b → a = b
  | [], [], _, _, _ => rfl
  | [], _ :: _, _, _, e => by cases e
  | _ :: _, [], _, _, e => by cases e
  | x :: r, y :: s, ha, hb, e => by
    have h1 : plD0 x = true ∧ plD0s r = true := by rw [← Bool.and_eq_true]; exact ha
    have h2 : plD0 y = true ∧ plD0s s = true := by rw [← Bool.and_eq_true]; exact hb
    have e1 : nk x = nk y ∧ nks r = nks s := by
      injection e with e1 e2
      exact ⟨e1, e2⟩
    rw [nk_inj x y h1.1 h2.1 e1.1, nks_inj r s h1.2 h2.2 e1.2]
end
mutual
theorem nested_of {h : Heap} : ∀ (d : PyData) (v : Value) (as : List Addr), PySem.Reads h v d as → plD0 d = true → NestedIs h (nk d) v
  | .int _, _, _, r, _ => by cases r; exact .int _ _
  | .str _, _, _, r, _ => by cases r; exact .text _ _
  | .tuple xs, _, _, r, k => by
    cases r with
    | tuple h1 h2 h3 h4 => exact .tup h1 h2 h3 (nesteds_of xs _ _ h4 k)
  | .none, _, _, _, k => by cases k
  | .bool _, _, _, _, k => by cases k
  | .list _, _, _, _, k => by cases k
  | .dict _, _, _, _, k => by cases k
theorem nesteds_of {h : Heap} : ∀ (ds : List PyData) (vs : List Value) (as : List Addr), ReadsAll h vs ds as → plD0s ds = true → NestedAll h (nks ds) vs
  | [], _, _, r, _ => by cases r; exact .nil
  | d :: ds, _, _, r, k => by
    have h1 : plD0 d = true ∧ plD0s ds = true := by rw [← Bool.and_eq_true]; exact k
    cases r with
    | cons r1 r2 => exact .cons (nested_of d _ _ r1 h1.1) (nesteds_of ds _ _ r2 h1.2)
end
mutual
theorem nk_depth : ∀ d : PyData, (nk d).depth ≤ d.depth
  | .int _ => Nat.zero_le _
  | .str _ => Nat.zero_le _
  | .tuple xs => Nat.succ_le_succ (nks_depth xs)
  | .none => Nat.zero_le _
  | .bool _ => Nat.zero_le _
  | .list _ => Nat.zero_le _
  | .dict _ => Nat.zero_le _
theorem nks_depth : ∀ ds : List PyData, NestedKey.depthAll (nks ds) ≤ PyData.depthAll ds
  | [] => Nat.zero_le _
  | d :: ds => by
    have h1 := nk_depth d
    have h2 := nks_depth ds
    show max (NestedKey.depth (nk d)) (NestedKey.depthAll (nks ds)) ≤ max d.depth (PyData.depthAll ds)
    omega
end
theorem nested_mem {h : Heap} : ∀ {ks : List NestedKey} {vs : List Value}, NestedAll h ks vs → ∀ v ∈ vs, ∃ k, NestedIs h k v ∧ k.depth ≤ NestedKey.depthAll ks
  | [], _, r, v, hv => by cases r; cases hv
  | k :: ks, _, r, v, hv => by
    cases r with
    | cons r1 r2 =>
      show ∃ k', NestedIs h k' v ∧ k'.depth ≤ max (NestedKey.depth k) (NestedKey.depthAll ks)
      rcases List.mem_cons.mp hv with z | z
      · exact ⟨k, by rw [z]; exact r1, Nat.le_max_left _ _⟩
      · obtain ⟨k', h1, h2⟩ := nested_mem r2 v z
        exact ⟨k', h1, Nat.le_trans h2 (Nat.le_max_right _ _)⟩
section
variable {P : Program} {w : World} {A : Around} {E : Value → Shared → Prop}
/-- a loop of questions about items, each answered so that the loop goes on -/
theorem ask_items {s : Shared} {α : Type} {f : Value → Option α × Unit → Sem (ForInStep (Option α × Unit))} {vs : List Value} {Q : Option α × Unit → Shared → Prop}
    (hf : ∀ v ∈ vs, ∀ R : ForInStep (Option α × Unit) → Shared → Prop, R (.yield (none, ())) s → wpAny (model P w) A (f v (none, ())) R E s) (q : Q (none, ()) s) :
    wpAny (model P w) A (forIn vs ((none, ()) : Option α × Unit) f) Q E s := by
  induction vs with
  | nil => exact wpAny_pure q
  | cons v r ih =>
    rw [List.forIn_cons]
    refine wpAny_bind (hf v List.mem_cons_self _ ?_)
    exact ih fun x hx => hf x (List.mem_cons_of_mem _ hx)
theorem noCls : ∀ (n : Nat) (k : NestedKey) (v : Value) (s : Shared) (Q : Bool → Shared → Prop), NestedIs s.heap k v → k.depth ≤ n → Q false s → wpAny (model P w) A (ofAClassStatement n v) Q E s := by
  intro n
  induction n with
  | zero =>
    intro k v s Q hk hn q
    cases hk with
    | tup _ _ _ _ => exact absurd hn (Nat.not_succ_le_zero _)
    | _ => exact wpAny_pure q
  | succ n ih =>
    intro k v s Q hk hn q
    cases hk with
    | tup h1 h2 h3 h4 =>
      rename_i b o vs m ks
      have hT : s.TypeIs (.ref b) "tuple" := ⟨o, h1, h2⟩
      unfold ofAClassStatement
      refine wpAny_bind (wpAny_typeOf hT ?_)
      dsimp only
      have e0 : (("tuple" : String) == "tuple") = true := by decide
      simp only [e0, if_true]
      try refine wpAny_bind (wpAny_pure ?_)
      try simp only [Bool.not_true, Bool.false_eq_true, if_false]
      refine wpAny_bind (wpAny_seqItems h1 h3 ?_)
      dsimp only
      refine wpAny_bind ?_
      show wpAny _ _ (forIn vs _ _) _ _ s
      rw [← Array.forIn_toList]
      refine ask_items (Q := fun a s' => wpAny _ _ _ Q E s') (fun u hu R hR => ?_) ?_
      case refine_2 => exact wpAny_pure q
      obtain ⟨k', a1, a2⟩ := nested_mem h4 u hu
      have dn : NestedKey.depthAll ks + 1 ≤ n + 1 := hn
      refine wpAny_bind (ih k' u s _ a1 (by omega) ?_)
      simp only [Bool.false_eq_true, if_false]
      exact wpAny_pure hR
    | _ => exact wpAny_pure q
/-- whether hash() goes by value: some answer -/
theorem byVal : ∀ (n : Nat) (k : NestedKey) (v : Value) (s : Shared) (Q : Bool → Shared → Prop), NestedIs s.heap k v → k.depth ≤ n → (∀ b, Q b s) → wpAny (model P w) A (hashByValue n v) Q E s := by
  intro n
  induction n with
  | zero =>
    intro k v s Q hk hn q
    cases hk with
    | tup _ _ _ _ => exact absurd hn (Nat.not_succ_le_zero _)
    | _ => exact wpAny_pure (q _)
  | succ n ih =>
    intro k v s Q hk hn q
    cases hk with
    | tup h1 h2 h3 h4 =>
      rename_i b o vs m ks
      have hT : s.TypeIs (.ref b) "tuple" := ⟨o, h1, h2⟩
      unfold hashByValue
      refine wpAny_bind (wpAny_specialOf hT PySem.F.slot_tuple_hash.lookup ?_)
      refine wpAny_bind (wpAny_seqItems h1 h3 ?_)
      refine wpAny_bind ?_
      show wpAny _ _ (forIn vs _ _) _ _ s
      rw [← Array.forIn_toList]
      have dn : NestedKey.depthAll ks + 1 ≤ n + 1 := hn
      have key : ∀ us : List Value, (∀ u ∈ us, u ∈ vs.toList) → ∀ Q' : Option Bool × Unit → Shared → Prop, (∀ r, Q' r s) →
          wpAny (model P w) A (forIn us ((none, ()) : Option Bool × Unit) fun x __s => do
            let __do_lift ← hashByValue n x
            if (!__do_lift) = true then pure (ForInStep.done (some false, ())) else pure (ForInStep.yield (none, ()))) Q' E s := by
        intro us
        induction us with
        | nil => intro _ Q' q'; exact wpAny_pure (q' _)
        | cons u r ihr =>
          intro hus Q' q'
          obtain ⟨k', a1, a2⟩ := nested_mem h4 u (hus u List.mem_cons_self)
          rw [List.forIn_cons]
          refine wpAny_bind (wpAny_bind (ih k' u s _ a1 (by omega) fun c => ?_))
          cases c with
          | true => exact wpAny_pure (ihr (fun x hx => hus x (List.mem_cons_of_mem _ hx)) Q' q')
          | false => exact wpAny_pure (wpAny_pure (q' _))
      refine key vs.toList (fun _ z => z) _ fun r => ?_
      obtain ⟨r1, r2⟩ := r
      cases r1 with
      | none => exact wpAny_pure (q _)
      | some c => exact wpAny_pure (q _)
    | _ => exact wpAny_pure (q _)
end
end My

/-! sets of nested tuples: the search, adding -/
namespace My
open PySem L2
abbrev NL := List (Addr × NestedKey)
abbrev hsh (w : World) (k : NestedKey) : Int := NestedKey.hash w k
def IsK (h : Heap) (k : NestedKey) (b : Addr) : Prop := NestedIs h k (.ref b) ∧ k.depth ≤ 7
def rowsN (w : World) (L : NL) : List (Int × Value) := L.map fun p => (hsh w p.2, Value.ref p.1)
/-! tables whose slots are found again, of a mask of 7, 15, 31 or 127 -/
def MaskW (m : Nat) : Prop := MaskOk m ∨ m = 15 ∨ m = 63
theorem oddW {m : Nat} (h : MaskW m) : m % 2 = 1 := h.elim mask_odd fun e => by rcases e with e | e <;> rw [e]
theorem MaskW.le {m : Nat} (h : MaskW m) : m ≤ 127 := by
  rcases h with (e | e | e) | e | e <;> omega
theorem ringG {m : Nat} (hit : ∀ j : Fin (m + 1), ∃ b : Fin (m + 1), lcgN m b.1 = j.1) (rd : lcgN m (m + 1) = 0) {i j : Nat} (hi : i ≤ m) (hj : j ≤ m) : ∃ k, k ≤ m ∧ lcgI m i k = j := by
  have md : ∀ k, lcgN m (m + 1 + k) = lcgN m k := fun k => by
    induction k with
    | zero => exact rd
    | succ k ih => exact congrArg (fun z => (z * 5 + 1) % (m + 1)) ih
  obtain ⟨a, ha⟩ := hit ⟨i, Nat.lt_succ_of_le hi⟩
  obtain ⟨b, hb⟩ := hit ⟨j, Nat.lt_succ_of_le hj⟩
  have a1 := a.2
  have b1 := b.2
  dsimp only at ha hb
  subst ha
  by_cases c : a.1 ≤ b.1
  · exact ⟨b.1 - a.1, by omega, by rw [lcgN_add, show a.1 + (b.1 - a.1) = b.1 by omega, hb]⟩
  · exact ⟨b.1 + (m + 1) - a.1, by omega, by rw [lcgN_add, show a.1 + (b.1 + (m + 1) - a.1) = m + 1 + b.1 by omega, md, hb]⟩
theorem hit15 : ∀ j : Fin 16, ∃ b : Fin 16, lcgN 15 b.1 = j.1 := by decide +kernel
theorem hit63 : ∀ j : Fin 64, ∃ b : Fin 64, lcgN 63 b.1 = j.1 := by decide +kernel
theorem ringW {m : Nat} (hm : MaskW m) {i j : Nat} (hi : i ≤ m) (hj : j ≤ m) : ∃ k, k ≤ m ∧ lcgI m i k = j := by
  rcases hm with h | e | e
  · exact lcgI_all h hi hj
  · subst e
    exact ringG hit15 (by decide +kernel) hi hj
  · subst e
    exact ringG hit63 (by decide +kernel) hi hj
theorem meetsW {m : Nat} (hm : MaskW m) (h : Int) {j : Nat} (hj : j ≤ m) : ∃ c, c < 10 * SetTable.turns m ∧ way m h c = j := by
  obtain ⟨k, k1, k2⟩ := ringW hm (runI_le m (SetTable.bits h) 12) hj
  obtain ⟨c, c1, c2⟩ := run_nth m (SetTable.bits h) (12 + k)
  refine ⟨c, Nat.lt_of_le_of_lt c1 (by unfold SetTable.turns; omega), ?_⟩
  show (nth _ _ c).j = j
  rw [c2, runI_tail (bits_lt h), k2]
  rfl
structure TabW (t : SetTable) (hs : List Int) : Prop where
  ris : Ris t.place.toList
  dm : t.dummies = #[]
  sz : t.place.size = hs.length
  mok : MaskW t.mask
  reach : ∀ (i : Nat) (g : Int) (j : Nat), hs[i]? = some g → t.place.toList[i]? = some j → ∃ c, way t.mask g c = j ∧ ∀ d, d < c → way t.mask g d ∈ t.place.toList
section
variable {t : SetTable} {hs : List Int}
theorem TabW.first (T : TabW t hs) (few : hs.length ≤ t.mask) (g : Int) : ∃ K, K < 10 * SetTable.turns t.mask ∧ way t.mask g K ∉ t.place.toList ∧ ∀ c, c < K → way t.mask g c ∈ t.place.toList := by
  have sz := T.sz
  obtain ⟨j, j1, j2⟩ := st_missing t.place.toList (t.mask + 1) (by rw [Array.length_toList]; omega)
  obtain ⟨c, c1, c2⟩ := meetsW T.mok g (show j ≤ t.mask by omega)
  obtain ⟨K, k1, k2, k3⟩ := st_least (p := fun c => way t.mask g c ∉ t.place.toList) c (by show way t.mask g c ∉ _; rw [c2]; exact j2)
  exact ⟨K, Nat.lt_of_le_of_lt k1 c1, k2, fun d l => Classical.not_not.mp (k3 d l)⟩
theorem TabW.before (T : TabW t hs) {g : Int} {K i j : Nat} (hK : way t.mask g K ∉ t.place.toList) (hi : hs[i]? = some g) (hj : t.place.toList[i]? = some j) : ∃ c, c < K ∧ way t.mask g c = j := by
  obtain ⟨c, e, hb⟩ := T.reach i g j hi hj
  refine ⟨c, Nat.lt_of_not_le fun l => ?_, e⟩
  rcases Nat.eq_or_lt_of_le l with z | z
  · exact hK (by rw [z, e]; exact List.mem_of_getElem? hj)
  · exact hK (hb K z)
theorem TabW.put (T : TabW t hs) {g : Int} {K : Nat} (hK : way t.mask g K ∉ t.place.toList) (hb : ∀ c, c < K → way t.mask g c ∈ t.place.toList) {r : SetTable × Nat} (er : r = t.put (way t.mask g K)) :
    r.2 ≤ hs.length ∧ TabW r.1 (hs.take r.2 ++ g :: hs.drop r.2) ∧ r.1.mask = t.mask ∧ r.1.led = t.led ∧ r.1.fill = hs.length + 1 := by
  subst er
  obtain ⟨j, ej⟩ : ∃ j, way t.mask g K = j := ⟨_, rfl⟩
  rw [ej] at hK ⊢
  have pl := put_place t j
  have l1 : t.place.toList.length = hs.length := by rw [Array.length_toList]; exact T.sz
  have b1 : SetTable.below t.place j ≤ hs.length := by rw [← T.sz]; exact (below_cut T.ris j).1
  have nj : t.place[SetTable.below t.place j]? ≠ some j := fun e => hK (List.mem_of_getElem? ((Array.getElem?_toList ..).trans e))
  have z1 : (t.put j).1.place.size = hs.length + 1 := by
    rw [← Array.length_toList, pl, len_ins _ (by omega), l1]
  have up : ∀ x, x ∈ t.place.toList → x ∈ (t.put j).1.place.toList := fun x hx => by rw [pl]; exact mem_ins.2 (.inr hx)
  have d1 := put_dm T.dm j
  refine ⟨b1, ⟨ris_insert T.ris nj, d1, by rw [show (t.put j).2 = SetTable.below t.place j from rfl, len_ins _ b1]; exact z1, T.mok, fun i g' j' e1 e2 => ?_⟩, rfl, rfl, ?_⟩
  · rw [show (t.put j).2 = SetTable.below t.place j from rfl, tins_get hs b1] at e1
    rw [pl, tins_get _ (by omega)] at e2
    show ∃ c, way t.mask g' c = j' ∧ ∀ d, d < c → way t.mask g' d ∈ (t.put j).1.place.toList
    split at e1
    · rename_i c1
      rw [if_pos c1] at e2
      obtain ⟨c, a1, a2⟩ := T.reach i g' j' e1 e2
      exact ⟨c, a1, fun d l => up _ (a2 d l)⟩
    · rename_i c1
      rw [if_neg c1] at e2
      split at e1
      · rename_i c2
        rw [if_pos c2] at e2
        cases e1
        cases e2
        exact ⟨K, ej, fun d l => up _ (hb d l)⟩
      · rename_i c2
        rw [if_neg c2] at e2
        obtain ⟨c, a1, a2⟩ := T.reach (i - 1) g' j' e1 e2
        exact ⟨c, a1, fun d l => up _ (a2 d l)⟩
  · show (t.put j).1.place.size + (t.put j).1.dummies.size = _
    rw [z1, d1]
    rfl
end
structure SetNW (w : World) (h : Heap) (a : Addr) (L : NL) (es : Array (Int × Value)) (ep : Nat) (t : SetTable) : Prop where
  ob : ∃ o, h.get? a = some o ∧ o.ExactSet ∧ o.data = .set es ep t
  rows : es.toList = rowsN w L
  tab : TabW t (L.map fun p => hsh w p.2)
  nd : (L.map (·.2)).Nodup
  tup : ∀ p ∈ L, IsK h p.2 p.1
  led : w.params.followText "set-order" = true ∨ t.led = true
  room : L.length * 5 < t.mask * 3
  few : L.length < 64
structure SetNR (w : World) (h : Heap) (a : Addr) (L : NL) (es : Array (Int × Value)) (ep : Nat) (t : SetTable) : Prop extends SetNW w h a L es ep t where
  mko : MaskOk t.mask
section
variable {P : Program} {w : World} {A : Around} {E : Value → Shared → Prop} {s : Shared} {a : Addr} {L : NL} {es : Array (Int × Value)} {ep : Nat} {t : SetTable}
theorem rowsN_len (w : World) (L : NL) : (rowsN w L).length = L.length := by unfold rowsN; exact List.length_map ..
theorem SetNW.sz (R : SetNW w s.heap a L es ep t) : es.size = L.length := by
  rw [← rowsN_len w L, ← R.rows, Array.length_toList]
theorem SetNW.psz (R : SetNW w s.heap a L es ep t) : t.place.size = L.length := by
  have := R.tab.sz
  rwa [List.length_map] at this
theorem SetNW.fit (R : SetNW w s.heap a L es ep t) : t.fits es.size = true := by
  have e1 := R.psz
  have e2 := R.sz
  have e3 := R.room
  unfold SetTable.fits SetTable.fill
  rw [R.tab.dm, Bool.and_eq_true, beq_iff_eq, decide_eq_true_eq]
  exact ⟨by omega, show t.place.size + 0 ≤ t.mask by omega⟩
theorem SetNW.ent (R : SetNW w s.heap a L es ep t) {i : Nat} {p : Addr × NestedKey} (h : L[i]? = some p) : es[i]? = some (hsh w p.2, Value.ref p.1) := by
  have e : es.toList[i]? = some (hsh w p.2, Value.ref p.1) := by
    rw [R.rows]
    unfold rowsN
    rw [List.getElem?_map, h]
    rfl
  rwa [Array.getElem?_toList] at e
theorem SetNW.noGive (R : SetNW w s.heap a L es ep t) : ¬ t.gaveWay = true := by
  unfold SetTable.gaveWay
  rw [oddW R.tab.mok]
  decide
theorem nth_dummy (m : Nat) : ∀ (n : Nat) (p : SetTable.Probe), p.dummy = none → (nth m p n).dummy = none
  | 0, _, h => h
  | n + 1, p, h => nth_dummy m n (adv m p) (by unfold adv; split <;> exact h)
/-- asking == of two keys, of their classes, shows nothing -/
theorem noShow {k : NestedKey} {b : Addr} {Q : Bool → Shared → Prop} (hk : IsK s.heap k b) : ∀ {ys : List Value}, (∀ y ∈ ys, ∃ j c, y = Value.ref c ∧ IsK s.heap j c) → Q false s → wpAny (model P w) A (searchCouldBeSeen (.ref b) ys) Q E s := by
  intro ys hy q
  have dk := hk.2
  unfold searchCouldBeSeen
  refine wpAny_bind ?_
  refine ask_items (Q := fun r s' => wpAny _ _ _ Q E s') (fun y hm R hR => ?_) ?_
  case refine_2 => exact wpAny_pure q
  obtain ⟨j, c, rfl, hc⟩ := hy y hm
  have dj := hc.2
  dsimp only
  by_cases same : (b == c || (carriedByValue (.ref b) && carriedByValue (.ref c))) = true
  · exact wp_if_pos same (wpAny_pure hR)
  · refine wp_if_neg same ?_
    refine wpAny_bind (quiet_key k _ 8 s hk.1 (by omega) A E _ ?_)
    try simp only [Bool.not_true, Bool.false_eq_true, if_false]
    refine wpAny_bind (quiet_key j _ 8 s hc.1 (by omega) A E _ ?_)
    try simp only [Bool.not_true, Bool.false_eq_true, if_false]
    refine wpAny_bind (noCls 8 k _ s _ hk.1 (by omega) ?_)
    try simp only [Bool.false_eq_true, if_false]
    refine wpAny_bind (noCls 8 j _ s _ hc.1 (by omega) ?_)
    try simp only [Bool.false_eq_true, if_false]
    exact wpAny_pure hR
theorem eqKeys {j k : NestedKey} {b c : Addr} {Q : Bool → Shared → Prop} (hu : A.units + 8 < cLine) (hj : IsK s.heap j b) (hk : IsK s.heap k c) (q : Q (decide (j = k)) s) : wpAny (model P w) A (eqBool (.ref b) (.ref c)) Q E s :=
  (nestedKind P w).eqBool hu (show NestedIs s.heap j (.ref b) ∧ j.depth ≤ 8 from ⟨hj.1, by have := hj.2; omega⟩) (show NestedIs s.heap k (.ref c) ∧ k.depth ≤ 8 from ⟨hk.1, by have := hk.2; omega⟩) q
/-- what comes first on the way from the c-th step on -/
theorem met_from (R : SetNW w s.heap a L es ep t) {k : NestedKey} {K c : Nat} (hKf : K < 10 * SetTable.turns t.mask) (hK : way t.mask (hsh w k) K ∉ t.place.toList) (hKb : ∀ c, c < K → way t.mask (hsh w k) c ∈ t.place.toList) (hc : c ≤ K) {st : SetTable.Probe}
    (hst : st = nth t.mask (runAt t.mask (SetTable.bits (hsh w k) % (t.mask + 1)) (SetTable.bits (hsh w k))) c)
    (hre : ∀ (i : Nat) p, L[i]? = some p → p.2 = k → ∃ c', c ≤ c' ∧ c' < K ∧ t.place.toList[i]? = some (way t.mask (hsh w k) c')) :
    (∃ q i p, c + q < K ∧ L[i]? = some p ∧ t.slot (way t.mask (hsh w k) (c + q)) = .live i ∧ (p.2 ≠ k → ∀ (i0 : Nat) p0, L[i0]? = some p0 → p0.2 = k → ∃ c', c + (q + 1) ≤ c' ∧ c' < K ∧ t.place.toList[i0]? = some (way t.mask (hsh w k) c')) ∧
      t.probe (fun i => (es[i]?.map (·.1)).getD 0) (hsh w k) st = some (.candidate (way t.mask (hsh w k) (c + q)) i (nth t.mask (runAt t.mask (SetTable.bits (hsh w k) % (t.mask + 1)) (SetTable.bits (hsh w k))) (c + (q + 1))))) ∨
    (k ∉ L.map (·.2) ∧ t.probe (fun i => (es[i]?.map (·.1)).getD 0) (hsh w k) st = some (.empty (way t.mask (hsh w k) K) none)) := by
  subst hst
  obtain ⟨r0, hr0⟩ : ∃ r0, r0 = runAt t.mask (SetTable.bits (hsh w k) % (t.mask + 1)) (SetTable.bits (hsh w k)) := ⟨_, rfl⟩
  have wj : ∀ q, (nth t.mask (nth t.mask r0 c) q).j = way t.mask (hsh w k) (c + q) := fun q => by rw [← nth_add, hr0]
  have hh : ∀ (i : Nat) p, L[i]? = some p → (fun i => (es[i]?.map (·.1)).getD 0) i = hsh w p.2 := fun i p hp => by
    show (es[i]?.map (·.1)).getD 0 = _
    rw [R.ent hp]
    rfl
  have sp := go_spec t R.tab.ris R.tab.dm (fun i => (es[i]?.map (·.1)).getD 0) (hsh w k) (10 * SetTable.turns t.mask) (K - c) (nth t.mask r0 c) (nth_dummy _ c _ (by rw [hr0]; rfl)) (by omega)
    (fun q hq => by rw [wj]; exact hKb _ (by omega)) (by rw [wj, Nat.add_sub_cancel' hc]; exact hK)
  rw [← hr0]
  rcases sp with ⟨q, i, hq, hi, hhi, hno, hpr⟩ | ⟨hno, hpr⟩
  · left
    rw [wj] at hi hpr
    have hil : i < L.length := by
      have h1 : i < t.place.toList.length := (List.getElem?_eq_some_iff.mp hi).1
      rw [Array.length_toList, R.psz] at h1
      exact h1
    refine ⟨q, i, L[i], by omega, List.getElem?_eq_getElem hil, slot_live R.tab.ris hi, fun nk i0 p0 h0 hk0 => ?_, ?_⟩
    · obtain ⟨c', a1, a2, a3⟩ := hre i0 p0 h0 hk0
      refine ⟨c', ?_, a2, a3⟩
      rcases Nat.lt_trichotomy c' (c + q) with z | z | z
      · exact absurd ((hh i0 p0 h0).trans (congrArg (hsh w) hk0)) (hno (c' - c) i0 (by omega) (by rw [wj, Nat.add_sub_cancel' a1]; exact a3))
      · exfalso
        rw [z] at a3
        have e1 := slot_live R.tab.ris a3
        rw [slot_live R.tab.ris hi] at e1
        injection e1 with e1
        rw [← e1, List.getElem?_eq_getElem hil] at h0
        exact nk (by rw [Option.some.inj h0]; exact hk0)
      · omega
    · rw [← nth_add] at hpr
      exact hpr
  · right
    refine ⟨fun hm => ?_, ?_⟩
    · obtain ⟨p0, hp0, hk0⟩ := List.mem_map.mp hm
      obtain ⟨i0, hi0⟩ := List.mem_iff_getElem?.mp hp0
      obtain ⟨c', a1, a2, a3⟩ := hre i0 p0 hi0 hk0
      exact hno (c' - c) i0 (by omega) (by rw [wj, Nat.add_sub_cancel' a1]; exact a3) ((hh i0 p0 hi0).trans (congrArg (hsh w) hk0))
    · rw [wj, Nat.add_sub_cancel' hc] at hpr
      exact hpr
theorem seek (R : SetNW w s.heap a L es ep t) {x : Addr} {k : NestedKey} (hx : IsK s.heap k x) (hu : A.units + 8 < cLine) {K : Nat} (hKf : K < 10 * SetTable.turns t.mask)
    (hK : way t.mask (hsh w k) K ∉ t.place.toList) (hKb : ∀ c, c < K → way t.mask (hsh w k) c ∈ t.place.toList) {Q : SetFound → Shared → Prop} (yes : k ∈ L.map (·.2) → Q (.there none) s) (no : k ∉ L.map (·.2) → Q (.free (way t.mask (hsh w k) K) false) s) :
    ∀ (f c : Nat) (stand : Option SetTable.Probe), stand.getD (t.probeStart (hsh w k)) = nth t.mask (runAt t.mask (SetTable.bits (hsh w k) % (t.mask + 1)) (SetTable.bits (hsh w k))) c → c ≤ K → K - c < f →
      (∀ (i : Nat) p, L[i]? = some p → p.2 = k → ∃ c', c ≤ c' ∧ c' < K ∧ t.place.toList[i]? = some (way t.mask (hsh w k) c')) → wpAny (model P w) A (setSearchFrom a (.ref x) (hsh w k) true f stand) Q E s := by
  intro f
  induction f with
  | zero => intro c stand _ _ h; omega
  | succ f ih =>
    intro c stand hst hc hf hre
    obtain ⟨o, ho, _, hd⟩ := R.ob
    rw [setSearchFrom_succ]
    refine wpAny_bind (wpAny_setState_of ho hd R.fit ?_)
    dsimp only
    refine wp_if_neg R.noGive ?_
    try refine wpAny_bind (wpAny_pure ?_)
    rcases met_from R hKf hK hKb hc hst hre with ⟨q, i, p, hq, hp, hsl, more, hpr⟩ | ⟨hm, hpr⟩
    · rw [hpr]
      dsimp only
      have pk := R.tup p (List.mem_of_getElem? hp)
      have rest : wpAny (model P w) A (searchRest a (.ref x) (hsh w k) true f es t (way t.mask (hsh w k) (c + q)) i (nth t.mask (runAt t.mask (SetTable.bits (hsh w k) % (t.mask + 1)) (SetTable.bits (hsh w k))) (c + (q + 1)))) Q E s := by
        unfold searchRest
        rw [R.ent hp]
        dsimp only
        refine wpAny_bind (wpAny_holding (eqKeys hu pk hx ?_))
        refine wpAny_bind (wpAny_setState_of ho hd R.fit ?_)
        dsimp only
        by_cases ek : p.2 = k
        · exact wp_if_pos (by simp [ek]) (wpAny_pure (yes (List.mem_map.mpr ⟨p, List.mem_of_getElem? hp, ek⟩)))
        · refine wp_if_neg (by simp [ek]) ?_
          try refine wpAny_bind (wpAny_pure ?_)
          rw [sameMem]
          dsimp only
          simp only [if_true, hsl, R.ent hp]
          refine wpAny_bind (wpAny_isSame_ref_self (wpAny_bind (wpAny_pure ?_)))
          simp only [if_true]
          exact wp_if_neg (by simp [ek]) (ih (c + (q + 1)) _ rfl (by omega) (by omega) (more ek))
      by_cases hl : t.led = true
      · refine wp_if_neg (by simp [hl]) ?_
        try refine wpAny_bind (wpAny_pure ?_)
        exact rest
      · refine wp_if_pos (by simp [hl]) ?_
        refine wpAny_bind (noShow hx (fun y hy => ?_) ?_)
        · obtain ⟨e, he, ee⟩ := List.mem_map.mp hy
          have he1 : e ∈ es.toList := by simpa using (show e ∈ es ∧ e.1 = hsh w k by simpa using he).1
          rw [R.rows] at he1
          obtain ⟨p2, hp2, e2⟩ := List.mem_map.mp he1
          exact ⟨p2.2, p2.1, by rw [← ee, ← e2], R.tup p2 hp2⟩
        · refine wp_if_neg (by decide) ?_
          try refine wpAny_bind (wpAny_pure ?_)
          exact rest
    · rw [hpr]
      dsimp only
      exact wpAny_pure (no hm)
/-- the search that adding makes -/
theorem seek_add (R : SetNW w s.heap a L es ep t) {x : Addr} {k : NestedKey} (hx : IsK s.heap k x) (hu : A.units + 8 < cLine) {Q : SetFound → Shared → Prop} (yes : k ∈ L.map (·.2) → Q (.there none) s)
    (no : ∀ K, k ∉ L.map (·.2) → way t.mask (hsh w k) K ∉ t.place.toList → (∀ c, c < K → way t.mask (hsh w k) c ∈ t.place.toList) → Q (.free (way t.mask (hsh w k) K) false) s) : wpAny (model P w) A (setSearch a (.ref x) (hsh w k) true) Q E s := by
  have room := R.room
  obtain ⟨K, hKf, hK, hKb⟩ := R.tab.first (by rw [List.length_map]; omega) (hsh w k)
  have lim : K < 100000 := by
    have b1 : SetTable.turns t.mask ≤ 142 := by
      have := R.tab.mok.le
      unfold SetTable.turns
      omega
    omega
  unfold setSearch
  refine seek R hx hu hKf hK hKb yes (fun hn => no K hn hK hKb) 100000 0 none rfl (Nat.zero_le _) (by omega) fun i p hp hk => ?_
  have hi : (L.map fun p => hsh w p.2)[i]? = some (hsh w k) := by rw [List.getElem?_map, hp, ← hk]; rfl
  have hil : i < t.place.toList.length := by
    rw [Array.length_toList, R.psz]
    exact (List.getElem?_eq_some_iff.mp hp).1
  obtain ⟨c, hc, e⟩ := R.tab.before hK hi (List.getElem?_eq_getElem hil)
  exact ⟨c, Nat.zero_le _, hc, by rw [e, List.getElem?_eq_getElem hil]⟩
end
end My

/-! sets of nested tuples: laid anew, one put in -/
namespace My
open PySem L2
section
variable {P : Program} {w : World} {A : Around} {E : Value → Shared → Prop} {s : Shared} {a : Addr} {L : NL} {es : Array (Int × Value)} {ep : Nat} {t : SetTable}
theorem IsK.stay {h h' : Heap} {k : NestedKey} {a b : Addr} {o : Obj} {es : Array (Int × Value)} {ep : Nat} {t : SetTable} (hb : IsK h k b) (ho : h.get? a = some o) (hd : o.data = .set es ep t) (hs : Heap.SameBut a h h') : IsK h' k b :=
  ⟨NestedIs.at (fun c oc vs n hc hv => by
    refine (hs.2 c fun e => ?_).trans hc
    rw [e, ho] at hc
    cases hc
    rw [hd] at hv
    cases hv) k _ hb.1, hb.2⟩
theorem IsK.keep {h h' : Heap} {k : NestedKey} {b : Addr} (x : IsK h k b) (hk : ∀ c o, h.get? c = some o → h'.get? c = some o) : IsK h' k b := ⟨NestedIs.at (fun c o _ _ e _ => hk c o e) k _ x.1, x.2⟩
end
end My

/-! set(xs), xs a list of nested tuples; sorted of such a set -/
namespace My
open PySem L2
/-- what of ks stands in the set behind i turns -/
structure GotN (ks : NL) (i : Nat) (L : NL) : Prop where
  sub : ∀ p ∈ L, p ∈ ks.take i
  all : ∀ p ∈ ks.take i, p.2 ∈ L.map (·.2)
  len : L.length ≤ i
theorem GotN.zero (ks : NL) : GotN ks 0 [] := ⟨fun _ h => (nomatch h), fun p h => (by rw [List.take_zero] at h; cases h), Nat.le_refl _⟩
theorem GotN.next {ks L L' : NL} {i : Nat} {x : Addr × NestedKey} (g : GotN ks i L) (h : ks[i]? = some x) (c1 : x.2 ∈ L.map (·.2) → L' = L) (c2 : x.2 ∉ L.map (·.2) → L'.Perm ((x.1, x.2) :: L)) : GotN ks (i + 1) L' := by
  have e : ks.take (i + 1) = ks.take i ++ [x] := by rw [List.take_add_one, h]; rfl
  by_cases c : x.2 ∈ L.map (·.2)
  · rw [c1 c]
    refine ⟨fun p hp => by rw [e]; exact List.mem_append_left _ (g.sub p hp), fun p hp => ?_, Nat.le_succ_of_le g.len⟩
    rw [e] at hp
    exact (List.mem_append.mp hp).elim (g.all p) fun z => by rw [List.mem_singleton.mp z]; exact c
  · have pm := c2 c
    refine ⟨fun p hp => ?_, fun p hp => ?_, by rw [pm.length_eq, List.length_cons]; exact Nat.succ_le_succ g.len⟩
    · rw [e]
      exact (List.mem_cons.mp (pm.mem_iff.mp hp)).elim (fun z => List.mem_append_right _ (List.mem_singleton.mpr z)) fun z => List.mem_append_left _ (g.sub p z)
    · rw [(pm.map (·.2)).mem_iff, List.map_cons]
      rw [e] at hp
      exact (List.mem_append.mp hp).elim (fun z => List.mem_cons_of_mem _ (g.all p z)) fun z => by rw [List.mem_singleton.mp z]; exact List.mem_cons_self
theorem SetNR.mv {w : World} {h h' : Heap} {a : Addr} {L : NL} {es : Array (Int × Value)} {ep : Nat} {t : SetTable} (R : SetNR w h a L es ep t) (ha : ∀ o, h.get? a = some o → h'.get? a = some o) (ht : ∀ p ∈ L, IsK h' p.2 p.1) : SetNR w h' a L es ep t := by
  obtain ⟨o, ho, r⟩ := R.ob
  exact ⟨⟨⟨o, ha o ho, r⟩, R.rows, R.tab, R.nd, ht, R.led, R.room, R.few⟩, R.mko⟩
abbrev newSet (w : World) : Obj := { cls := .type "set", dict := none, data := .set #[] 0 (.fresh 0 0 (!w.params.followText "set-order")) }
theorem SetNR.new {w : World} {h : Heap} {a : Addr} (ho : h.get? a = some (newSet w)) : SetNR w h a [] #[] 0 (.fresh 0 0 (!w.params.followText "set-order")) where
  ob := ⟨_, ho, ⟨rfl, rfl, rfl⟩, rfl⟩
  rows := rfl
  tab := ⟨List.Pairwise.nil, rfl, rfl, .inl (.inl rfl), fun i h j hi => (by rw [List.map_nil, List.getElem?_nil] at hi; cases hi)⟩
  nd := List.nodup_nil
  tup := fun _ hp => nomatch hp
  led := by
    show _ ∨ (!w.params.followText "set-order") = true
    cases w.params.followText "set-order"
    · exact .inr rfl
    · exact .inl rfl
  room := show 0 * 5 < 7 * 3 by decide
  few := show 0 < 64 by decide
  mko := .inl rfl
section
open PySem.Spec PyProof.Rows
variable {P : Program} {w : World} {A : Around} {E : Value → Shared → Prop} {s : Shared}
end
end My

/-! set(xs) of nested tuples and sorted of it, as rules -/
namespace My
open PySem L2
abbrev DL := List (Addr × PyData)
def nkL (L : DL) : NL := L.map fun p => (p.1, nk p.2)
theorem perm_lift {α β : Type} {f : α → β} {vs us : List β} (p : vs.Perm us) : ∀ {L : List α}, us = L.map f → ∃ bs : List α, bs.Perm L ∧ vs = bs.map f := by
  induction p with
  | nil =>
    intro L e
    exact ⟨L, .refl _, e⟩
  | cons x _ ih =>
    intro L e
    match L, e with
    | k :: r, e =>
      rw [List.map_cons] at e
      injection e with e1 e2
      obtain ⟨bs, pb, eb⟩ := ih e2
      exact ⟨k :: bs, pb.cons k, by rw [List.map_cons, ← eb, e1]⟩
  | swap x y l =>
    intro L e
    match L, e with
    | k :: j :: r, e =>
      rw [List.map_cons, List.map_cons] at e
      injection e with e1 e
      injection e with e2 e3
      exact ⟨j :: k :: r, .swap k j r, by rw [List.map_cons, List.map_cons, ← e1, ← e2, ← e3]⟩
  | trans _ _ i1 i2 =>
    intro L e
    obtain ⟨b1, p1, e1⟩ := i2 e
    obtain ⟨b2, p2, e2⟩ := i1 e1
    exact ⟨b2, p2.trans p1, e2⟩
/-- the set at a of the keys, without the tuples themselves -/
structure SetN0 (w : World) (h : Heap) (a : Addr) (L : NL) : Prop where
  ex : ∃ (es : Array (Int × Value)) (ep : Nat) (t : SetTable), (∃ o, h.get? a = some o ∧ o.ExactSet ∧ o.data = .set es ep t) ∧ es.toList = rowsN w L ∧ TabW t (L.map fun p => hsh w p.2) ∧ (L.map (·.2)).Nodup ∧ (w.params.followText "set-order" = true ∨ t.led = true) ∧ L.length * 5 < t.mask * 3 ∧ L.length < 64
def SetNO (w : World) (a : Addr) (L : DL) : HO := .ext fun h => SetN0 w h a (nkL L)
theorem SetNW.n0 {w : World} {h : Heap} {a : Addr} {L : NL} {es : Array (Int × Value)} {ep : Nat} {t : SetTable} (R : SetNW w h a L es ep t) : SetN0 w h a L := ⟨es, ep, t, R.ob, R.rows, R.tab, R.nd, R.led, R.room, R.few⟩
theorem setNO_new {P : Program} {w : World} {H : Hp} {h : Heap} {a : Addr} {L : DL} (R : SetN0 w h a (nkL L)) : ObjOk P w H h a (SetNO w a L) := by
  obtain ⟨es, ep, t, ⟨o, ho, r⟩, q⟩ := id R.ex
  refine ⟨R, ⟨o, ho⟩, fun h1 h2 p k => ?_⟩
  obtain ⟨es', ep', t', ⟨o', ho', r'⟩, q'⟩ := SetN0.ex p
  exact ⟨es', ep', t', ⟨o', k o' ho', r'⟩, q'⟩
/-- data that set() of tuples carries -/
structure KeyD (K : PySem.W.Frag) (H : Hp) (p : Addr × PyData) : Prop where
  dp : Dp K H (.ref p.1) p.2
  pl : plD0 p.2 = true
  dt : p.2.depth ≤ 7
section
variable {X : Cx}
theorem KeyD.isK {pins : List (Addr × Obj)} {σ : L2.St} {H : Hp} {s : Shared} {p : Addr × PyData} (I : Inv X pins σ H s) (h : KeyD X.K H p) : IsK s.heap (nk p.2) p.1 := by
  obtain ⟨as, r⟩ := Dp.reads I p.2 (.ref p.1) (.ref p.1) h.dp rfl
  exact ⟨nested_of p.2 _ as r h.pl, Nat.le_trans (nk_depth p.2) h.dt⟩
end
section
open PySem.Spec
variable {P : Program} {w : World} {A : Around} {E : Value → Shared → Prop} {s : Shared}
/-- what sorted leaves: ascending by Python's order of data -/
abbrev Asc (L : DL) : Prop := L.Pairwise fun x y => PySem.W.dataLt y.2 x.2 = false
theorem each_ref : ∀ bs : DL, PySem.W.EachIs (fun (v : Value) (b : Addr × PyData) => v = .ref b.1) (bs.map fun p => Value.ref p.1) bs
  | [] => .nil
  | _ :: r => .cons rfl (each_ref r)
theorem ref_each : ∀ {vs : List Value} {bs : DL}, PySem.W.EachIs (fun (v : Value) (b : Addr × PyData) => v = .ref b.1) vs bs → vs = bs.map fun p => Value.ref p.1
  | _, _, .nil => rfl
  | _, _, .cons h t => by rw [h, ref_each t]; rfl
theorem each_of_all {R : Value → Addr × PyData → Prop} : ∀ bs : DL, (∀ b ∈ bs, R (.ref b.1) b) → PySem.W.EachIs R (bs.map fun p => Value.ref p.1) bs
  | [], _ => .nil
  | b :: r, h => .cons (h b List.mem_cons_self) (each_of_all r fun x hx => h x (List.mem_cons_of_mem _ hx))
theorem asc_sort (bs : DL) : Asc (bs.mergeSort (PySem.W.dataLe false fun p : Addr × PyData => p.2)) := by
  have h := PySem.W.sort_pairwise (PySem.W.sortLe_total (PyProof.Rows.listOrd PyProof.Rows.itemOrd) false fun p : Addr × PyData => PySem.W.keyToks p.2) bs
  refine h.imp fun {x y} z => ?_
  replace z : (!PyProof.Rows.lexLt PyProof.Rows.itemOrd (PySem.W.keyToks y.2) (PySem.W.keyToks x.2)) = true := z
  show PyProof.Rows.lexLt PyProof.Rows.itemOrd (PySem.W.keyToks y.2) (PySem.W.keyToks x.2) = false
  simpa using z
theorem sorted_setN {a : Addr} {L : DL} {Q : Value → Shared → Prop} (R : SetN0 w s.heap a (nkL L)) (hh : A.handled = none) (hr : ∀ p ∈ L, ∃ as, PySem.Reads s.heap (.ref p.1) p.2 as) (hal : PySem.W.AllAlike (L.map (·.2))) (hs : PySem.W.Sortable (L.map (·.2))) (hd_ : ∀ p ∈ L, p.2.depth ≤ 7) (hu : A.units + 16 < cLine)
    (q : ∀ (s' : Shared) (p : Nat) (out : Array Value) (c : Nat) (L' : DL), (∀ (b : Addr) (o : Obj), s.heap.get? b = some o → s'.heap.get? b = some o) → s'.gens = s.gens → s'.os = s.os → s.heap.objs.size ≤ p → s'.heap.get? p = some (PyProof.Rows.seqObj "list" out c) →
      out.toList = L'.map (fun r => Value.ref r.1) → L'.Perm L → Asc L' → Q (.ref p) s') : wpAny (model P w) A (call (Value.builtin "sorted") [.ref a]) Q E s := by
  obtain ⟨es, ep, t, ⟨o, ho, hex, hdt⟩, rows, tab, nd, led, room, few⟩ := R.ex
  have z1 : es.size = L.length := by
    rw [← Array.length_toList, rows, rowsN_len]
    exact List.length_map ..
  have few' : L.length < 64 := by
    unfold nkL at few
    rwa [List.length_map] at few
  have psz := tab.sz
  unfold nkL at psz room
  rw [List.length_map, List.length_map] at psz
  rw [List.length_map] at room
  have hf : t.fits es.size = true := by
    unfold SetTable.fits SetTable.fill
    rw [tab.dm, Bool.and_eq_true, beq_iff_eq, decide_eq_true_eq]
    exact ⟨by omega, show t.place.size + 0 ≤ t.mask by omega⟩
  refine Calls.call_function_entry PyProof.Rows.kind_sorted PyProof.Rows.plain_sorted PyProof.Rows.entry_sorted (PyProof.Rows.args_sorted1 (Value.ref a)) ?_
  refine wpAny_bind (wpAny_pure ?_)
  refine wpAny_bind (collect_set hh ⟨o, ho, hex.1, hdt⟩ hf (by unfold scanBound; omega) tab.ris led fun s1 vs k1 hz g1 o1 pm => ?_)
  have e1 : es.toList.map (·.2) = L.map fun r => Value.ref r.1 := by
    rw [rows]
    unfold rowsN nkL
    rw [List.map_map, List.map_map]
    rfl
  obtain ⟨bs, pb, eb⟩ := perm_lift pm e1
  have lb : vs.length = L.length := by rw [eb, List.length_map, pb.length_eq]
  have hsl : vs.length ≤ sizeLine := sz (by omega)
  refine wpAny_bind (wpAny_newList ?_ hsl)
  have hoL := Heap.get?_push_size s1.heap (o := PyProof.Rows.seqObj "list" vs.toArray 0) rfl
  have mem : ∀ b ∈ bs, b ∈ L := fun b hb => pb.mem_iff.mp hb
  have ltb : ∀ (b : Addr) (o : Obj), s.heap.get? b = some o → b ≠ s1.heap.objs.size := fun b o e => Nat.ne_of_lt (Heap.lt_size (k1 b o e))
  have er : PySem.W.EachIs (fun (v : Value) (b : Addr × PyData) => ∃ as, PySem.Reads (PySem.W.sortingHeap (s1.heap.push (PyProof.Rows.seqObj "list" vs.toArray 0)) s1.heap.objs.size vs) v b.2 as) vs bs := by
    rw [eb]
    refine each_of_all bs fun b hb => ?_
    obtain ⟨as, r⟩ := hr b (mem b hb)
    exact ⟨as, PyProof.Rows.Reads.keeps (fun c oc e => PySem.W.sortingHeap_old (ltb c oc e) (Heap.get?_push_of_some _ (k1 c oc e))) r⟩
  have hal' : PySem.W.AllAlike (bs.map (·.2)) := fun d hd d' hd' => hal d ((pb.map _).mem_iff.mp hd) d' ((pb.map _).mem_iff.mp hd')
  have hs' : PySem.W.Sortable (bs.map (·.2)) := hs.elim (fun z => .inl fun d hd => z d ((pb.map _).mem_iff.mp hd)) fun z => .inr fun d hd => z d ((pb.map _).mem_iff.mp hd)
  have S : PySem.W.SortsAt P w A.in1.in1 { s1 with heap := PySem.W.sortingHeap (s1.heap.push (PyProof.Rows.seqObj "list" vs.toArray 0)) s1.heap.objs.size vs } (PySem.W.dataKind (PySem.W.sortingHeap (s1.heap.push (PyProof.Rows.seqObj "list" vs.toArray 0)) s1.heap.objs.size vs) (bs.map (·.2))) vs :=
    PySem.W.SortsAt.data (PySem.W.each_map (R := fun v d => ∃ as, PySem.Reads (PySem.W.sortingHeap (s1.heap.push (PyProof.Rows.seqObj "list" vs.toArray 0)) s1.heap.objs.size vs) v d as) (fun b : Addr × PyData => b.2) er) hal' hs' fun d hd => by
      obtain ⟨b, hb, rfl⟩ := List.mem_map.mp hd
      have := hd_ b (mem b hb)
      simp only [Around.in1_units]
      omega
  have eo := PySem.W.sortVals_data (enc := fun b : Addr × PyData => b.2) false (by rw [eb]; exact each_ref bs) er hal'
  refine wpAny_bind (wpAny_holding (wpAny_call_entry (rest := []) PyProof.Rows.slot_list_sort ⟨_, hoL, rfl⟩ PyProof.Rows.entry_list_sort (PySem.W.list_sort_vals (s := { s1 with heap := s1.heap.push (PyProof.Rows.seqObj "list" vs.toArray 0) }) hoL S hsl ?_) (PyProof.Rows.args_list_sort _)))
  obtain ⟨c, hc⟩ := PyProof.Rows.sortedHeap_at (out := (PySem.W.sortVals (PySem.W.dataKind (PySem.W.sortingHeap (s1.heap.push (PyProof.Rows.seqObj "list" vs.toArray 0)) s1.heap.objs.size vs) (bs.map (·.2))) false vs vs).toArray) hoL
  refine ⟨_, rfl, ?_⟩
  refine wpAny_pure ⟨_, rfl, ?_⟩
  refine q _ s1.heap.objs.size _ c (bs.mergeSort (PySem.W.dataLe false fun p : Addr × PyData => p.2)) (fun b u e => ?_) g1 o1 hz hc (by rw [List.toList_toArray]; exact ref_each eo) ((List.mergeSort_perm _ _).trans pb) (asc_sort bs)
  have h1 := k1 b u e
  have lt := Heap.lt_size h1
  show (PyProof.Rows.sortedHeap _ _ _ _).get? b = some u
  rw [PyProof.Rows.sortedHeap_old (Nat.ne_of_lt lt) (by rw [PyProof.Rows.size_push']; exact Nat.lt_succ_of_lt lt)]
  exact Heap.get?_push_of_some _ h1
end
section
variable {X : Cx}
def rSortedN (K : PySem.W.Frag) (w : World) : List V → Hp → VK → Prop := fun xs H Q => ∃ (a : Addr) (L : DL), xs = [V.ref a] ∧ H a = some (SetNO w a L) ∧ (∀ p ∈ L, KeyD K H p) ∧ L.length < 64 ∧ PySem.W.AllAlike (L.map (·.2)) ∧ PySem.W.Sortable (L.map (·.2)) ∧
  ∀ (L' : DL) (p : Addr), L'.Perm L → Asc L' → H p = none → Q (.ref p) (upd H p (.lst (L'.map fun r => V.ref r.1)))
theorem vals_refs : ∀ L : DL, Vals (L.map fun r => V.ref r.1) (L.map fun r => Value.ref r.1)
  | [] => .nil
  | _ :: r => .cons rfl (vals_refs r)
theorem cr_sortedN (hc : X.calm = true) (hu : X.A.units + 64 < cLine) : CallR X (.builtin "sorted") (rSortedN X.K X.w) := by
  intro pins s σ H xs us Q I r h
  obtain ⟨a, L, rfl, ha, hk, hf, hal, hs, q⟩ := h
  rw [Vals.ref1 r]
  have R : SetN0 X.w s.heap a (nkL L) := (I.hok a _ ha).1
  refine sorted_setN R (I.ok.hd hc) (fun p hp => Dp.reads I p.2 (.ref p.1) (.ref p.1) (hk p hp).dp rfl) hal hs (fun p hp => (hk p hp).dt) (by omega) fun s' p out c L' k g o hp hg hout pm as => ?_
  have hnp := HOk.fresh I.hok hp
  have hlen : (L'.map fun r => V.ref r.1).length ≤ sizeLine := by
    rw [List.length_map, pm.length_eq]
    exact sz (by omega)
  have J : Inv X pins σ (upd H p (.lst (L'.map fun r => V.ref r.1))) { heap := s'.heap, gens := s'.gens, drawn := s'.drawn, toks := s'.toks, os := s.os } :=
    Inv.call (ch := []) I (Un.laid k hp hnp) (HOk.laid I.hok k hp ⟨hlen, out.toList, c, by rw [hout]; exact vals_refs L', hg⟩) (by rw [g]; exact I.bare) fun x z => by cases z
  have e : s' = { heap := s'.heap, gens := s'.gens, drawn := s'.drawn, toks := s'.toks, os := s.os } := by rw [← o]
  rw [e]
  exact ⟨.ref p, _, J, rfl, q L' p pm as hnp⟩
end
end My

/-! rows as data: their order -/
namespace My
open PySem L2
mutual
theorem eqv_plain : ∀ (a b : PyData), plD0 a = true → plD0 b = true → a.eqv b = true → a = b
  | .int i, b, _, hb, e => by
    cases b with
    | int j => rw [eq_of_beq (show (i == j) = true from e)]
    | str _ => cases e
    | tuple _ => cases e
    | none => cases hb
    | bool _ => cases hb
    | list _ => cases hb
    | dict _ => cases hb
  | .str i, b, _, hb, e => by
    cases b with
    | str j => rw [eq_of_beq (show (i == j) = true from e)]
    | int _ => cases e
    | tuple _ => cases e
    | none => cases hb
    | bool _ => cases hb
    | list _ => cases hb
    | dict _ => cases hb
  | .tuple xs, b, ha, hb, e => by
    cases b with
    | tuple ys => rw [eqv_plains xs ys ha hb e]
    | int _ => cases e
    | str _ => cases e
    | none => cases hb
    | bool _ => cases hb
    | list _ => cases hb
    | dict _ => cases hb
  | .none, _, ha, _, _ => by cases ha
  | .bool _, _, ha, _, _ => by cases ha
  | .list _, _, ha, _, _ => by cases ha
  | .dict _, _, ha, _, _ => by cases ha
theorem eqv_plains : ∀ (a b : List PyData), plD0s a = true → plD0s b = true → PyData.eqvAll a b = true → a = b
  | [], [], _, _, _ => rfl
  | [], _ :: _, _, _, e => by cases e
  | _ :: _, [], _, _, e => by cases e
  | x :: r, y :: s, ha, hb, e => by
    have h1 : plD0 x = true ∧ plD0s r = true := by rw [← Bool.and_eq_true]; exact ha
    have h2 : plD0 y = true ∧ plD0s s = true := by rw [← Bool.and_eq_true]; exact hb
    have e1 : x.eqv y = true ∧ PyData.eqvAll r s = true := by rw [← Bool.and_eq_true]; exact e
    rw [eqv_plain x y h1.1 h2.1 e1.1, eqv_plains r s h1.2 h2.2 e1.2]
end
theorem data_anti {a b : PyData} (h : PySem.W.alike a b = true) (h1 : PySem.W.dataLt a b = false) (h2 : PySem.W.dataLt b a = false) : a.eqv b = true := by
  have e : PySem.W.keyToks a = PySem.W.keyToks b := (PyProof.Rows.listOrd PyProof.Rows.itemOrd).total (PySem.W.keyToks a) (PySem.W.keyToks b) h1 h2
  cases q : a.eqv b with
  | true => rfl
  | false =>
    have h3 := (PySem.W.toks_eqv a b h).2 q [] [Sum.inl 0]
    rw [← e, PySem.W.lex_pre, PyProof.Rows.lex_irrefl] at h3
    exact absurd h3 (by decide)
theorem data_trans {a b c : PyData} (h1 : PySem.W.dataLt a b = true) (h2 : PySem.W.dataLt b c = true) : PySem.W.dataLt a c = true := PyProof.Rows.lex_trans _ _ _ h1 h2
theorem data_irrefl (a : PyData) : PySem.W.dataLt a a = false := PyProof.Rows.lex_irrefl _
theorem data_lt {a b : PyData} (h : PySem.W.alike a b = true) (pa : plD0 a = true) (pb : plD0 b = true) (ne : a ≠ b) (h2 : PySem.W.dataLt b a = false) : PySem.W.dataLt a b = true := by
  cases q : PySem.W.dataLt a b with
  | true => rfl
  | false => exact absurd (eqv_plain a b pa pb (data_anti h q h2)) ne
/-! rows -/
def rowD (r : Row) : PyData := .tuple [.str r.1, pd r.2]
theorem pd1_inj {p q : Str × Int} (e : pd1 p = pd1 q) : p = q := by
  unfold pd1 at e
  injection e with e
  injection e with e1 e
  injection e with e2 _
  injection e1 with e1
  injection e2 with e2
  exact Prod.ext e1 e2
theorem pd_inj {a b : AL} (e : pd a = pd b) : a = b := by
  unfold pd at e
  injection e with e
  induction a generalizing b with
  | nil =>
    cases b with
    | nil => rfl
    | cons _ _ => cases e
  | cons p a ih =>
    cases b with
    | nil => cases e
    | cons q b =>
      rw [List.map_cons, List.map_cons] at e
      injection e with e1 e2
      rw [pd1_inj e1, ih e2]
theorem rowD_inj {a b : Row} (e : rowD a = rowD b) : a = b := by
  unfold rowD at e
  injection e with e
  injection e with e1 e
  injection e with e2 _
  injection e1 with e1
  exact Prod.ext e1 (pd_inj e2)
theorem plD0_pd : ∀ qs : AL, plD0s (qs.map pd1) = true
  | [] => rfl
  | _ :: r => plD0_pd r
theorem plD0_row (r : Row) : plD0 (rowD r) = true := by
  show (true && (plD0s (r.2.map pd1) && true)) = true
  rw [plD0_pd]
  rfl
theorem depth_row (r : Row) : (rowD r).depth ≤ 7 := by
  show max 0 (max (PyData.depthAll (r.2.map pd1) + 1) 0) + 1 ≤ 7
  have := depth_pd r.2
  omega
theorem alikes_pd : ∀ (a b : AL), PySem.W.alikeAll (a.map pd1) (b.map pd1) = true
  | [], _ => by rw [List.map_nil, PySem.W.alikeAll]
  | _ :: _, [] => by rw [List.map_cons, List.map_nil, PySem.W.alikeAll]
  | p :: a, r :: b => by
    rw [List.map_cons, List.map_cons, PySem.W.alikeAll, alikes_pd a b, Bool.and_true]
    simp only [pd1, PySem.W.alike, PySem.W.alikeAll, Bool.and_true]
theorem alike_row (a b : Row) : PySem.W.alike (rowD a) (rowD b) = true := by
  simp only [rowD, pd, PySem.W.alike, PySem.W.alikeAll, alikes_pd, Bool.and_true]
mutual
theorem eqv_selfP : ∀ d : PyData, plD0 d = true → d.eqv d = true
  | .int i, _ => beq_self_eq_true i
  | .str i, _ => beq_self_eq_true i
  | .tuple xs, h => eqv_selfPs xs h
  | .none, h => by cases h
  | .bool _, h => by cases h
  | .list _, h => by cases h
  | .dict _, h => by cases h
theorem eqv_selfPs : ∀ ds : List PyData, plD0s ds = true → PyData.eqvAll ds ds = true
  | [], _ => rfl
  | d :: ds, h => by
    have h1 : plD0 d = true ∧ plD0s ds = true := by rw [← Bool.and_eq_true]; exact h
    show (d.eqv d && PyData.eqvAll ds ds) = true
    rw [eqv_selfP d h1.1, eqv_selfPs ds h1.2]
    rfl
end
def rlt (a b : Row) : Prop := PySem.W.dataLt (rowD a) (rowD b) = true
theorem rlt.trans {a b c : Row} (h : rlt a b) (h2 : rlt b c) : rlt a c := data_trans h h2
theorem rlt.irrefl (a : Row) : ¬ rlt a a := fun h => by
  have e := data_irrefl (rowD a)
  rw [show PySem.W.dataLt (rowD a) (rowD a) = true from h] at e
  cases e
/-- strictly ascending -/
abbrev RAsc (rows : List Row) : Prop := rows.Pairwise rlt
theorem RAsc.nodup {rows : List Row} (h : RAsc rows) : rows.Nodup := List.Pairwise.imp (fun {a b} (z : rlt a b) (e : a = b) => rlt.irrefl a (by rw [← e] at z; exact z)) h
end My

/-! dicts whose keys are nested tuples, their values ints -/
namespace My
open PySem L2
abbrev EL := List (Addr × PyData × Int)
def ekeys (L : EL) : DL := L.map fun p => (p.1, p.2.1)
def elook (L : EL) (k : NestedKey) : Option Int := (L.find? fun p => decide (nk p.2.1 = k)).map (·.2.2)
def eput (L : EL) (b : Addr) (d : PyData) (n : Int) : EL := if (elook L (nk d)).isSome = true then L.map (fun p => if nk p.2.1 = nk d then (p.1, p.2.1, n) else p) else L ++ [(b, d, n)]
def EntR (p : Addr × PyData × Int) (q : NestedKey × Addr × Value) : Prop := q.1 = nk p.2.1 ∧ q.2.1 = p.1 ∧ RelV (.int p.2.2) q.2.2
theorem ent_val {L : EL} {xs : List (NestedKey × Addr × Value)} (r : Paired EntR L xs) (k : NestedKey) : RelO ((elook L k).map V.int) ((atKey xs k).map (·.2)) := by
  induction r with
  | nil => exact True.intro
  | @cons p q ps qs h t ih =>
    obtain ⟨h1, _, h2⟩ := h
    unfold elook atKey at ih ⊢
    rw [List.find?_cons, List.find?_cons]
    by_cases e : nk p.2.1 = k
    · rw [decide_eq_true e, decide_eq_true (h1.trans e)]
      exact h2
    · rw [decide_eq_false e, decide_eq_false (fun z => e (h1.symm.trans z))]
      exact ih
theorem ent_put {L : EL} {xs : List (NestedKey × Addr × Value)} (r : Paired EntR L xs) {b : Addr} {d : PyData} {n : Int} {u : Value} (ru : RelV (.int n) u) : Paired EntR (eput L b d n) (storedH xs (nk d) b u) := by
  have e : (elook L (nk d)).isSome = (atKey xs (nk d)).isSome := by
    have h := (ent_val r (nk d)).isSome_eq
    rwa [Option.isSome_map, Option.isSome_map] at h
  unfold eput storedH
  rw [e]
  split
  · rename_i c0
    clear e c0
    induction r with
    | nil => exact .nil
    | @cons p q ps qs h t ih =>
      obtain ⟨h1, h2, h3⟩ := h
      rw [List.map_cons, List.map_cons]
      refine .cons ?_ ih
      unfold putAt
      by_cases c : nk p.2.1 = nk d
      · rw [if_pos c, if_pos (h1.trans c)]
        exact ⟨h1, h2, ru⟩
      · rw [if_neg c, if_neg (fun z => c (h1.symm.trans z))]
        exact ⟨h1, h2, h3⟩
  · exact Paired.snoc r ⟨rfl, rfl, ru⟩
theorem eput_len (L : EL) (b : Addr) (d : PyData) (n : Int) : (eput L b d n).length ≤ L.length + 1 := by
  unfold eput
  split
  · rw [List.length_map]; omega
  · rw [List.length_append]; simp
structure DicN0 (P : Program) (w : World) (h : Heap) (a : Addr) (L : EL) : Prop where
  ex : ∃ (o : Obj) (es : Array DictEntry) (ep : Nat) (xs : List (NestedKey × Addr × Value)), h.get? a = some o ∧ o.ExactDict ∧ o.data = .dict es ep ∧ es.toList = xs.map (entryOfKey (nestedKind P w)) ∧ Paired EntR L xs ∧ (xs.map (·.1)).Nodup
  sm : (a == sysModules) = false
  sz : L.length ≤ sizeLine
/-- the dict at a of such keys (each at its own address) -/
def DicNO (P : Program) (w : World) (a : Addr) (L : EL) : HO := .ext fun h => DicN0 P w h a L
theorem dicNO_new {P : Program} {w : World} {H : Hp} {h : Heap} {a : Addr} {L : EL} (R : DicN0 P w h a L) : ObjOk P w H h a (DicNO P w a L) := by
  obtain ⟨o, es, ep, xs, ho, r⟩ := id R.ex
  refine ⟨R, ⟨o, ho⟩, fun h1 h2 p k => ?_⟩
  obtain ⟨o', es', ep', xs', ho', r'⟩ := DicN0.ex p
  exact ⟨⟨o', es', ep', xs', k o' ho', r'⟩, DicN0.sm p, DicN0.sz p⟩
theorem paired_keys {L : EL} {xs : List (NestedKey × Addr × Value)} (r : Paired EntR L xs) : xs.map (fun x => (x.2.1, x.1)) = nkL (ekeys L) := by
  induction r with
  | nil => rfl
  | cons h _ ih =>
    rw [List.map_cons, ih, h.1, h.2.1]
    rfl
section
variable {X : Cx} {pins : List (Addr × Obj)} {σ : L2.St} {H : Hp} {s : Shared} {a b : Addr} {L : EL} {d : PyData} {A : Around} {E : Value → Shared → Prop}
theorem dicN_of (I : Inv X pins σ H s) (ha : H a = some (DicNO X.prog X.w a L)) (hk : ∀ p ∈ ekeys L, KeyD X.K H p) : ∃ xs, Paired EntR L xs ∧ s.heap.DictOfH (nestedKind X.prog X.w) a xs ∧ (∀ x ∈ xs, IsK s.heap x.1 x.2.1) := by
  have R : DicN0 X.prog X.w s.heap a L := (I.hok a _ ha).1
  obtain ⟨o, es, ep, xs, h1, h2, h3, h4, h5, h6⟩ := R.ex
  have all : ∀ x ∈ xs, IsK s.heap x.1 x.2.1 := fun x hx => by
    have e : (x.2.1, x.1) ∈ nkL (ekeys L) := by rw [← paired_keys h5]; exact List.mem_map.mpr ⟨x, hx, rfl⟩
    obtain ⟨p, hp, e⟩ := List.mem_map.mp e
    have := (hk p hp).isK I
    rw [(Prod.mk.inj e).1, (Prod.mk.inj e).2] at this
    exact this
  exact ⟨xs, h5, ⟨o, es, ep, h1, h2, h3, h4, fun x hx => ⟨(all x hx).1, Nat.le_succ_of_le (all x hx).2⟩, h6⟩, all⟩
theorem dicN_ty (I : Inv X pins σ H s) (ha : H a = some (DicNO X.prog X.w a L)) : s.TypeIs (.ref a) "dict" ∧ (∀ b, Value.ref a = .ref b → ∃ ob, s.heap.get? b = some ob ∧ ob.dict = none) := by
  have R : DicN0 X.prog X.w s.heap a L := (I.hok a _ ha).1
  obtain ⟨o, es, ep, xs, h1, h2, h3, _⟩ := R.ex
  refine ⟨⟨o, h1, h2.1⟩, fun b q => ?_⟩
  cases q
  exact ⟨o, h1, h2.2.1⟩
theorem keyN (I : Inv X pins σ H s) (kd : KeyD X.K H (b, d)) : (nestedKind X.prog X.w).is s.heap (nk d) b := ⟨(kd.isK I).1, Nat.le_succ_of_le (kd.isK I).2⟩
/-- d.get(k, x) -/
theorem d_getN {z : V} {r : Value} {Q : Value → Shared → Prop} (hu : A.units + 16 < cLine) (I : Inv X pins σ H s) (ha : H a = some (DicNO X.prog X.w a L)) (hk : ∀ p ∈ ekeys L, KeyD X.K H p) (kd : KeyD X.K H (b, d)) (rz : RelV z r) (q : ∀ w' s', Inv X pins σ H s' → RelV (((elook L (nk d)).map V.int).getD z) w' → Q w' s') :
    wpAny (model X.prog X.w) A (call (.builtin "dict.get") [.ref a, .ref b, r]) Q E s := by
  obtain ⟨xs, r1, r2, _⟩ := dicN_of I ha hk
  have R : DicN0 X.prog X.w s.heap a L := (I.hok a _ ha).1
  refine call_meetsIn PySem.F.slot_dict_get r2.typeIs PySem.F.entry_dict_get (PySem.F.args_dict_get_3 _ _ _) (meetsH_dict_get_default (nestedKind X.prog X.w) a b R.sm r) ⟨?_, nk d, xs, keyN I kd, r2, q _ _ (I.tok _) ((ent_val r1 (nk d)).getD rz)⟩
  show A.in1.units + 8 < cLine
  first | omega | (simp only [Around.in1_units]; omega)
/-- d[k] = n -/
theorem d_setN {n : Int} {r : Value} {Q : Unit → Shared → Prop} (hu : A.units + 16 < cLine) (I : Inv X pins σ H s) (ha : H a = some (DicNO X.prog X.w a L)) (hk : ∀ p ∈ ekeys L, KeyD X.K H p) (kd : KeyD X.K H (b, d)) (rn : RelV (.int n) r) (lt : L.length < sizeLine)
    (q : ∀ s', Inv X pins σ (upd H a (DicNO X.prog X.w a (eput L b d n))) s' → Q () s') : wpAny (model X.prog X.w) A (setItem (.ref a) (.ref b) r) Q E s := by
  obtain ⟨xs, r1, r2, _⟩ := dicN_of I ha hk
  have R : DicN0 X.prog X.w s.heap a L := (I.hok a _ ha).1
  refine wpAny_setItem_heap (knd := nestedKind X.prog X.w) (hsz := by rw [← Paired.length r1]; exact Nat.le_of_lt lt) (by show A.in1.units + 8 < cLine; first | omega | (simp only [Around.in1_units]; omega)) (keyN I kd) r2 fun h' dd hs => q _ ?_
  obtain ⟨o, es, ep, h1, h2, h3, h4, _, h6⟩ := dd
  refine d_write I (by rw [ha]; exact True.intro) hs ⟨o, h1⟩ (dicNO_new ⟨⟨o, es, ep, _, h1, h2, h3, h4, ent_put r1 rn, h6⟩, R.sm, ?_⟩)
  have := eput_len L b d n
  omega
end
/-! the rules -/
def tDNewN (P : Program) (w : World) : TE := fun _ H Q => ∀ p, H p = none → Q (.ref p) (upd H p (DicNO P w p []))
def tDGetN (P : Program) (w : World) (K : PySem.W.Frag) (td ty tx : TE) : TE := fun σ H Q => td σ H fun x H1 => ∃ a L, x = .ref a ∧ H1 a = some (DicNO P w a L) ∧ ty σ H1 fun y H2 => tx σ H2 fun z H3 => ∃ b d L, y = .ref b ∧ H3 a = some (DicNO P w a L) ∧ (∀ p ∈ ekeys L, KeyD K H3 p) ∧ KeyD K H3 (b, d) ∧ Q (((elook L (nk d)).map V.int).getD z) H3
def sDPutN (P : Program) (w : World) (K : PySem.W.Frag) (td ty tv : TE) : TS := fun D σ H => tv σ H fun v H1 => td σ H1 fun x H2 => ty σ H2 fun y H3 => ∃ a b d L n, x = .ref a ∧ y = .ref b ∧ v = .int n ∧ H3 a = some (DicNO P w a L) ∧ (∀ p ∈ ekeys L, KeyD K H3 p) ∧ KeyD K H3 (b, d) ∧ L.length < sizeLine ∧ D.nx σ (upd H3 a (DicNO P w a (eput L b d n)))
section
variable {X : Cx} {o e f i value : Expr} {apos cpos pos pos' : Pos} {td ty tx tv : TE}
theorem pe_dnewN : PE X (.Dict [] [] pos) (tDNewN X.prog X.w) := ⟨fun pins s σ H Q I h =>
  wpAny_Dict_empty ⟨.ref s.heap.objs.size, _, I.laid (a := s.heap.objs.size) (o := DicNO X.prog X.w s.heap.objs.size []) (t' := s.toks) (fun _ _ q => Heap.get?_push_of_some _ q) (Nat.le_refl _) (dicNO_new ⟨⟨_, #[], 0, [], Heap.get?_push_size _ rfl, ⟨rfl, rfl, rfl⟩, rfl, rfl, .nil, List.nodup_nil⟩, beq_eq_false_iff_ne.mpr (Ne.symm (Nat.ne_of_lt I.big)), Nat.zero_le _⟩), rfl, h _ (I.hok.fresh (Nat.le_refl _))⟩⟩
theorem pe_dgetN (hu : X.A.units + 64 < cLine) (ho : PE X o td) (he : PE X e ty) (hf : PE X f tx) (m : M2 X o "get" apos e f cpos) : PE X (.Call (.Attribute o "get" apos) [e, f] [] cpos) (tDGetN X.prog X.w X.K td ty tx) := by
  refine ⟨fun pins s σ H Q I h => ?_⟩
  refine wpAny_Call_method m.base m.few m.line PySem.F.plainAttrs_dict PySem.F.slot_dict_get PySem.F.type_dict_get (thn (ho.run pins s σ H _ I h) fun u s1 ⟨x, H1, I1, rx, a, L, ex, ha, q1⟩ => ?_)
  subst ex
  obtain rfl : u = Value.ref a := rx
  obtain ⟨t1, t2⟩ := dicN_ty I1 ha
  refine ⟨t1, t2, ?_⟩
  rw [m.trees]
  refine Calls.callWith_builtin rfl (Calls.evalArgs_plain (Calls.spliced_cons (thn (he.run pins s1 σ H1 _ I1 q1) fun iv s2 ⟨y, H2, I2, ry, q2⟩ =>
    Calls.spliced_cons (thn (hf.run pins s2 σ H2 _ I2 q2) fun fv s3 ⟨z, H3, I3, rz, b, d, L3, ey, h3, hk, kd, q3⟩ => Calls.spliced_nil ?_))))
  subst ey
  obtain rfl : iv = Value.ref b := ry
  exact d_getN (by omega) I3 h3 hk kd rz fun w' s4 I4 rw' => ⟨_, H3, I4, rw', q3⟩
theorem ps_dputN (hu : X.A.units + 64 < cLine) (ho : PE X o td) (hi : PE X i ty) (hv : PE X value tv) (hs : swapsWith value (some (.Subscript o i pos')) pos.line X.env = pure false) : PS X (.Assign [.Subscript o i pos'] value pos) (sDPutN X.prog X.w X.K td ty tv) := by
  refine ⟨fun pins s σ H D I h => ?_⟩
  refine wpAny_Assign_Subscript (thn (hv.run pins s σ H _ I h) fun r s1 ⟨v, H1, I1, rv, q1⟩ => thn (ho.run pins s1 σ H1 _ I1 q1) fun u s2 ⟨x, H2, I2, rx, q2⟩ => thn (hi.run pins s2 σ H2 _ I2 q2) fun iv s3 ⟨y, H3, I3, ry, a, b, d, L, n, ex, ey, ev, ha, hk, kd, lt, q3⟩ => ?_) hs
  subst ex ey ev
  obtain rfl : u = Value.ref a := rx
  obtain rfl : iv = Value.ref b := ry
  exact d_setN (by omega) I3 ha hk kd rv lt fun s4 I4 => ⟨σ, _, I4, q3⟩
end
section
variable {σ : L2.St} {H : Hp} {Q : VK} {P : Program} {w : World} {K : PySem.W.Frag} {td ty tx tv : TE} {D : Ends}
theorem r_dnewN (q : ∀ p, H p = none → Q (.ref p) (upd H p (DicNO P w p []))) : tDNewN P w σ H Q := q
theorem r_dgetN (h : td σ H fun x H1 => ∃ a L, x = .ref a ∧ H1 a = some (DicNO P w a L) ∧ ty σ H1 fun y H2 => tx σ H2 fun z H3 => ∃ b d L, y = .ref b ∧ H3 a = some (DicNO P w a L) ∧ (∀ p ∈ ekeys L, KeyD K H3 p) ∧ KeyD K H3 (b, d) ∧ Q (((elook L (nk d)).map V.int).getD z) H3) : tDGetN P w K td ty tx σ H Q := h
theorem r_dputN (h : tv σ H fun v H1 => td σ H1 fun x H2 => ty σ H2 fun y H3 => ∃ a b d L n, x = .ref a ∧ y = .ref b ∧ v = .int n ∧ H3 a = some (DicNO P w a L) ∧ (∀ p ∈ ekeys L, KeyD K H3 p) ∧ KeyD K H3 (b, d) ∧ L.length < sizeLine ∧ D.nx σ (upd H3 a (DicNO P w a (eput L b d n)))) : sDPutN P w K td ty tv D σ H := h
end
end My

/-! set(d), d a dict of nested tuples -/
namespace My
open PySem L2
section
variable {P : Program} {w : World} {A : Around} {E : Value → Shared → Prop} {s : Shared} {a : Addr} {L : NL} {es : Array (Int × Value)} {ep : Nat} {t : SetTable}
/-- one that is new, with room enough -/
theorem put_new (R : SetNW w s.heap a L es ep t) {x : Addr} {k : NestedKey} (hx : IsK s.heap k x) (hu : A.units + 8 < cLine) (nw : k ∉ L.map (·.2)) (rm : (L.length + 1) * 5 < t.mask * 3) (few : L.length + 1 < 64) {Q : Bool → Shared → Prop}
    (q : ∀ h' L' es' ep' t', Heap.SameBut a s.heap h' → SetNW w h' a L' es' ep' t' → t'.mask = t.mask → L'.Perm ((x, k) :: L) → Q true { s with heap := h' }) : wpAny (model P w) A (setAddHashed a (.ref x) (hsh w k)) Q E s := by
  obtain ⟨o, ho, hex, hd⟩ := R.ob
  have z0 := R.sz
  have sl := PySem.sizeLine_eq
  unfold setAddHashed
  refine wpAny_holding ?_
  rw [show (100000 : Nat) = 99999 + 1 from rfl, setAddHashedIn_succ]
  refine wpAny_bind (wpAny_setState_of ho hd R.fit ?_)
  dsimp only
  refine wp_if_neg (by simp [byScan, Value.scannable]) ?_
  try refine wpAny_bind (wpAny_pure ?_)
  refine wpAny_bind (seek_add R hx hu (fun hm => absurd hm nw) fun K hm hK hb => ?_)
  dsimp only
  refine wpAny_bind (wpAny_setState_of ho hd R.fit ?_)
  dsimp only
  obtain ⟨pt, ept⟩ : ∃ pt, pt = t.put (way t.mask (hsh w k) K) := ⟨_, rfl⟩
  obtain ⟨q2, q3, q4, q5, q9⟩ := R.tab.put hK hb ept
  rw [← ept]
  clear ept
  obtain ⟨t1, p⟩ := pt
  dsimp only at q2 q3 q4 q5 q9 ⊢
  have hin : (SetTable.insertAt es p (hsh w k, Value.ref x)).toList = rowsN w (L.take p ++ (x, k) :: L.drop p) := by
    rw [SetTable.toList_insertAt, R.rows]
    unfold rowsN
    rw [List.map_append, List.map_cons, List.map_take, List.map_drop]
  have pm := put_perm L p (x, k)
  have hs : (L.take p ++ (x, k) :: L.drop p).map (fun p => hsh w p.2) = (L.map fun p => hsh w p.2).take p ++ hsh w k :: (L.map fun p => hsh w p.2).drop p := by
    rw [List.map_append, List.map_cons, List.map_take, List.map_drop]
  rw [← hs] at q3
  have nd1 : ((L.take p ++ (x, k) :: L.drop p).map (·.2)).Nodup := (pm.map (·.2)).nodup_iff.mpr (by rw [List.map_cons]; exact List.nodup_cons.mpr ⟨hm, R.nd⟩)
  generalize L.take p ++ (x, k) :: L.drop p = L1 at pm q3 nd1 hin
  have l1 : L1.length = L.length + 1 := by rw [pm.length_eq, List.length_cons]
  generalize SetTable.insertAt es p (hsh w k, Value.ref x) = es1 at hin ⊢
  have z1 : es1.size = L.length + 1 := by rw [← Array.length_toList, hin, rowsN_len, l1]
  rw [List.length_map] at q9
  have tl : ∀ pl : Bool, wpAny (model P w) A (do
      storeSet a es1 { t1 with plain := pl }
      if ({ t1 with plain := pl } : SetTable).tooFull = true then (do
        setRelay a (SetTable.grown (es.size + 1))
        pure true) else pure true) Q E s := fun pl => by
    refine wpAny_bind (wpAny_storeSet_of ho hd ?_ (by rw [z1]; omega))
    have sb : Heap.SameBut a s.heap (s.heap.update a (Obj.putSet es1 { t1 with plain := pl })) := Heap.SameBut.update ..
    refine wp_if_neg ?_ ?_
    · show ¬ decide (t1.fill * 5 ≥ t1.mask * 3) = true
      rw [decide_eq_true_eq, q4, q9]
      omega
    · refine wpAny_pure (q _ L1 es1 (ep + 1) { t1 with plain := pl } sb ⟨⟨_, store_at ho hd, ⟨hex.1, hex.2.1, hex.2.2⟩, rfl⟩, hin, ⟨q3.ris, q3.dm, q3.sz, q3.mok, q3.reach⟩, nd1, fun p hp => ?_, ?_, ?_, by omega⟩ q4 pm)
      · rcases List.mem_cons.mp (pm.mem_iff.mp hp) with e | hp
        · rw [e]; exact hx.stay ho hd sb
        · exact (R.tup p hp).stay ho hd sb
      · show _ ∨ t1.led = true
        rw [q5]
        exact R.led
      · show L1.length * 5 < t1.mask * 3
        rw [l1, q4]
        exact rm
  have t1eq : ({ t1 with plain := t1.plain } : SetTable) = t1 := rfl
  by_cases hp1 : t1.plain = true
  · refine wp_if_pos hp1 (wpAny_bind ?_)
    refine byVal 8 k _ s _ hx.1 (by have := hx.2; omega) fun b => ?_
    cases b with
    | true => exact tl t1.plain
    | false => exact tl false
  · refine wp_if_neg hp1 (wpAny_bind (wpAny_pure ?_))
    exact tl t1.plain
end
def relN (led : Bool) (n : Nat) : Bool := match (SetTable.fresh 0 0 led).relaid #[] (n * 2) with
  | some (t', order) => decide (t'.place = #[] ∧ t'.dummies = #[] ∧ t'.led = led ∧ order = #[] ∧ t'.mask = if n < 8 then 15 else if n < 16 then 31 else 63) && decide (SetTable.sizeAbove (n * 2) ≤ 1000)
  | none => false
theorem relN_all : ∀ led : Bool, ∀ n, n < 29 → 5 ≤ n → relN led n = true := by decide +kernel
theorem relaidN (led : Bool) {n : Nat} (h : n < 29) (h5 : 5 ≤ n) : ∃ t' : SetTable, (SetTable.fresh 0 0 led).relaid #[] (n * 2) = some (t', #[]) ∧ t'.place = #[] ∧ t'.dummies = #[] ∧ t'.led = led ∧ t'.mask = (if n < 8 then 15 else if n < 16 then 31 else 63) ∧ SetTable.sizeAbove (n * 2) ≤ 1000 := by
  have e := relN_all led n h h5
  unfold relN at e
  split at e
  · rename_i t' order q
    rw [Bool.and_eq_true] at e
    obtain ⟨h1, h2, h3, h4, h6⟩ := of_decide_eq_true e.1
    subst h4
    exact ⟨t', q, h1, h2, h3, h6, of_decide_eq_true e.2⟩
  · cases e
section
variable {P : Program} {w : World} {A : Around} {E : Value → Shared → Prop} {s : Shared} {a : Addr}
theorem roomN {n : Nat} {Q : Unit → Shared → Prop} (ho : s.heap.get? a = some (newSet w)) (hn : n ≤ 28)
    (hQ : ∀ h' es ep t, Heap.SameBut a s.heap h' → SetNW w h' a [] es ep t → n * 5 < t.mask * 3 → Q () { s with heap := h' }) : wpAny (model P w) A (setRoomFor a n) Q E s := by
  have R := (SetNR.new ho).toSetNW
  unfold setRoomFor
  refine wpAny_bind (wpAny_setState_of ho rfl (SetNW.fit (s := s) R) ?_)
  rw [show ((#[], 0, SetTable.fresh 0 0 !w.params.followText "set-order") : Array (Int × Value) × Nat × SetTable).snd.snd.roomFor n = if (0 + n) * 5 ≥ 7 * 3 then some ((0 + n) * 2) else none from rfl]
  by_cases c : (0 + n) * 5 ≥ 7 * 3
  · rw [if_pos c, Nat.zero_add]
    obtain ⟨t', h1, h2, h3, h4, h6, h5⟩ := relaidN (!w.params.followText "set-order") (show n < 29 by omega) (by omega)
    show wpAny (model P w) A (setRelay a (n * 2)) Q E s
    rw [setRelay_eq]
    refine wpAny_bind (wpAny_setState_of ho rfl (SetNW.fit (s := s) R) ?_)
    have big : ¬ SetTable.sizeAbove (n * 2) > sizeLine := fun z => by
      have : 1000 ≤ sizeLine := by decide
      omega
    show wpAny (model P w) A (if SetTable.sizeAbove (n * 2) > sizeLine then _ else _) Q E s
    rw [if_neg big]
    refine wpAny_bind ?_
    rw [show (Array.map (fun x : Int × Value => x.fst) #[]) = #[] from by simp, h1]
    refine wpAny_pure ?_
    refine wpAny_storeSet_of ho rfl ?_ (by decide)
    have mk : (t'.mask = 15 ∧ n < 8) ∨ (t'.mask = 31 ∧ n < 16) ∨ t'.mask = 63 := by
      rw [h6]
      by_cases c8 : n < 8
      · rw [if_pos c8]; exact .inl ⟨rfl, c8⟩
      · rw [if_neg c8]
        by_cases c16 : n < 16
        · rw [if_pos c16]; exact .inr (.inl ⟨rfl, c16⟩)
        · rw [if_neg c16]; exact .inr (.inr rfl)
    refine hQ _ #[] 1 t' (Heap.SameBut.update _ _ _) ⟨⟨_, store_at ho rfl, ⟨rfl, rfl, rfl⟩, rfl⟩, rfl, ⟨by rw [h2]; exact List.Pairwise.nil, h3, by rw [h2]; rfl, ?_, fun i g j hi => (by rw [List.map_nil, List.getElem?_nil] at hi; cases hi)⟩, List.nodup_nil, fun _ z => (nomatch z), ?_, ?_, by decide⟩ ?_
    · rcases mk with ⟨e, _⟩ | ⟨e, _⟩ | e
      · exact .inr (.inl e)
      · exact .inl (.inr (.inl e))
      · exact .inr (.inr e)
    · rw [h4]
      cases w.params.followText "set-order"
      · exact .inr rfl
      · exact .inl rfl
    · show 0 * 5 < t'.mask * 3
      omega
    · omega
  · rw [if_neg c]
    exact wpAny_pure (hQ s.heap _ _ _ ⟨rfl, fun _ _ => rfl⟩ R (by show n * 5 < 7 * 3; omega))
theorem upd_dictN {d : Addr} {o : Obj} {es : Array DictEntry} {ep : Nat} {xs : List (NestedKey × Addr × Value)} {Q : Unit → Shared → Prop} (ho : s.heap.get? a = some (newSet w)) (h1 : s.heap.get? d = some o) (hex : o.ExactDict) (h2 : o.data = .dict es ep) (he : es.toList = xs.map (entryOfKey (nestedKind P w))) (nd : (xs.map (·.1)).Nodup)
    (hk : ∀ x ∈ xs, IsK s.heap x.1 x.2.1) (hn : xs.length ≤ 28) (hs : (d == sysModules) = false) (hne : d ≠ a) (hu : A.units + 8 < cLine)
    (hQ : ∀ h' L' es' ep' t', Heap.SameBut a s.heap h' → SetNW w h' a L' es' ep' t' → L'.Perm (xs.map fun x => (x.2.1, x.1)) → Q () { s with heap := h' }) : wpAny (model P w) A (Builtin.Frozenset.updateFrom "set.__init__" a (.ref d)) Q E s := by
  unfold Builtin.Frozenset.updateFrom
  have td : s.TypeIs (.ref d) "dict" := ⟨o, h1, hex.1⟩
  refine wpAny_bind ?_
  unfold Builtin.Frozenset.isAnySet
  refine wpAny_bind (wpAny_isInstance td F.sub_dict_set ?_)
  refine wpAny_isInstance td F.sub_dict_frozenset ?_
  rw [if_neg (by decide)]
  refine wpAny_bind (wpAny_typeOf td ?_)
  rw [if_pos (by decide)]
  refine wpAny_bind (wpAny_rule ?_)
  refine wpAny_bind (wpAny_pure ?_)
  rw [if_neg (by rw [hs]; decide)]
  refine wpAny_bind (wpAny_dictEpoch h1 h2 ?_)
  refine wpAny_bind (wpAny_dictEntries h1 h2 ?_)
  have ls : es.size = xs.length := size_of_entries he
  refine wpAny_bind (roomN ho (show es.size ≤ 28 by omega) fun h' es0 ep0 t0 sb R rm => ?_)
  rw [ls] at rm
  have hd0 : ∀ h' : Heap, Heap.SameBut a s.heap h' → h'.get? d = some o := fun h' sb => by rw [sb.2 d hne]; exact h1
  have hkk : ∀ h' : Heap, Heap.SameBut a s.heap h' → ∀ x ∈ xs, IsK h' x.1 x.2.1 := fun h' sb x hx => (hk x hx).stay ho rfl sb
  refine wpAny_bind (wpAny_dictEntries (hd0 h' sb) h2 ?_)
  refine wpAny_bind (for_range (fun i u => ∃ (h' : Heap) (L' : NL) (es' : Array (Int × Value)) (ep' : Nat) (t' : SetTable), u = { s with heap := h' } ∧ Heap.SameBut a s.heap h' ∧ SetNW w h' a L' es' ep' t' ∧ xs.length * 5 < t'.mask * 3 ∧ L'.Perm ((xs.take i).map fun x => (x.2.1, x.1))) ⟨h', [], es0, ep0, t0, rfl, sb, R, rm, .refl _⟩ ?_ ?_)
  · rintro i u hi ⟨h2', L', es', ep', t', rfl, sb', R', rm', pm⟩
    have hi' : i < xs.length := by rw [← ls]; exact hi
    refine wpAny_bind (wpAny_dictEntries (hd0 h2' sb') h2 ?_)
    rw [Array.getElem?_eq_getElem hi]
    have ee : es[i] = entryOfKey (nestedKind P w) xs[i] := by
      have := entry_at he i
      rw [Array.getElem?_eq_getElem hi, List.getElem?_eq_getElem hi'] at this
      exact Option.some.inj this
    have nin : (xs[i]).1 ∉ L'.map (·.2) := fun z => by
      have z := (pm.map (·.2)).mem_iff.mp z
      rw [List.map_map] at z
      obtain ⟨y, hy, e⟩ := List.mem_map.mp z
      obtain ⟨j, hj, e2⟩ := List.mem_iff_getElem.mp hy
      rw [List.length_take] at hj
      rw [List.getElem_take] at e2
      have := (List.pairwise_iff_getElem.mp nd) j i (by rw [List.length_map]; omega) (by rw [List.length_map]; omega) (by omega)
      rw [List.getElem_map, List.getElem_map, e2] at this
      exact this e
    have lL : L'.length = i := by rw [pm.length_eq, List.length_map, List.length_take]; omega
    show wpAny (model P w) A (do
      let _ ← holding [es[i].key] (setAddHashed a es[i].key es[i].hash)
      let __do_lift ← dictEpoch d
      if (__do_lift != ep) = true then do
        unsupported (toString "set.__init__" ++ toString ":changed-during-callback")
        pure (ForInStep.yield PUnit.unit)
      else pure (ForInStep.yield PUnit.unit)) _ _ _
    rw [ee]
    refine wpAny_bind (wpAny_holding (put_new (s := { s with heap := h2' }) R' (hkk h2' sb' xs[i] (List.getElem_mem hi')) hu nin (by omega) (by omega) fun h3 L3 es3 ep3 t3 sb3 R3 mk3 pm3 => ?_))
    have sb4 : Heap.SameBut a s.heap h3 := ⟨sb3.1.trans sb'.1, fun b n => (sb3.2 b n).trans (sb'.2 b n)⟩
    refine wpAny_bind (wpAny_dictEpoch (hd0 h3 sb4) h2 ?_)
    rw [if_neg (by simp)]
    refine wpAny_pure ⟨rfl, h3, L3, es3, ep3, t3, rfl, sb4, R3, by rw [mk3]; exact rm', ?_⟩
    rw [List.take_add_one, List.getElem?_eq_getElem hi', List.map_append]
    exact pm3.trans ((pm.cons _).trans (List.perm_append_singleton _ _).symm)
  · rintro u ⟨h3, L', es', ep', t', rfl, sb3, R3, _, pm⟩
    refine wpAny_pure (hQ h3 L' es' ep' t' sb3 R3 ?_)
    rw [ls, List.take_length] at pm
    exact pm
theorem call_set_dictN {d : Addr} {o : Obj} {es : Array DictEntry} {ep : Nat} {xs : List (NestedKey × Addr × Value)} {Q : Value → Shared → Prop} (h1 : s.heap.get? d = some o) (hex : o.ExactDict) (h2 : o.data = .dict es ep) (he : es.toList = xs.map (entryOfKey (nestedKind P w))) (nd : (xs.map (·.1)).Nodup)
    (hk : ∀ x ∈ xs, IsK s.heap x.1 x.2.1) (hn : xs.length ≤ 28) (hs : (d == sysModules) = false) (hu : A.units + 32 < cLine)
    (hQ : ∀ h' L' es' ep' t', (∀ (b : Addr) (o : Obj), s.heap.get? b = some o → h'.get? b = some o) → SetNW w h' s.heap.objs.size L' es' ep' t' → L'.Perm (xs.map fun x => (x.2.1, x.1)) → Q (.ref s.heap.objs.size) { s with heap := h' }) : wpAny (model P w) A (call (Value.type "set") [.ref d]) Q E s := by
  have ltd : d < s.heap.objs.size := Heap.lt_size h1
  obtain ⟨c, tl, hmro⟩ := F.called_set.mro
  refine wpAny_call (codeAny_of_tree ?_)
  refine wpAny_pure ⟨Code.quiet_builtin _ (by decide +kernel), codeAny_builtin F.entry_type_call ?_⟩
  rw [Around.under_plain (weight_type_call_type "set" [Value.ref d] []) rfl]
  have hcan : decide (((Manifest.find? "set").bind fun x => List.findSome? (fun t => (Manifest.find? t).bind fun b => if b.noNew = true then some true else if (b.attrs.any fun x => x.fst == "__new__") = true then some false else none) x.mro).getD false = true) = false := by rw [F.called_set.canCreate]; rfl
  unfold Builtin.«type.__call__»
  refine wpAny_ite_false (show decide ((Value.type "set" == Value.type "type") = true) = false from rfl) ?_
  refine wpAny_ite_false hcan ?_
  refine wpAny_bind (wpAny_of_eq (F.typeCall_set_1 _) ?_)
  refine wpAny_bind (wpAny_of_eq hmro ?_)
  refine wpAny_ite_false rfl ?_
  refine wpAny_bind (wpAny_of_eq F.called_set.made ?_)
  refine wpAny_bind (wpAny_pure ?_)
  refine wpAny_bind (wpAny_holding (wpAny_call (codeAny_mono (code_set_led1 (E := fun _ _ => False) (Q₁ := fun obj s₁ => obj = .ref s.heap.objs.size ∧ s₁ = { s with heap := s.heap.push (newSet w) }) _ ⟨rfl, rfl⟩) ?_)))
  intro r s₁ hr
  cases r with
  | error e => exact hr.elim
  | ok fl =>
    cases fl with
    | next => exact hr.elim
    | brk => exact hr.elim
    | cont => exact hr.elim
    | ret v =>
      obtain ⟨rfl, rfl⟩ := hr
      have hnew : (s.heap.push (newSet w)).get? s.heap.objs.size = some (newSet w) := Heap.get?_push_size s.heap rfl
      have td := (⟨_, hnew, rfl⟩ : Shared.TypeIs { s with heap := s.heap.push (newSet w) } (Value.ref s.heap.objs.size) "set")
      refine wpAny_bind (wpAny_isInstance td F.called_set.sub ?_)
      refine wpAny_ite_false (show decide ((!true) = true) = false from rfl) ?_
      refine wpAny_bind (wpAny_holding (wpAny_callSpecial?_slot td F.called_set.init ?_))
      refine wpAny_call (codeAny_call_builtin F.called_set.init.plain F.entry_set_init (check_set_init_1 td ?_))
      unfold Builtin.«set.__init__»
      have R := (SetNR.new hnew).toSetNW
      refine wpAny_bind (wpAny_pure ?_)
      refine wpAny_bind ?_
      unfold typeNameOfCut
      refine wpAny_bind ?_
      unfold shownTypeOf
      refine wpAny_bind (wpAny_typeOf td ?_)
      refine wpAny_ite_false (show decide ((Value.type "set" == Value.type "builtin_function_or_method") = true) = false from rfl) ?_
      refine wpAny_pure ?_
      refine wpAny_pure ?_
      refine wpAny_bind (wpAny_pure ?_)
      refine wpAny_bind (wpAny_pure ?_)
      refine wpAny_bind (wpAny_bind (wpAny_setState_of hnew rfl (SetNW.fit (s := { s with heap := s.heap.push (newSet w) }) R) (wpAny_pure ?_)))
      refine wpAny_ite_false (show decide (((SetTable.fresh 0 0 !w.params.followText "set-order").fill != 0) = true) = false from rfl) ?_
      refine wpAny_bind (upd_dictN (s := { s with heap := s.heap.push (newSet w) }) hnew (Heap.get?_push_of_some _ h1) hex h2 he nd (fun x hx => (hk x hx).keep fun c o e => Heap.get?_push_of_some _ e) hn hs (Nat.ne_of_lt ltd) (by first | (simp only [Around.in1_units]; omega) | omega) fun h' L' es' ep' t' sb R' pm => ?_)
      refine wpAny_pure ?_
      refine wpAny_pure ?_
      refine hQ h' L' es' ep' t' (fun b u e => ?_) R' pm
      rw [sb.2 b (Nat.ne_of_lt (Heap.lt_size e))]
      exact Heap.get?_push_of_some _ e
end
def rSetDN (P : Program) (w : World) (K : PySem.W.Frag) : List V → Hp → VK → Prop := fun xs H Q => ∃ (a : Addr) (L : EL), xs = [V.ref a] ∧ H a = some (DicNO P w a L) ∧ (∀ p ∈ ekeys L, KeyD K H p) ∧ L.length ≤ 28 ∧
  ∀ s L', H s = none → L'.Perm (ekeys L) → (L'.map (·.2)).Nodup → Q (.ref s) (upd H s (SetNO w s L'))
theorem cr_setDN {X : Cx} (hu : X.A.units + 64 < cLine) : CallR X (.type "set") (rSetDN X.prog X.w X.K) := by
  intro pins s σ H xs us Q I r h
  obtain ⟨a, L, rfl, ha, hk, hf, q⟩ := h
  rw [Vals.ref1 r]
  have R : DicN0 X.prog X.w s.heap a L := (I.hok a _ ha).1
  obtain ⟨ys, r1, ⟨o, es, ep, h1, h2, h3, h4, _, h6⟩, all⟩ := dicN_of I ha hk
  have hn : H s.heap.objs.size = none := I.hok.fresh (Nat.le_refl _)
  refine call_set_dictN h1 h2 h3 h4 h6 all (by rw [← Paired.length r1]; exact hf) R.sm (by omega) fun h' N es' ep' t' k R' pm => ?_
  rw [paired_keys r1] at pm
  obtain ⟨L', pl, el⟩ := perm_lift (f := fun p : Addr × PyData => (p.1, nk p.2)) pm (L := ekeys L) rfl
  have eN : N = nkL L' := el
  subst eN
  refine ⟨.ref s.heap.objs.size, upd H s.heap.objs.size (SetNO X.w s.heap.objs.size L'), I.laid (t' := s.toks) k (Nat.le_refl _) (setNO_new R'.n0), rfl, q _ L' hn pl ?_⟩
  have nd := R'.nd
  unfold nkL at nd
  rw [List.map_map] at nd
  have e : L'.map ((fun p : Addr × NestedKey => p.2) ∘ fun p : Addr × PyData => (p.1, nk p.2)) = (L'.map (·.2)).map nk := by rw [List.map_map]; rfl
  rw [e] at nd
  exact nodup_of_map nd
end My

/-! max(xs, default=d) of a list of ints -/
namespace My
open PySem L2
end My

/-! xs.count(x) of a list of texts -/
namespace My
open PySem L2
section
variable {J J1 : It} {n n1 : Nat} {G G1 : Hp → Prop} {Y Y1 : Nat → Hp → V → Hp → Prop}
theorem r_lc2 {wi wi1 : TI} {g g1 : TG} {tt tt1 : TT} {te : TE} {vs vs1 : List Nat} {σ : L2.St} {H : Hp} {Q : VK} (h : wi σ H fun J H1 => ∀ D, H1 D = none → ∃ W : Nat → Nat → Hp → Prop, (∃ m, W 0 m (upd H1 D (.lst []))) ∧ ∀ i m H, W i m H →
  (J.stop i H ∧ Q (.ref D) H) ∨ (J.go i H ∧ ∃ Nx : Hp → Prop, (∀ H', Nx H' → ∃ m', m' < m ∧ W (i + 1) m' H') ∧ ∀ x H', J.yld i H x H' → g x (wipe σ vs) H' fun σ2 H2 => wipe σ2 vs = wipe σ vs ∧ tt σ2 H2 fun b H3 =>
    if b = true then wi1 σ2 H3 fun J1 H4 => ∃ W1 : Nat → Nat → Hp → Prop, (∃ m, W1 0 m H4) ∧ ∀ j k H, W1 j k H →
      (J1.stop j H ∧ Nx H) ∨ (J1.go j H ∧ ∃ Nx1 : Hp → Prop, (∀ H', Nx1 H' → ∃ k', k' < k ∧ W1 (j + 1) k' H') ∧ ∀ x H', J1.yld j H x H' → g1 x (wipe σ2 vs1) H' fun σ3 H5 => wipe σ3 vs1 = wipe σ2 vs1 ∧ tt1 σ3 H5 fun b H6 =>
        if b = true then te σ3 H6 fun y H7 => ∃ acc, H7 D = some (.lst acc) ∧ acc.length < sizeLine ∧ Nx1 (upd H7 D (.lst (acc ++ [y]))) else Nx1 H6)
    else Nx H3)) : tLc2 wi g tt wi1 g1 tt1 te vs vs1 σ H Q := h
theorem lc2_it (w : Walk J n G Y) {g g1 : TG} {tt tt1 : TT} {wi1 : TI} {te : TE} {vs vs1 : List Nat} {σ : L2.St} {H1 : Hp} {D : Addr} {Qd : Hp → Prop} (Pv : Nat → Hp → Prop) (h0 : Pv 0 (upd H1 D (.lst []))) (hG : ∀ i H, i ≤ n → Pv i H → G H)
    (hs : ∀ i x H H', i < n → Pv i H → Y i H x H' → g x (wipe σ vs) H' fun σ2 H2 => wipe σ2 vs = wipe σ vs ∧ tt σ2 H2 fun b H3 =>
      if b = true then wi1 σ2 H3 fun J1 H4 => ∃ W1 : Nat → Nat → Hp → Prop, (∃ m, W1 0 m H4) ∧ ∀ j k H, W1 j k H →
      (J1.stop j H ∧ Pv (i + 1) H) ∨ (J1.go j H ∧ ∃ Nx1 : Hp → Prop, (∀ H', Nx1 H' → ∃ k', k' < k ∧ W1 (j + 1) k' H') ∧ ∀ x H', J1.yld j H x H' → g1 x (wipe σ2 vs1) H' fun σ3 H5 => wipe σ3 vs1 = wipe σ2 vs1 ∧ tt1 σ3 H5 fun b H6 =>
        if b = true then te σ3 H6 fun y H7 => ∃ acc, H7 D = some (.lst acc) ∧ acc.length < sizeLine ∧ Nx1 (upd H7 D (.lst (acc ++ [y]))) else Nx1 H6) else Pv (i + 1) H3) (hd : ∀ H, Pv n H → Qd H) :
    ∃ W : Nat → Nat → Hp → Prop, (∃ m, W 0 m (upd H1 D (.lst []))) ∧ ∀ i m H, W i m H →
  (J.stop i H ∧ Qd H) ∨ (J.go i H ∧ ∃ Nx : Hp → Prop, (∀ H', Nx H' → ∃ m', m' < m ∧ W (i + 1) m' H') ∧ ∀ x H', J.yld i H x H' → g x (wipe σ vs) H' fun σ2 H2 => wipe σ2 vs = wipe σ vs ∧ tt σ2 H2 fun b H3 =>
    if b = true then wi1 σ2 H3 fun J1 H4 => ∃ W1 : Nat → Nat → Hp → Prop, (∃ m, W1 0 m H4) ∧ ∀ j k H, W1 j k H →
      (J1.stop j H ∧ Nx H) ∨ (J1.go j H ∧ ∃ Nx1 : Hp → Prop, (∀ H', Nx1 H' → ∃ k', k' < k ∧ W1 (j + 1) k' H') ∧ ∀ x H', J1.yld j H x H' → g1 x (wipe σ2 vs1) H' fun σ3 H5 => wipe σ3 vs1 = wipe σ2 vs1 ∧ tt1 σ3 H5 fun b H6 =>
        if b = true then te σ3 H6 fun y H7 => ∃ acc, H7 D = some (.lst acc) ∧ acc.length < sizeLine ∧ Nx1 (upd H7 D (.lst (acc ++ [y]))) else Nx1 H6)
    else Nx H3) := by
  refine ⟨fun i m H => m = n - i ∧ i ≤ n ∧ Pv i H, ⟨n, by simp, Nat.zero_le _, h0⟩, ?_⟩
  rintro i m H ⟨rfl, hi, p⟩
  have q := hG i H hi p
  by_cases hlt : i < n
  · refine .inr ⟨w.goes i H hlt q, Pv (i + 1), fun H' p' => ⟨n - (i + 1), by omega, rfl, hlt, p'⟩, fun x H' y => hs i x H H' hlt p (w.yields i H x H' hlt q y)⟩
  · have e : i = n := by omega
    subst e
    exact .inl ⟨w.stops H q, hd H p⟩
theorem in_it (w : Walk J1 n1 G1 Y1) {g1 : TG} {tt1 : TT} {te : TE} {vs1 : List Nat} {σ2 : L2.St} {H4 : Hp} {D : Addr} {Fin : Hp → Prop} (Pw : Nat → Hp → Prop) (h0 : Pw 0 H4) (hG : ∀ j H, j ≤ n1 → Pw j H → G1 H)
    (hs : ∀ j x H H', j < n1 → Pw j H → Y1 j H x H' → g1 x (wipe σ2 vs1) H' fun σ3 H5 => wipe σ3 vs1 = wipe σ2 vs1 ∧ tt1 σ3 H5 fun b H6 =>
        if b = true then te σ3 H6 fun y H7 => ∃ acc, H7 D = some (.lst acc) ∧ acc.length < sizeLine ∧ Pw (j + 1) (upd H7 D (.lst (acc ++ [y]))) else Pw (j + 1) H6) (hd : ∀ H, Pw n1 H → Fin H) :
    ∃ W1 : Nat → Nat → Hp → Prop, (∃ m, W1 0 m H4) ∧ ∀ j k H, W1 j k H →
      (J1.stop j H ∧ Fin H) ∨ (J1.go j H ∧ ∃ Nx1 : Hp → Prop, (∀ H', Nx1 H' → ∃ k', k' < k ∧ W1 (j + 1) k' H') ∧ ∀ x H', J1.yld j H x H' → g1 x (wipe σ2 vs1) H' fun σ3 H5 => wipe σ3 vs1 = wipe σ2 vs1 ∧ tt1 σ3 H5 fun b H6 =>
        if b = true then te σ3 H6 fun y H7 => ∃ acc, H7 D = some (.lst acc) ∧ acc.length < sizeLine ∧ Nx1 (upd H7 D (.lst (acc ++ [y]))) else Nx1 H6) := by
  refine ⟨fun j k H => k = n1 - j ∧ j ≤ n1 ∧ Pw j H, ⟨n1, by simp, Nat.zero_le _, h0⟩, ?_⟩
  rintro j k H ⟨rfl, hj, p⟩
  have q := hG j H hj p
  by_cases hlt : j < n1
  · refine .inr ⟨w.goes j H hlt q, Pw (j + 1), fun H' p' => ⟨n1 - (j + 1), by omega, rfl, hlt, p'⟩, fun x H' y => hs j x H H' hlt p (w.yields j H x H' hlt q y)⟩
  · have e : j = n1 := by omega
    subst e
    exact .inl ⟨w.stops H q, hd H p⟩
end
end My

/-! o.m(e), m a method that may raise: what leaves it is wished for at the caller's slots -/
namespace My
open PySem L2
def tMeR (C : Addr) (m : Str) (sp : Sp) (E : L2.St → XK) (ta : TE) (t : TA) : TE := fun σ H Q => ta σ H fun x H1 => ∃ a dx fs, x = .ref a ∧ H1 a = some (.ins C dx fs) ∧ fs.lookup m = none ∧ t σ H1 fun vs H2 => sp (.ref a :: vs) H2 Q (E σ)
section
variable {X : Cx} {CX : CXT} {k : Nat} {C : Addr} {m : Str} {ps : List Str} {sp : Sp} {E : L2.St → XK} {o e : Expr} {es : List Expr} {ta : TE} {t : TA} {pos apos : Pos} {pl : Sem Bool}
theorem pe_meR (O : OCal X.prog X.w X.K X.mg X.base CX k C m ps sp) (c : Cls X.K C) (hr : Room k X.A) (hx : ∀ σ, PassesAt CX X σ (E σ)) (ho : PE X o ta) (ha : PA X (e :: es) t)
    (h1 : starEach (e :: es) X.env = (false, eval e X.env) :: starEach es X.env := by rfl) (h2 : (backTo pos (starEach es X.env)).any (·.1) = false := by rfl)
    (h3 : eval (.Call (.Attribute o m apos) (e :: es) [] pos) X.env = (do
      let ov ← eval o X.env
      standAt apos.atName
      let __x ← holding [ov] (getMethod ov m pl)
      match __x with
      | (f, first) => callWith pos f first (backTo pos (starEach (e :: es) X.env)) (backToKw pos (keywordEach [] X.env))) := by with_unfolding_all rfl) :
    PE X (.Call (.Attribute o m apos) (e :: es) [] pos) (tMeR C m sp E ta t) := by
  obtain ⟨f, fd, F, hs, hf, hk, _, hb⟩ := O.ex
  have hm : Meth X.K C m f := ⟨hs, hf, hk⟩
  refine ⟨fun pins s σ H Q I h => ?_⟩
  refine PySem.W.methodCall_KW (pl := pl) (thn (ho.run pins s σ H _ I h) fun u s1 ⟨x, H1, I1, rx, a, dx, fs, ex, eo, l, q⟩ => ?_) h3
  subst ex
  cases (show u = Value.ref a from rx)
  refine getmeth_ok I1 eo c hm l ?_
  refine PySem.W.callWith_K (first := [.ref a]) (h₀ := X.base) I.ok.mod.kin hm.kp (thn (ha.run pos pins s1 σ H1 _ I1 q) fun us s2 ⟨vs, H2, I2, r, q2⟩ => ⟨I2.kIn, ?_⟩) h1 h2
  exact run_fnS (us := .ref a :: us) (vs := .ref a :: vs) F hr hb (hx σ) I2 (.cons rfl r) q2
end
theorem r_meR {C : Addr} {m : Str} {sp : Sp} {E : L2.St → XK} {ta : TE} {t : TA} {σ : L2.St} {H : Hp} {Q : VK} (h : ta σ H fun x H1 => ∃ a dx fs, x = .ref a ∧ H1 a = some (.ins C dx fs) ∧ fs.lookup m = none ∧ t σ H1 fun vs H2 => sp (.ref a :: vs) H2 Q (E σ)) : tMeR C m sp E ta t σ H Q := h
end My

/-! min(a, b), max(a, b) of two texts -/
namespace My
open PySem L2
/-- the two texts at 0 and 1 -/
def twoAt (a b : Str) (i : Nat) : Str := if i = 0 then a else b
theorem two_at {a b : Str} {t u : Tok} {i : Nat} {v : Value} (h : (#[Value.str a t, .str b u] : Array Value)[i]? = some v) : ∃ t, v = .str (twoAt a b i) t := by
  rcases i with _ | _ | i
  · cases h; exact ⟨t, rfl⟩
  · cases h; exact ⟨u, rfl⟩
  · simp at h
theorem CmpOf.strs_lt {prog : Program} {w : World} {A : Around} {P : Nat → Value → Prop} (val : Nat → Str) (hval : ∀ i v, P i v → ∃ t, v = .str (val i) t) : CmpOf prog w A .Lt P (fun i j => decide (cds (val i) < cds (val j))) := fun i j vi vj s Q E hi hj h => by
  obtain ⟨t, rfl⟩ := hval i vi hi
  obtain ⟨u, rfl⟩ := hval j vj hj
  exact PySem.P.lt_str (x := val i) (y := val j) (t := t) (u := u) h
theorem CmpOf.strs_gt {prog : Program} {w : World} {A : Around} {P : Nat → Value → Prop} (val : Nat → Str) (hval : ∀ i v, P i v → ∃ t, v = .str (val i) t) : CmpOf prog w A .Gt P (fun i j => decide (cds (val j) < cds (val i))) := fun i j vi vj s Q E hi hj h => by
  obtain ⟨t, rfl⟩ := hval i vi hi
  obtain ⟨u, rfl⟩ := hval j vj hj
  exact PySem.P.gt_str (x := val i) (y := val j) (t := t) (u := u) h
section
variable {prog : Program} {w : World} {A : Around} {E : Value → Shared → Prop} {s : Shared}
theorem max_two_strs {a b : Str} {t u : Tok} {Q : Value → Shared → Prop} (hh : A.handled = none)
    (h : ∀ h' tk, (∀ c o, s.heap.get? c = some o → h'.get? c = some o) → Q (if cds a < cds b then .str b u else .str a t) { s with heap := h', toks := tk }) :
    wpAny (model prog w) A (call (.builtin "max") [.str a t, .str b u]) Q E s := by
  have hT : (s.heap.push { cls := .type "tuple", data := .seq #[.str a t, .str b u] }).IsTuple s.heap.objs.size #[Value.str a t, .str b u] := ⟨_, Heap.get?_push_size _ rfl, rfl, 0, rfl⟩
  refine call_max_two (wpAny_pyIter_tuple hT ?_)
  have hsz : (s.heap.push { cls := .type "tuple", data := .seq #[.str a t, .str b u] }).objs.size = s.heap.objs.size + 1 := Heap.size_push ..
  refine ⟨_, [_, s.heap.objs.size], [_], _, _, _, _, rfl, Walks.tuple (A := A.in1) hh _ s.heap.objs.size (by rw [hsz]; exact Nat.ne_of_lt (Nat.lt_succ_self _)) #[Value.str a t, .str b u],
    ⟨⟨_, Heap.get?_push_size _ rfl, rfl, rfl⟩, hT.push _⟩, fun c hc => ?_, by simp, CmpOf.strs_gt (twoAt a b) (fun _ _ => two_at), fun v h' tk hP hk => ?_⟩
  · show c < ((s.heap.push _).push _).objs.size
    rw [Heap.size_push, hsz]
    rcases List.mem_cons.mp hc with rfl | hc
    · rw [hsz]; exact Nat.lt_succ_self _
    · rcases List.mem_cons.mp hc with rfl | hc
      · exact Nat.lt_succ_of_lt (Nat.lt_succ_self _)
      · cases hc
  · have hold : ∀ c o, s.heap.get? c = some o → h'.get? c = some o := fun c o e => by
      refine hk c o (fun hm => ?_) (Heap.get?_push_of_some _ (Heap.get?_push_of_some _ e))
      rcases List.mem_cons.mp hm with e1 | hm
      · have := Heap.lt_size e; rw [e1, hsz] at this; exact Nat.lt_irrefl _ (Nat.lt_of_succ_lt this)
      · cases hm
    have := h h' tk hold
    have hv : v = if cds a < cds b then Value.str b u else Value.str a t := by
      have hP' : (#[Value.str a t, .str b u] : Array Value)[argBest (fun i j => decide (cds (twoAt a b j) < cds (twoAt a b i))) 1]? = some v := hP
      by_cases hba : cds a < cds b
      · have e : argBest (fun i j => decide (cds (twoAt a b j) < cds (twoAt a b i))) 1 = 1 := by simp [argBest, twoAt, hba]
        rw [e] at hP'
        rw [if_pos hba]
        cases hP'
        rfl
      · have e : argBest (fun i j => decide (cds (twoAt a b j) < cds (twoAt a b i))) 1 = 0 := by simp [argBest, twoAt, hba]
        rw [e] at hP'
        rw [if_neg hba]
        cases hP'
        rfl
    rw [hv]; exact this
theorem min_two_strs {a b : Str} {t u : Tok} {Q : Value → Shared → Prop} (hh : A.handled = none)
    (h : ∀ h' tk, (∀ c o, s.heap.get? c = some o → h'.get? c = some o) → Q (if cds b < cds a then .str b u else .str a t) { s with heap := h', toks := tk }) :
    wpAny (model prog w) A (call (.builtin "min") [.str a t, .str b u]) Q E s := by
  have hT : (s.heap.push { cls := .type "tuple", data := .seq #[.str a t, .str b u] }).IsTuple s.heap.objs.size #[Value.str a t, .str b u] := ⟨_, Heap.get?_push_size _ rfl, rfl, 0, rfl⟩
  refine call_min_two (wpAny_pyIter_tuple hT ?_)
  have hsz : (s.heap.push { cls := .type "tuple", data := .seq #[.str a t, .str b u] }).objs.size = s.heap.objs.size + 1 := Heap.size_push ..
  refine ⟨_, [_, s.heap.objs.size], [_], _, _, _, _, rfl, Walks.tuple (A := A.in1) hh _ s.heap.objs.size (by rw [hsz]; exact Nat.ne_of_lt (Nat.lt_succ_self _)) #[Value.str a t, .str b u],
    ⟨⟨_, Heap.get?_push_size _ rfl, rfl, rfl⟩, hT.push _⟩, fun c hc => ?_, by simp, CmpOf.strs_lt (twoAt a b) (fun _ _ => two_at), fun v h' tk hP hk => ?_⟩
  · show c < ((s.heap.push _).push _).objs.size
    rw [Heap.size_push, hsz]
    rcases List.mem_cons.mp hc with rfl | hc
    · rw [hsz]; exact Nat.lt_succ_self _
    · rcases List.mem_cons.mp hc with rfl | hc
      · exact Nat.lt_succ_of_lt (Nat.lt_succ_self _)
      · cases hc
  · have hold : ∀ c o, s.heap.get? c = some o → h'.get? c = some o := fun c o e => by
      refine hk c o (fun hm => ?_) (Heap.get?_push_of_some _ (Heap.get?_push_of_some _ e))
      rcases List.mem_cons.mp hm with e1 | hm
      · have := Heap.lt_size e; rw [e1, hsz] at this; exact Nat.lt_irrefl _ (Nat.lt_of_succ_lt this)
      · cases hm
    have := h h' tk hold
    have hv : v = if cds b < cds a then Value.str b u else Value.str a t := by
      have hP' : (#[Value.str a t, .str b u] : Array Value)[argBest (fun i j => decide (cds (twoAt a b i) < cds (twoAt a b j))) 1]? = some v := hP
      by_cases hba : cds b < cds a
      · have e : argBest (fun i j => decide (cds (twoAt a b i) < cds (twoAt a b j))) 1 = 1 := by simp [argBest, twoAt, hba]
        rw [e] at hP'
        rw [if_pos hba]
        cases hP'
        rfl
      · have e : argBest (fun i j => decide (cds (twoAt a b i) < cds (twoAt a b j))) 1 = 0 := by simp [argBest, twoAt, hba]
        rw [e] at hP'
        rw [if_neg hba]
        cases hP'
        rfl
    rw [hv]; exact this
end
def rMin2S : List V → Hp → VK → Prop := fun xs H Q => ∃ a b : Str, xs = [.str a, .str b] ∧ Q (.str (if sle a b then a else b)) H
def rMax2S : List V → Hp → VK → Prop := fun xs H Q => ∃ a b : Str, xs = [.str a, .str b] ∧ Q (.str (if sle b a then a else b)) H
theorem call_min2S {X : Cx} (hc : X.calm = true) : CallR X (.builtin "min") rMin2S := by
  intro pins s σ H xs us Q I r h
  obtain ⟨a, b, rfl, q⟩ := h
  obtain ⟨u, w', rfl, ⟨t, rfl⟩, ⟨t', rfl⟩⟩ := vals2 r
  refine min_two_strs (I.ok.hd hc) fun h' tk k => ⟨_, H, I.kept k, ?_, q⟩
  unfold sle
  by_cases hj : cds b < cds a
  · rw [if_pos hj, decide_eq_true hj, if_neg (by decide)]; exact ⟨_, rfl⟩
  · rw [if_neg hj, decide_eq_false hj, if_pos (by decide)]; exact ⟨_, rfl⟩
theorem call_max2S {X : Cx} (hc : X.calm = true) : CallR X (.builtin "max") rMax2S := by
  intro pins s σ H xs us Q I r h
  obtain ⟨a, b, rfl, q⟩ := h
  obtain ⟨u, w', rfl, ⟨t, rfl⟩, ⟨t', rfl⟩⟩ := vals2 r
  refine max_two_strs (I.ok.hd hc) fun h' tk k => ⟨_, H, I.kept k, ?_, q⟩
  unfold sle
  by_cases hj : cds a < cds b
  · rw [if_pos hj, decide_eq_true hj, if_neg (by decide)]; exact ⟨_, rfl⟩
  · rw [if_neg hj, decide_eq_false hj, if_pos (by decide)]; exact ⟨_, rfl⟩
end My

/-! what the heads of the proofs have in common: how classes, errors and defs read -/
namespace My
open PySem L2
/-- how an error class reads -/
structure EF (K : PySem.W.Frag) (e : Addr) : Prop where
  hg : PySem.W.findIn K (.ref e) "__getattribute__" = some (some (.builtin "BaseException.__getattribute__"))
  hk : PySem.W.findIn K (.ref e) "__getattr__" = some none
  ha : PySem.W.findIn K (.ref e) "__class__" = some (some (.builtin "object.__class__"))
  sa : PySem.W.findIn K (.ref e) "__setattr__" = some (some (.builtin "object.__setattr__"))
  ty : PySem.W.typeIn K (.ref e) = some (.type "type")
  kp : PySem.W.keepIn K (.ref e) = true
  n1 : PySem.W.findIn K (.ref e) "kind" = some none
  n2 : PySem.W.findIn K (.ref e) "many" = some none
  n3 : PySem.W.findIn K (.ref e) "lacking" = some none
  n4 : PySem.W.findIn K (.ref e) "ring" = some none
  n5 : PySem.W.findIn K (.ref e) "number" = some none
/-- the class object -/
structure LK (K : PySem.W.Frag) (e : Addr) (bm : List Value) (new : String) : Prop where
  ex : ∃ nm q N bs sn sub ab col dd k0 k1 k2 k3 k5, K.lookup e = some (excClassObj nm q e N bs bm true sn sub ab col dd k0 k1 k2 k3 k5 new)
theorem lk_mk {K : PySem.W.Frag} {e : Addr} {bm : List Value} {new : String} {nm q : Str} {N : Addr} {bs : List Value} {sn : List Str} {sub : List Value} {ab : Bool} {col : Option Bool} {dd : Option Addr} {k0 k1 k2 k3 k5 : Option Value} (x : K.lookup e = some (excClassObj nm q e N bs bm true sn sub ab col dd k0 k1 k2 k3 k5 new)) : LK K e bm new := ⟨⟨nm, q, N, bs, sn, sub, ab, col, dd, k0, k1, k2, k3, k5, x⟩⟩
theorem LK.cls {K : PySem.W.Frag} {e : Addr} {bm : List Value} {new : String} (h : LK K e bm new) : ∃ cd, PySem.W.clsIn K e = some cd ∧ cd.mro = .ref e :: bm ∧ cd.hasDict = true := by
  obtain ⟨nm, q, N, bs, sn, sub, ab, col, dd, k0, k1, k2, k3, k5, x⟩ := h.ex
  refine ⟨{ name := nm, bases := bs, mro := .ref e :: bm, ns := N, qualname := q, hasDict := true, slotNames := sn, subclasses := sub, abstract := ab, collection := col, hasDel := false }, ?_, rfl, rfl⟩
  unfold PySem.W.clsIn
  rw [x] <;> rfl
theorem LK.mro {K : PySem.W.Frag} {e : Addr} {bm : List Value} {new : String} (h : LK K e bm new) (X : Value) : PySem.W.mroIn K e X = some ((Value.ref e :: bm).contains X) := by
  obtain ⟨cd, h1, h2, h3⟩ := h.cls
  unfold PySem.W.mroIn
  rw [h1, Option.bind_some, h2]
  rfl
theorem LK.sub {K : PySem.W.Frag} {e : Addr} {bm : List Value} {new : String} (h : LK K e bm new) (X : Value) : PySem.W.subIn K (.ref e) X = some ((Value.ref e :: bm).contains X) := h.mro X
theorem LK.dict {K : PySem.W.Frag} {e : Addr} {bm : List Value} {new : String} (h : LK K e bm new) : PySem.W.hasDictIn K e = true := by
  obtain ⟨cd, h1, h2, h3⟩ := h.cls
  unfold PySem.W.hasDictIn
  rw [h1]
  exact h3
theorem ref_type (e : Addr) (T : String) : (Value.type T == Value.ref e) = false := by
  cases q : (Value.type T == Value.ref e) with
  | false => rfl
  | true => exact absurd (eq_of_beq q) (by intro z; cases z)
theorem con_type (e : Addr) (bm : List Value) (T : String) : (Value.ref e :: bm).contains (.type T) = bm.contains (.type T) := by
  rw [List.contains_cons, ref_type, Bool.false_or]
theorem con_ref (e d : Addr) (bm : List Value) (h : bm.all (fun v => match v with | .type _ => true | _ => false) = true) : (Value.ref e :: bm).contains (.ref d) = decide (e = d) := by
  have h0 : bm.contains (.ref d) = false := by
    cases q : bm.contains (Value.ref d) with
    | false => rfl
    | true =>
      have := List.all_eq_true.mp h _ (List.contains_iff_mem.mp q)
      cases this
  rw [List.contains_cons, h0, Bool.or_false]
  by_cases z : e = d
  · rw [z, decide_eq_true rfl]
    exact beq_self_eq_true _
  · rw [decide_eq_false z]
    cases q : (Value.ref d == Value.ref e) with
    | false => rfl
    | true => exact absurd (Value.ref.inj (eq_of_beq q)).symm z
theorem xfC_mk {K : PySem.W.Frag} {e : Addr} {bm : List Value} {new : String} (F : EF K e) (h : LK K e bm new) (hB : bm.contains (.type "BaseException") = true) : XfC K e := ⟨F.hg, F.hk, by rw [h.sub, con_type, hB], h.dict⟩
theorem oex_mk {K : PySem.W.Frag} {e : Addr} (F : EF K e) (h : LK K e [.type "ValueError", .type "Exception", .type "BaseException", .type "object"] "ValueError.__new__") : OexC K e := by
  obtain ⟨nm, q, N, bs, sn, sub, ab, col, dd, k0, k1, k2, k3, k5, x⟩ := h.ex
  exact ⟨⟨nm, q, N, bs, [.type "ValueError", .type "Exception", .type "BaseException", .type "object"], sn, sub, ab, col, dd, k0, k1, k2, k3, k5, x, by decide +kernel⟩, F.sa, by rw [h.sub, con_type]; decide +kernel, F.ty, F.kp⟩
theorem vals_rev : ∀ {vs : List V} {us : List Value}, Vals vs us → Vals vs.reverse us.reverse
  | _, _, .nil => .nil
  | _, _, .cons h r => by
    rw [List.reverse_cons, List.reverse_cons]
    exact (vals_rev r).append (.cons h .nil)
theorem kbn_mk {K : PySem.W.Frag} {x qual : Str} {st : Stmt} {f : Addr} {fd : FuncData} {ps ks : List Str} {n : Nat} {g : List Value → List Value → List Value} {gV : List V → List V → List V} (F : Fun K x qual st f fd)
    (rel : ∀ {vs : List V} {us : List Value} {zs : List V} {ws : List Value}, Vals vs us → Vals zs ws → Vals (gV vs zs) (g us ws))
    (h : ∀ (kV doc pm : Value) (an : Option Addr) (cdv ct : Value) (us ws : List Value), us.length = n → ws.length = ks.length → bindArgs (PySem.W.fnOf x qual (defArgs st) (defBody st) (defScope st) .none kV doc pm an cdv ct) ⟨us, ks.zip ws⟩ = pure (ps.zip (g us ws))) : KBn K fd ps n ks g gV := by
  obtain ⟨oc, od, kV, doc, pm, an, cdv, ct, osl, rfl, lk, hcd⟩ := F.ex
  exact ⟨fun s us ws X l1 l2 => .of_eq (h kV doc pm an cdv ct us ws l1 l2), rel⟩
abbrev bmV : List Value := [.type "ValueError", .type "Exception", .type "BaseException", .type "object"]
theorem funF {K : PySem.W.Frag} {x qual : Str} {st : Stmt} {f : Addr} {oc : Value} {od an : Option Addr} {osl : Array (Option Value)} {kV doc pm cdv ct : Value} (l : K.lookup f = some ⟨oc, od, .func (PySem.W.fnOf x qual (defArgs st) (defBody st) (defScope st) .none kV doc pm an cdv ct), osl⟩)
    (c : PySem.W.codeIn K cdv qual = true) (k : PySem.W.keepIn K (.ref f) = true) : ∃ fd, Fun K x qual st f fd := ⟨_, fun_mk l c k⟩
theorem funDF {K : PySem.W.Frag} {x qual : Str} {st : Stmt} {f tD t0 : Addr} {oc ocT : Value} {od an odT : Option Addr} {osl slT : Array (Option Value)} {kV doc pm cdv ct : Value} {nT : Nat} (l : K.lookup f = some ⟨oc, od, .func (PySem.W.fnOf x qual (defArgs st) (defBody st) (defScope st) (.ref tD) kV doc pm an cdv ct), osl⟩)
    (c : PySem.W.codeIn K cdv qual = true) (lT : K.lookup tD = some ⟨ocT, odT, .seq #[.ref t0] nT, slT⟩) (k : PySem.W.keepIn K (.ref f) = true) : ∃ fd, FunD K x qual (defArgs st) (defBody st) (defScope st) [.ref t0] [] f fd :=
  ⟨_, ⟨⟨_, _, _, _, _, _, _, _, _, _, rfl, l, c, Or.inr ⟨by simp, tD, _, [.ref t0], nT, rfl, lT, rfl, .cons rfl .nil⟩, Or.inl rfl⟩, k⟩⟩
theorem sq0 {K : PySem.W.Frag} {t0 : Addr} {od : Option Addr} {n : Nat} {sl : Array (Option Value)} (l : K.lookup t0 = some ⟨.type "tuple", od, .seq #[] n, sl⟩) : ∀ H, SqT K H t0 [] := fun H => .inr ⟨_, #[], n, l, rfl, rfl, Nat.zero_le _, .nil⟩
theorem kb_mk {K : PySem.W.Frag} {x qual : Str} {st : Stmt} {f : Addr} {fd : FuncData} {a b : Str} (F : Fun K x qual st f fd)
    (h : ∀ (kV doc pm : Value) (an : Option Addr) (cdv ct : Value) (u v : Value), bindArgs (PySem.W.fnOf x qual (defArgs st) (defBody st) (defScope st) .none kV doc pm an cdv ct) ⟨[u], [b].zip [v]⟩ = pure ([a, b].zip [u, v])) : KBinds K fd [a, b] [b] g1 g1 := by
  obtain ⟨oc, od, kV, doc, pm, an, cdv, ct, osl, rfl, lk, hcd⟩ := F.ex
  refine ⟨fun s us ws X l => ?_, g1_rel⟩
  match us, ws, l with
  | [u], [v], _ => exact .of_eq (h kV doc pm an cdv ct u v)
  | [], _, l => cases l
  | [_], [], l => cases l
  | [_], _ :: _ :: _, l => cases l
  | _ :: _ :: _, _, l => cases l
/-- how a class of the program reads -/
structure CC (K : PySem.W.Frag) (C : Addr) : Prop where
  pg : PySem.W.plainGet K C Str.empty = true
  hd : PySem.W.hasDictIn K C = true
  po : PySem.W.plainOver K C = true
  sa : PySem.W.findIn K (.ref C) "__setattr__" = some (some (.builtin "object.__setattr__"))
  mC : PySem.W.makesIn K C = true
  kc : PySem.W.keepIn K (.ref C) = true
  sf : PySem.W.selfFirst K C = true
  ns : PySem.W.noSeq K C = true
  si : PySem.W.subIn K (.type "int") (.ref C) = some false
  st : PySem.W.subIn K (.type "tuple") (.ref C) = some false
  ss : PySem.W.subIn K (.type "str") (.ref C) = some false
  sl : PySem.W.subIn K (.type "list") (.ref C) = some false
  ty : PySem.W.typeIn K (.ref C) = some (.type "type")
  ha : PySem.W.findIn K (.ref C) "__class__" = some (some (.builtin "object.__class__"))
  hm : PySem.W.mroIn K C (.type "object") = some true
  ic : PySem.W.isClsIn K C = true
theorem CC.cls {K : PySem.W.Frag} {C : Addr} (c : CC K C) : Cls K C := ⟨c.pg, c.hd, c.po, c.sa⟩
theorem CC.oc {K : PySem.W.Frag} {C : Addr} (c : CC K C) : OCls K C := ⟨c.cls, c.sf, c.ns, c.si⟩
theorem kit_cls {K : PySem.W.Frag} {C : Addr} {t : Value} (ic : PySem.W.isClsIn K C = true) (ty : PySem.W.typeIn K (.ref C) = some (.type "type")) (ne : (t == Value.ref C) = false) (st : PySem.W.subIn K t (.ref C) = some false) : PySem.W.kitOne K t (.ref C) = some false := by
  unfold PySem.W.kitOne
  rw [ne]
  show (if ((PySem.W.clsIn K C).isSome && PySem.W.typeIn K (.ref C) == some (.type "type")) = true then PySem.W.subIn K t (.ref C) else none) = _
  have e2 : ((PySem.W.clsIn K C).isSome && PySem.W.typeIn K (.ref C) == some (.type "type")) = true := by
    unfold PySem.W.isClsIn at ic
    rw [ic, ty]
    exact beq_self_eq_true _
  rw [if_pos e2, st]
end My

namespace My
open PySem L2
local macro_rules | `(tactic| walk_at "bx1") => `(tactic| first | with_reducible assumption | ((with_reducible refine' Bx.upd ?h1 ?h2); (case h1 => walk_at "bx1"); (case h2 => walk_at "ne")) | ((with_reducible refine' Bx.same ?h1 (by with_reducible assumption)); (case h1 => walk_at "bx1")))
local macro_rules | `(tactic| walk_at "bx") => `(tactic| (refine' Bx.mono ?h1 ?h2; (case h1 => walk_at "bx1"); (case h2 => omega)))
local macro_rules | `(tactic| walk_at "ne") => `(tactic| first | with_reducible assumption | exact Ne.symm (by with_reducible assumption) | ((with_reducible refine' ne_of_none ?h1 (by with_reducible assumption)); (case h1 => walk_at "hp")) | ((with_reducible refine' Ne.symm (ne_of_none ?h1 (by with_reducible assumption))); (case h1 => walk_at "hp")) | ((with_reducible refine' Bx.ne ?h1 (by with_reducible assumption)); (case h1 => walk_at "bx1")) | ((with_reducible refine' Ne.symm (Bx.ne ?h1 (by with_reducible assumption))); (case h1 => walk_at "bx1")))
local macro_rules | `(tactic| walk_at "hp") => `(tactic| first | with_reducible assumption | ((with_reducible refine' (upd_same.trans ?h1)); (case h1 => rfl)) | ((with_reducible refine' My.upd_at ?h1 ?h2); (case h1 => walk_at "hp"); (case h2 => walk_at "ne")) | ((with_reducible refine' My.Kp.at (by with_reducible assumption) ?h1 ?h2); (case h1 => walk_at "hp"); (case h2 => walk_at "ne")) | ((with_reducible refine' My.Same.at (by with_reducible assumption) ?h1); (case h1 => walk_at "hp")))
local macro_rules | `(tactic| walk_at "sq") => `(tactic| first | with_reducible assumption | exact SqL.of (by walk_at "hp") | exact SqT.of (by walk_at "hp") | ((with_reducible refine' My.SqT.upd ?h1 (by with_reducible assumption)); (case h1 => walk_at "sq")) | ((with_reducible refine' My.SqL.upd ?h1 (by with_reducible assumption)); (case h1 => walk_at "sq")) | ((with_reducible refine' Same.seq (by with_reducible assumption) ?h1); (case h1 => walk_at "sq")) | ((with_reducible refine' My.SqT.same ?h1 (by with_reducible assumption)); (case h1 => walk_at "sq")) | ((with_reducible refine' My.SqT.kp ?h1 (by with_reducible assumption) ?h2); (case h1 => walk_at "sq"); (case h2 => walk_at "bx1")) | ((with_reducible refine' My.SqL.kp ?h1 (by with_reducible assumption) ?h2); (case h1 => walk_at "sq"); (case h2 => walk_at "ne")))
local macro_rules | `(tactic| walk_at "sd") => `(tactic| first | assumption | omega | decide | (refine ⟨?_, ?_⟩ <;> (first | omega | decide)) | (refine Or.inl ⟨?_, ?_⟩ <;> (first | omega | decide)) | (refine Or.inr ⟨?_, ?_⟩ <;> (first | omega | decide)) | (refine ⟨?_, ?_, ?_⟩ <;> (first | omega | decide)))
local macro_rules | `(tactic| walk_at "ps") => `(tactic| first
  | with_reducible refine r_seq ?_ | with_reducible refine r_asg ?_ | with_reducible refine r_op ?_ | with_reducible refine r_cons ?_ | with_reducible refine r_nil ?_ | with_reducible refine r_c ?_
  | with_reducible refine' r_var rfl ?_ | with_reducible refine r_gname ?_ | with_reducible refine r_cb ?_ | with_reducible refine r_I0 ?_ | with_reducible refine r_ret ?_ | with_reducible refine r_ifS ?_ | with_reducible refine r_test ?_ | with_reducible refine r_B ?_
  | with_reducible refine r_next ?_ | with_reducible refine r_drop ?_ | with_reducible refine r_if ?_ | with_reducible refine r_un ?_ | with_reducible refine r_U ?_ | with_reducible refine r_gsub ?_ | with_reducible refine r_tup ?_ | with_reducible refine r_lst ?_ | with_reducible refine r_bm ?_
  | with_reducible refine r_cal ?_ | with_reducible refine r_not ?_ | with_reducible refine r_and ?_ | with_reducible refine r_or ?_ | with_reducible refine r_andV ?_ | with_reducible refine r_orV ?_ | with_reducible refine r_notV ?_
  | with_reducible refine r_abs ?_ | with_reducible refine r_intI ?_ | with_reducible refine r_intB ?_ | with_reducible refine r_m1 ?_ | with_reducible refine r_slice ?_ | with_reducible refine r_part ?_ | with_reducible refine r_nopart ?_
  | with_reducible refine r_gcons ?_ | with_reducible refine r_gnil ?_
  | with_reducible refine r_par ?_ | with_reducible refine r_par3 ?_ | with_reducible refine r_ex2 ?_ | with_reducible refine r_ex3 ?_
  | with_reducible refine r_isN ?_ | with_reducible refine r_notN ?_
  | with_reducible refine r_iZipA ?_
  | with_reducible refine r_dget ?_ | with_reducible refine r_dget2 ?_ | with_reducible refine r_iKeys ?_ | with_reducible refine r_dput ?_
  | with_reducible refine r_for ?_ | with_reducible refine r_lc ?_ | with_reducible refine r_iList ?_ | with_reducible refine r_iTup ?_ | with_reducible refine r_iRng1 ?_ | with_reducible refine r_iEnum ?_ | with_reducible refine r_orT ?_ | with_reducible refine r_yes ?_ | with_reducible refine r_ixSl ?_)
local macro_rules | `(tactic| walk_at "st") => `(tactic| first
  | walk_at "ps"
  | ((with_reducible refine' r_ixL ?h1 ?h2 ?_); (case h1 => walk_at "sq"); (case h2 => rfl))
  | ((with_reducible refine' r_setL ?h1 ?h2 ?_); (case h1 => walk_at "hp"); (case h2 => rfl))
  | ((with_reducible refine' r_I ?h1 ?_); (case h1 => walk_at "sd"))
  | ((with_reducible refine' r_eq ?h1 ?_); (case h1 => rfl)) | ((with_reducible refine' r_ne ?h1 ?_); (case h1 => rfl))
  | ((with_reducible refine' r_lenL ?h1 ?_); (case h1 => walk_at "sq")) | ((with_reducible refine' r_lenT ?h1 ?_); (case h1 => walk_at "sq")) | ((with_reducible refine' r_lenD ?h1 ?_); (case h1 => walk_at "hp"))
  | ((with_reducible refine' r_slL ?h1 ?_); (case h1 => walk_at "sq"); intro _ _)
  | ((with_reducible refine' r_append ?h1 ?h2 ?_); (case h1 => walk_at "hp"); (case h2 => exact szl (by first | omega | (simp; omega))))
  | ((with_reducible refine' r_gtup ?h1 ?h2 ?_); (case h1 => walk_at "sq"); (case h2 => rfl))
  | ((with_reducible refine' r_cat ?h1 ?h2 ?h3 ?_); (case h1 => walk_at "hp"); (case h2 => walk_at "hp"); (case h3 => exact sz (by first | omega | (simp; omega))); intro _ _)
  | ((with_reducible refine' r_wLst ?h1 ?_); (case h1 => walk_at "sq")) | ((with_reducible refine' r_wTup ?h1 ?_); (case h1 => walk_at "sq"))
  | ((with_reducible refine' r_wRng ?h1 ?_); (case h1 => walk_at "sd"))
  | ((with_reducible refine' r_truL ?h1 ?_); (case h1 => walk_at "sq"))
  | ((with_reducible refine' r_list (Or.inl ?h1) ?_); (case h1 => walk_at "sq"); intro _ _) | ((with_reducible refine' r_list (Or.inr ?h1) ?_); (case h1 => walk_at "sq"); intro _ _)
  | ((with_reducible refine' r_tupL ?h1 ?_); (case h1 => walk_at "sq"); intro _ _) | ((with_reducible refine' r_tupT ?h1 ?_); (case h1 => walk_at "sq"))
  | ((with_reducible refine' r_disp ?h1 ?_); (case h1 => exact Nat.le_of_ble_eq_true rfl); intro _ _)
  | ((with_reducible refine r_dnewK ?_); intro _ _)
  | ((with_reducible refine' r_tyL ?h1 ?_); (case h1 => walk_at "sq")) | with_reducible refine r_strV ?_
  | with_reducible refine r_exb ?_ | with_reducible refine r_exi ?_ | with_reducible refine r_exr ?_ | with_reducible refine r_exs ?_ | with_reducible refine r_exli ?_)
local macro_rules | `(tactic| walk_at "go") => `(tactic| repeat walk_at "st")
local macro_rules | `(tactic| walk_at "in") => `(tactic| dsimp only [noxK, cxK, L2.start, List.map_cons, List.map_nil, List.length_cons, List.length_nil, Nat.reduceAdd, Nat.reduceSub, List.replicate, List.cons_append, List.nil_append])


def top (i : Nat) : Stmt := PySem.Challenge.pw_onceopened_k72_whole_ends_in_any_order.main.body.getD i (.Pass ⟨0, 0, 0, 0⟩)
structure Txt (K : PySem.W.Frag) (mg : Str → Option Value) : Prop where
  int : mg "int" = none
  len : mg "len" = none
  abs : mg "abs" = none
  list : mg "list" = none
  tuple : mg "tuple" = none
  range : mg "range" = none
  enumerate : mg "enumerate" = none
  isinstance : mg "isinstance" = none
  all : mg "all" = none
  zip : mg "zip" = none
  dict : mg "dict" = none
  bool : mg "bool" = none
  str : mg "str" = none
  set : mg "set" = none
  sorted : mg "sorted" = none
  min : mg "min" = none
  sum : mg "sum" = none
section
variable {P : Program} {w : World} {K : PySem.W.Frag} {mg : Str → Option Value} {base : Heap}
abbrev sTake : Stmt := top 26
theorem scTake : FnScope ["_law_box_here", "_law_below", "_law_once", "_law_far", "_law_twice", "_law_drawn"] ["_law_box_here", "_law_below"] (defScope sTake) := ⟨rfl, rfl, rfl, by decide +kernel, rfl, by decide +kernel, by decide +kernel⟩
def spTake : Sp := fun vs H Q _ => ∃ (a : Addr) (b : Nat) (n : Int), vs = [.ref a, .int n] ∧ Bx H a (b + 1) ∧ 0 < n ∧ n < 2 ^ 100 ∧
  ∀ (d : Int) H', 0 ≤ d → d < n → Bx H' a b → Kp a H H' → Q (.int d) H'
theorem ok_take {f : Addr} {fd : FuncData} (F : Fun K "_law_take" "_law_take" sTake f fd) (T : Txt K mg) : FnOk P w K mg base CX0 1 f fd ["_law_box_here", "_law_below"] spTake := by
  refine F.ok scTake (fun vs H Q E h => ?_) (fun cdv A outer s H vs Q E hr h => ?_)
  · obtain ⟨a, b, n, rfl, _⟩ := h
    rfl
  · obtain ⟨a, b, n, rfl, ⟨x, y, z, hx, x0, y0, y1, z0, z1⟩, n0, n1, k⟩ := h
    refine ⟨_, (pss_cons (ps_if (pt_cmpR op_gt (pe_ix ix_list (pv 0) pe_int (fun _ _ => rfl)) pe_int (nomark _))
  (pss_cons (ps_set (i := 5) scTake.nd rfl (Or.inl rfl) (pe_op op_mod (pe_callTy c_int (by rfl) T.int (by decide +kernel) (pa_cons (pe_ix ix_list (pv 0) pe_int (fun _ _ => rfl)) pa_nil)) (pv 1)))
  (pss_cons (ps_asg (pe_op op_fdivW (pe_ix ix_list (pv 0) pe_int (fun _ _ => rfl)) (pv 1)) (pg_sub (pv 0) pe_int set_list))
  (pss_one (ps_ret (pv 5)))))
  pss_nil)
  (pss_cons (ps_asg (pe_op op_add (pe_ix ix_list (pv 0) pe_int (fun _ _ => rfl)) pe_int) (pg_sub (pv 0) pe_int set_list))
  (pss_cons (ps_set (i := 2) scTake.nd rfl (Or.inl rfl) (pe_op op_mod (pe_callTy c_int (by rfl) T.int (by decide +kernel) (pa_cons (pe_op op_mul (pe_op op_add (pe_ix ix_list (pv 0) pe_int (fun _ _ => rfl)) (pe_op op_mul pe_int (pe_ix ix_list (pv 0) pe_int (fun _ _ => rfl)))) (pe_op op_add pe_int (pe_ix ix_list (pv 0) pe_int (fun _ _ => rfl)))) pa_nil)) pe_int))
  (pss_cons (ps_set (i := 3) scTake.nd rfl (Or.inl rfl) (pe_op op_add (pe_op op_mod (pe_callTy c_int (by rfl) T.int (by decide +kernel) (pa_cons (pv 2) pa_nil)) pe_int) pe_int))
  (pss_cons (ps_set (i := 4) scTake.nd rfl (Or.inl rfl) (pe_op op_mod (pe_callTy c_int (by rfl) T.int (by decide +kernel) (pa_cons (pe_op op_mul (pe_op op_add (pe_op op_add (pv 2) (pe_ix ix_list (pv 0) pe_int (fun _ _ => rfl))) (pe_op op_fdiv (pe_ix ix_list (pv 0) pe_int (fun _ _ => rfl)) pe_int)) (pv 3)) pa_nil)) pe_int))
  (pss_one (ps_ret (pe_op op_mod (pe_callTy c_int (by rfl) T.int (by decide +kernel) (pa_cons (pe_op op_fdiv (pe_op op_mod (pe_callTy c_int (by rfl) T.int (by decide +kernel) (pa_cons (pe_op op_add (pe_op op_mul (pv 4) pe_int) (pv 2)) pa_nil)) pe_int) pe_int) pa_nil)) (pv 1))))))))), ?_⟩
    walk_at "in"
    walk_at "go"
    refine ite_d (fun c => ?_) (fun c => ?_)
    · walk_at "go"
      refine r_I (wide_div n0 (b := 100) (by omega) (by decide) (by decide)) ?_
      walk_at "go"
      exact k _ _ (Int.emod_nonneg _ (by omega)) (Int.emod_lt_of_pos _ n0) ⟨_, y, z, upd_same, Int.ediv_nonneg x0 (by omega), y0, y1, z0, by omega⟩ fun c o e h => by walk_at "hp"
    walk_at "go"
    exact k _ _ (Int.emod_nonneg _ (by omega)) (Int.emod_lt_of_pos _ n0) ⟨x, y, z + 1, upd_same, x0, y0, y1, by omega, by omega⟩ fun c o e h => by walk_at "hp"
abbrev sBox : Stmt := top 25
theorem scBox : FnScope ["_law_script", "_law_k", "_law_cell"] ["_law_script", "_law_k"] (defScope sBox) := ⟨rfl, rfl, rfl, by decide +kernel, rfl, by decide +kernel, by decide +kernel⟩
def spBox (K : PySem.W.Frag) : Sp := fun vs H Q _ => ∃ (a : Addr) (ns : List Int) (k : Nat), vs = [.ref a, .int k] ∧ SqL K H a (ns.map V.int) ∧ k < ns.length ∧ ns.length ≤ 63 ∧
  ∀ p H', H p = none → Bx H' p 900000000 → Same H H' → Q (.ref p) H'
theorem ok_box {f : Addr} {fd : FuncData} (F : Fun K "_law_box" "_law_box" sBox f fd) (T : Txt K mg) : FnOk P w K mg base CX0 1 f fd ["_law_script", "_law_k"] (spBox K) := by
  refine F.ok scBox (fun vs H Q E h => ?_) (fun cdv A outer s H vs Q E hr h => ?_)
  · obtain ⟨a, ns, k, rfl, _⟩ := h
    rfl
  · obtain ⟨a, ns, k, rfl, hx, h1, h2, q⟩ := h
    refine ⟨_, (pss_cons (ps_set (i := 2) scBox.nd rfl (Or.inl rfl) (pe_ifExp (pt_cmpR op_lt (pv 1) (pe_callB c_lenL (by rfl) T.len (by decide +kernel) (pa_cons (pv 0) pa_nil)) (nomark _)) (pe_ix ix_list (pv 0) (pv 1) (fun _ _ => rfl)) pe_int))
  (pss_one (ps_ret (pe_lst (pa_cons (pe_op op_mul (pe_callB c_abs (by rfl) T.abs (by decide +kernel) (pa_cons (pv 2) pa_nil)) (pe_callTy c_int (by rfl) T.int (by decide +kernel) (pa_cons (pe_cmpR op_ge (pe_callB c_abs (by rfl) T.abs (by decide +kernel) (pa_cons (pv 2) pa_nil)) (pe_op op_pow pe_int pe_int) (nomark _)) pa_nil))) (pa_cons (pe_op op_add (pe_op op_add (pe_op op_mod (pe_callTy c_int (by rfl) T.int (by decide +kernel) (pa_cons (pv 2) pa_nil)) pe_int) (pe_op op_mul pe_int (pv 1))) pe_int) (pa_cons pe_int pa_nil))))))), ?_⟩
    walk_at "in"
    walk_at "go"
    refine ite_dT (by rw [List.length_map]; omega) ?_
    walk_at "go"
    refine r_ixL (by walk_at "sq") (atI_nat (map_get h1)) ?_
    generalize ns[k] = c
    walk_at "go"
    rename_i p hp
    refine q p _ hp ⟨_, _, 0, upd_same, ?_, ?_, ?_, by decide, by decide⟩ fun c o e => by walk_at "hp"
    · refine Int.mul_nonneg ?_ ?_
      · split <;> omega
      · exact ite01 _
    · have := Int.emod_nonneg c (show (2305843009213693951 : Int) ≠ 0 by decide)
      omega
    · have := Int.emod_lt_of_pos c (show (0 : Int) < 2305843009213693951 by decide)
      omega
abbrev sCells : Stmt := top 27
theorem scCells : FnScope ["_law_script", "_law_most_so", "_law_cells_here", "_law_k", "_law_cell", "_law_at_so"] ["_law_script", "_law_most_so"] (defScope sCells) := ⟨rfl, rfl, rfl, by decide +kernel, rfl, by decide +kernel, by decide +kernel⟩
def spCells (K : PySem.W.Frag) : Sp := fun vs H Q _ => ∃ (a : Addr) (ns : List Int), vs = [.ref a, .int 3] ∧ SqL K H a (ns.map V.int) ∧ ns.length ≤ 63 ∧
  ∀ (p : Addr) (ms : List Int) (H' : Hp), H p = none → 1 ≤ ms.length → ms.length ≤ 3 → H' p = some (.lst (ms.map V.int)) → Same H H' → Q (.ref p) H'
theorem ok_cells {f : Addr} {fd : FuncData} (F : Fun K "_law_cells" "_law_cells" sCells f fd) (T : Txt K mg) : FnOk P w K mg base CX0 1 f fd ["_law_script", "_law_most_so"] (spCells K) := by
  refine F.ok scCells (fun vs H Q E h => ?_) (fun cdv A outer s H vs Q E hr h => ?_)
  · obtain ⟨a, ns, rfl, _⟩ := h
    rfl
  · obtain ⟨a, ns, rfl, hx, h1, q⟩ := h
    refine ⟨_, (Evl.pss_cut (ps_set (i := 2) scCells.nd rfl (Or.inl rfl) (pe_orT (pe_callTy c_list (by rfl) T.list (by decide +kernel) (pa_cons (pe_slice sl_list (pv 0) po_none (po_some (pv 1))) pa_nil)) (pe_one (pe_lst (pa_cons pe_int pa_nil)))))
  (pss_cons (ps_for PassesOwn.never rfl (pi_enum (by rfl) T.enumerate (pa_cons (pe_slice sl_list (pv 0) (po_some (pv 1)) (po_some pe_int)) pa_nil)) (pg_tup rfl (pgs_cons (pg_name (i := 3) scCells.nd rfl (Or.inl rfl)) (pgs_cons (pg_name (i := 4) scCells.nd rfl (Or.inl rfl)) pgs_nil)))
  (pss_cons (ps_set (i := 5) scCells.nd rfl (Or.inl rfl) (pe_op op_mod (pe_callTy c_int (by rfl) T.int (by decide +kernel) (pa_cons (pv 3) pa_nil)) (pv 1)))
  (pss_one (ps_asg (pe_op op_add (pe_ix ix_list (pv 2) (pv 5) (fun _ _ => rfl)) (pe_op op_mul (pv 4) (pe_op op_add (pv 3) pe_int))) (pg_sub (pv 2) (pv 5) set_list)))))
  (pss_one (ps_ret (pv 2))))), ?_⟩
    walk_at "in"
    refine ⟨fun σ' H' => ∃ (l : Addr) (ms : List Int), σ' = [some (.ref a), some (.int 3), some (.ref l), none, none, none] ∧ H l = none ∧ 1 ≤ ms.length ∧ ms.length ≤ 3 ∧ (3 < ns.length → ms.length = 3) ∧ H' l = some (.lst (ms.map V.int)) ∧ Same H H', ?_, ?_⟩
    · walk_at "go"
      rename_i p hp l hl
      have e3 : cutV (ns.map V.int) none (some 3) = (ns.take 3).map V.int := by rw [List.map_take]; exact cutV_to _ 3
      rw [e3] at hl ⊢
      have s1 : Same H (upd (upd H p (.lst ((ns.take 3).map V.int))) l (.lst ((ns.take 3).map V.int))) := fun c o e => by walk_at "hp"
      cases e : ns with
      | nil =>
        rw [e] at s1
        refine iteF ?_
        walk_at "go"
        rename_i q2 hq2
        exact ⟨q2, [0], rfl, s1.free hq2, by decide, by decide, fun z => absurd z (by decide), upd_same, fun c o e => by walk_at "hp"⟩
      | cons n r =>
        rw [e] at s1 hl
        refine iteT ?_
        walk_at "go"
        have hl0 : H l = none := Same.free (fun c o e => by walk_at "hp") hl
        exact ⟨l, (n :: r).take 3, rfl, hl0, by rw [List.length_take, List.length_cons]; omega, by rw [List.length_take]; omega, fun z => by rw [List.length_take]; omega, upd_same, s1⟩
    rintro σ1 H1 ⟨l, ms, rfl, hl, m1, m2, m3, hms, s1⟩
    walk_at "go"
    refine ⟨_, _, rfl, by walk_at "sq", ?_⟩
    rename_i p hp
    have e3 : cutV (ns.map V.int) (some 3) (some 63) = ((ns.drop 3).take 60).map V.int := by rw [List.map_take, List.map_drop]; exact cutV_mid _ 3 63
    rw [e3]
    have npl : l ≠ p := ne_of_none hms hp
    refine for_it (walk_enum (xs := ((ns.drop 3).take 60).map V.int)) (fun i σ H' => ∃ (ms : List Int) (x1 x2 x3 : Option V), σ = [some (.ref a), some (.int 3), some (.ref l), x1, x2, x3] ∧ 1 ≤ ms.length ∧ ms.length ≤ 3 ∧ (3 < ns.length → ms.length = 3) ∧ H' l = some (.lst (ms.map V.int)) ∧ Same H H' ∧ H' p = some (.lst (((ns.drop 3).take 60).map V.int))) ?_ ?_ ?_ ?_
    · exact ⟨ms, none, none, none, rfl, m1, m2, m3, by walk_at "hp", fun c o e => by walk_at "hp", by walk_at "hp"⟩
    · rintro i σ H2 _ ⟨_, _, _, _, _, _, _, _, _, _, h⟩
      exact SqL.of h
    · rintro i x σ H2 H3 hi ⟨ms, x1, x2, x3, rfl, m1, m2, m3, hm, s2, hp2⟩ ⟨t, u, v, rfl, ht, rfl, hu, hv⟩
      obtain rfl : V.int (i : Nat) = u := Option.some.inj hu
      rw [List.length_map, List.length_take, List.length_drop] at hi
      have hm3 : ms.length = 3 := m3 (by omega)
      obtain ⟨c, rfl, _⟩ := map_some hv
      walk_at "go"
      obtain ⟨j, hj, hj3⟩ : ∃ j : Nat, ((i : Nat) : Int) % 3 = (j : Int) ∧ j < ms.length := ⟨i % 3, by omega, by omega⟩
      rw [hj]
      refine r_ixL (by walk_at "sq") (atI_nat (j := j) (map_get hj3)) ?_
      walk_at "go"
      refine r_setL (xs := ms.map V.int) (by walk_at "hp") (ixN_lt (by rw [List.length_map]; exact hj3)) ?_
      have npt : p ≠ t := ne_of_none hp2 ht
      have nlt : l ≠ t := ne_of_none hm ht
      refine ⟨ms.set j (ms[j] + c * ((i : Int) + 2)), _, _, _, rfl, by rw [List.length_set]; exact m1, by rw [List.length_set]; exact m2, fun _ => by rw [List.length_set]; exact hm3, by rw [List.map_set]; exact upd_same, fun c o e => ?_, by walk_at "hp"⟩
      have n1 : c ≠ l := ne_of_none e hl
      walk_at "hp"
    · rintro σ H2 ⟨ms, x1, x2, x3, rfl, m1, m2, m3, hm, s2, hp2⟩
      walk_at "go"
      exact q l ms H2 hl m1 m2 hm s2
abbrev sOf : Stmt := top 28
theorem scOf : FnScope ["_law_box_here", "_law_some"] ["_law_box_here", "_law_some"] (defScope sOf) := ⟨rfl, rfl, rfl, by decide +kernel, rfl, by decide +kernel, by decide +kernel⟩
def spOf : Sp := fun vs H Q _ => ∃ (a l : Addr) (b : Nat) (xs : List V), vs = [.ref a, .ref l] ∧ Bx H a (b + 1) ∧ H l = some (.lst xs) ∧ l ≠ a ∧ 0 < xs.length ∧ xs.length ≤ 1000 ∧
  ∀ (x : V) (i : Nat) (H' : Hp), xs[i]? = some x → Bx H' a b → Kp a H H' → Q x H'
theorem ok_of {f : Addr} {fd : FuncData} (F : Fun K "_law_of" "_law_of" sOf f fd) (T : Txt K mg) (Ct : Cal P w K mg base CX0 1 "_law_take" ["_law_box_here", "_law_below"] spTake) : FnOk P w K mg base CX0 2 f fd ["_law_box_here", "_law_some"] spOf := by
  refine F.ok scOf (fun vs H Q E h => ?_) (fun cdv A outer s H vs Q E hr h => ?_)
  · obtain ⟨a, l, b, xs, rfl, _⟩ := h
    rfl
  · obtain ⟨a, l, b, xs, rfl, hb, hl, nla, h0, h1, q⟩ := h
    refine ⟨_, (pss_one (ps_ret (pe_ix ix_list (pv 1) (pe_cal Ct hr pass0 (pa_cons (pv 0) (pa_cons (pe_callB c_lenL (by rfl) T.len (by decide +kernel) (pa_cons (pv 1) pa_nil)) pa_nil))) (fun _ _ => rfl)))), ?_⟩
    walk_at "in"
    walk_at "go"
    refine ⟨a, b, xs.length, rfl, by walk_at "bx", by omega, by omega, fun d H1 d0 d1 bx1 kp1 => ?_⟩
    obtain ⟨j, rfl⟩ : ∃ j : Nat, d = j := ⟨d.toNat, by omega⟩
    have hj : j < xs.length := by omega
    refine r_ixL (by walk_at "sq") (atI_nat (List.getElem?_eq_getElem hj)) ?_
    exact q _ j _ (List.getElem?_eq_getElem hj) bx1 kp1
end


/-- the same data, to a depth -/
def Sm (K : PySem.W.Frag) : Nat → V → V → Hp → Prop
  | 0, _, _, _ => False
  | n + 1, x, y, H => (x = y ∧ (x = .non ∨ (∃ b, x = .bl b) ∨ (∃ i, x = .int i) ∨ ∃ s, x = .str s)) ∨
    (∃ a b xs ys, x = .ref a ∧ y = .ref b ∧ H a = some (.lst xs) ∧ H b = some (.lst ys) ∧ xs.length = ys.length ∧ xs.length ≤ 1000 ∧ ∀ (i : Nat) (u v : V), xs[i]? = some u → ys[i]? = some v → Sm K n u v H) ∨
    (∃ a b xs ys, x = .ref a ∧ y = .ref b ∧ H a = some (.tup xs) ∧ H b = some (.tup ys) ∧ xs.length = ys.length ∧ xs.length ≤ 1000 ∧ ∀ (i : Nat) (u v : V), xs[i]? = some u → ys[i]? = some v → Sm K n u v H)
theorem walk_zipT {K : PySem.W.Frag} {a b : Addr} {xs ys : List V} {n : Nat} (h1 : n = xs.length) (h2 : n = ys.length) : Walk (RZ.ItzT K a b) n (fun H => SqT K H a xs ∧ SqT K H b ys) (YPair (fun i => xs[i]?) (fun i => ys[i]?)) := by
  refine ⟨fun i _ hi q => ?_, fun _ q => ⟨xs, ys, q.1, q.2, by omega⟩, fun i H v H' _ q y => ?_⟩
  · have h1 : i < xs.length := by omega
    have h2 : i < ys.length := by omega
    exact ⟨xs, ys, xs[i], ys[i], q.1, q.2, by simp [h1], by simp [h2]⟩
  · obtain ⟨T, x, z, h1, h2, h3, h4, h5⟩ := y
    exact ⟨T, x, z, h1, h2, h3, h4 xs q.1, h5 ys q.2⟩
theorem Sm.same {K : PySem.W.Frag} : ∀ {n : Nat} {x y : V} {H H' : Hp}, Sm K n x y H → Same H H' → Sm K n x y H'
  | 0, _, _, _, _, h, _ => h.elim
  | n + 1, x, y, H, H', h, e => by
    rcases h with h | ⟨a, b, xs, ys, h1, h2, h3, h4, h5, h6, h7⟩ | ⟨a, b, xs, ys, h1, h2, h3, h4, h5, h6, h7⟩
    · exact .inl h
    · exact .inr (.inl ⟨a, b, xs, ys, h1, h2, e _ _ h3, e _ _ h4, h5, h6, fun i u v hu hv => (h7 i u v hu hv).same e⟩)
    · exact .inr (.inr ⟨a, b, xs, ys, h1, h2, e _ _ h3, e _ _ h4, h5, h6, fun i u v hu hv => (h7 i u v hu hv).same e⟩)
section
variable {P : Program} {w : World} {K : PySem.W.Frag} {mg : Str → Option Value} {base : Heap}
abbrev sSame : Stmt := top 29
theorem scSame : FnScope ["_law_got", "_law_due", "_law_own", "_law_mine", "_law_its"] ["_law_got", "_law_due"] (defScope sSame) := ⟨rfl, rfl, rfl, by decide +kernel, rfl, by decide +kernel, by decide +kernel⟩
def spSame (K : PySem.W.Frag) (n : Nat) : Sp := fun vs H Q _ => ∃ x y, vs = [x, y] ∧ Sm K n x y H ∧ ∀ H', Same H H' → Q (.bl true) H'
theorem ok_same {f : Addr} {fd : FuncData} (F : Fun K "_law_same" "_law_same" sSame f fd) (T : Txt K mg) (n : Nat) (Cs : Cal P w K mg base CX0 n "_law_same" ["_law_got", "_law_due"] (spSame K n)) : FnOk P w K mg base CX0 (n + 1) f fd ["_law_got", "_law_due"] (spSame K (n + 1)) := by
  refine F.ok scSame (fun vs H Q E h => ?_) (fun cdv A outer s H vs Q E hr h => ?_)
  · obtain ⟨x, y, rfl, _⟩ := h
    rfl
  · obtain ⟨x, y, rfl, hs, q⟩ := h
    refine ⟨_, (pss_cons (ps_if (pt_val (pe_callB call_isiT (by rfl) T.isinstance (by decide +kernel) (pa_cons (pv 1) (pa_cons (pe_tup (pa_cons (pe_bltn (v := .ty "list") (by rfl) T.list (by decide +kernel) rfl) (pa_cons (pe_bltn (v := .ty "tuple") (by rfl) T.tuple (by decide +kernel) rfl) pa_nil))) pa_nil))))
  (pss_cons (ps_if (PW.pt (pw_or (pt_cmpR op_ne (pe_callB call_isi (by rfl) T.isinstance (by decide +kernel) (pa_cons (pv 0) (pa_cons (pe_bltn (v := .ty "list") (by rfl) T.list (by decide +kernel) rfl) pa_nil))) (pe_callB call_isi (by rfl) T.isinstance (by decide +kernel) (pa_cons (pv 1) (pa_cons (pe_bltn (v := .ty "list") (by rfl) T.list (by decide +kernel) rfl) pa_nil))) (nomark _)) (pw_or1 (pt_cmpR op_ne (pe_callB call_isi (by rfl) T.isinstance (by decide +kernel) (pa_cons (pv 0) (pa_cons (pe_bltn (v := .ty "tuple") (by rfl) T.tuple (by decide +kernel) rfl) pa_nil))) (pe_callB call_isi (by rfl) T.isinstance (by decide +kernel) (pa_cons (pv 1) (pa_cons (pe_bltn (v := .ty "tuple") (by rfl) T.tuple (by decide +kernel) rfl) pa_nil))) (nomark _)))))
  (pss_one (ps_ret pe_bl))
  pss_nil)
  (pss_one (ps_ret (pe_and (pe_cmpR op_eq (pe_callB call_len (by rfl) T.len (by decide +kernel) (pa_cons (pv 0) pa_nil)) (pe_callB call_len (by rfl) T.len (by decide +kernel) (pa_cons (pv 1) pa_nil)) (nomark _)) (pe_one (pe_callB (cr_all rfl) (by rfl) T.all (by decide +kernel) (pa_cons (pe_lc (own := [("_law_mine", 3), ("_law_its", 4)]) (g := gTup _ 2 (gCons (gName 3) (gCons (gName 4) gNil))) (tt := tYes) rfl scSame.nd (RZ.pi_zipA (by rfl) T.zip (pa_cons (pv 0) (pa_cons (pv 1) pa_nil))) (blkOk_by (N := ["_law_got", "_law_due", "_law_own", "_law_mine", "_law_its"]) (sc := defScope sSame) (by decide +kernel)) (fun _ _ _ _ _ => (pg_tup rfl (pgs_cons (pg_name (i := 3) scSame.nd rfl (Or.inl rfl)) (pgs_cons (pg_name (i := 4) scSame.nd rfl (Or.inl rfl)) pgs_nil)))) (fun _ _ _ _ _ => pts_nil) (fun _ _ _ _ _ => (pe_cal Cs hr pass0 (pa_cons (pv 3) (pa_cons (pv 4) pa_nil))))) pa_nil)))))))
  pss_nil)
  (pss_cons (ps_if (pt_val (pe_callB call_isi (by rfl) T.isinstance (by decide +kernel) (pa_cons (pv 1) (pa_cons (pe_bltn (v := .ty "dict") (by rfl) T.dict (by decide +kernel) rfl) pa_nil))))
  pss_never
  pss_nil)
  (pss_cons (ps_if (PW.pt (pw_or (pt_cmpR o_isN (pv 1) pe_non (nomark _)) (pw_or1 (pt_val (pe_callB call_isiT (by rfl) T.isinstance (by decide +kernel) (pa_cons (pv 1) (pa_cons (pe_tup (pa_cons (pe_bltn (v := .ty "bool") (by rfl) T.bool (by decide +kernel) rfl) (pa_cons (pe_bltn (v := .ty "str") (by rfl) T.str (by decide +kernel) rfl) pa_nil))) pa_nil)))))))
  (pss_one (ps_ret (pe_and (pe_cmpR op_eq (pv 0) (pv 1) (nomark _)) (pe_and (pe_cmpR op_eq (pe_callB call_isi (by rfl) T.isinstance (by decide +kernel) (pa_cons (pv 0) (pa_cons (pe_bltn (v := .ty "bool") (by rfl) T.bool (by decide +kernel) rfl) pa_nil))) (pe_callB call_isi (by rfl) T.isinstance (by decide +kernel) (pa_cons (pv 1) (pa_cons (pe_bltn (v := .ty "bool") (by rfl) T.bool (by decide +kernel) rfl) pa_nil))) (nomark _)) (pe_one (pe_cmpR op_eq (pe_cmpR o_isN (pv 0) pe_non (nomark _)) (pe_cmpR o_isN (pv 1) pe_non (nomark _)) (nomark _)))))))
  pss_nil)
  (pss_one (ps_ret (pe_and (pe_callB call_isi (by rfl) T.isinstance (by decide +kernel) (pa_cons (pv 0) (pa_cons (pe_bltn (v := .ty "int") (by rfl) T.int (by decide +kernel) rfl) pa_nil))) (pe_and (pe_not (pe_callB call_isi (by rfl) T.isinstance (by decide +kernel) (pa_cons (pv 0) (pa_cons (pe_bltn (v := .ty "bool") (by rfl) T.bool (by decide +kernel) rfl) pa_nil)))) (pe_one (pe_cmpR op_eq (pv 0) (pv 1) (nomark _)))))))))), ?_⟩
    walk_at "in"
    walk_at "go"
    rename_i p hp
    have fin : ∀ (v w : V) (H' : Hp), v = w → Same H H' → Q (V.bl (decide (v = w))) H' := fun v w H' e s => by rw [decide_eq_true e]; exact q H' s
    rcases hs with ⟨rfl, h⟩ | ⟨a, b, xs, ys, rfl, rfl, ha, hb, hl, h1000, hs⟩ | ⟨a, b, xs, ys, rfl, rfl, ha, hb, hl, h1000, hs⟩
    · rcases h with rfl | ⟨b, rfl⟩ | ⟨i, rfl⟩ | ⟨z, rfl⟩
      · refine r_isiT (T := "NoneType") false false (.base .non) upd_same (by decide +kernel) (by decide +kernel) ?_
        walk_at "go"
        refine iteF ?_
        walk_at "go"
        refine r_isi (T := "NoneType") false (.base .non) (by decide +kernel) ?_
        walk_at "go"
        refine iteF ?_
        walk_at "go"
        refine ite_dT rfl ?_
        refine iteT ?_
        walk_at "go"
        refine ite_dT rfl ?_
        walk_at "go"
        refine r_isi (T := "NoneType") false (.base .non) (by decide +kernel) ?_
        walk_at "go"
        refine r_isi (T := "NoneType") false (.base .non) (by decide +kernel) ?_
        walk_at "go"
        refine ite_dT rfl ?_
        walk_at "go"
        exact fin _ _ _ rfl (fun c o e => by walk_at "hp")
      · refine r_isiT (T := "bool") false false (.base (.bl _)) upd_same (by decide +kernel) (by decide +kernel) ?_
        walk_at "go"
        refine iteF ?_
        walk_at "go"
        refine r_isi (T := "bool") false (.base (.bl _)) (by decide +kernel) ?_
        walk_at "go"
        refine iteF ?_
        walk_at "go"
        refine ite_dF (fun z => by cases z) ?_
        walk_at "go"
        rename_i p2 hp2
        refine r_isiT (T := "bool") true false (.base (.bl _)) upd_same (by decide +kernel) (by decide +kernel) ?_
        walk_at "go"
        refine iteT ?_
        walk_at "go"
        refine ite_dT rfl ?_
        walk_at "go"
        refine r_isi (T := "bool") true (.base (.bl _)) (by decide +kernel) ?_
        walk_at "go"
        refine r_isi (T := "bool") true (.base (.bl _)) (by decide +kernel) ?_
        walk_at "go"
        refine ite_dT rfl ?_
        walk_at "go"
        exact fin _ _ _ rfl (fun c o e => by walk_at "hp")
      · refine r_isiT (T := "int") false false (.base (.int _)) upd_same (by decide +kernel) (by decide +kernel) ?_
        walk_at "go"
        refine iteF ?_
        walk_at "go"
        refine r_isi (T := "int") false (.base (.int _)) (by decide +kernel) ?_
        walk_at "go"
        refine iteF ?_
        walk_at "go"
        refine ite_dF (fun z => by cases z) ?_
        walk_at "go"
        rename_i p2 hp2
        refine r_isiT (T := "int") false false (.base (.int _)) upd_same (by decide +kernel) (by decide +kernel) ?_
        walk_at "go"
        refine iteF ?_
        walk_at "go"
        refine r_isi (T := "int") true (.base (.int _)) (by decide +kernel) ?_
        walk_at "go"
        refine iteT ?_
        walk_at "go"
        refine r_isi (T := "int") false (.base (.int _)) (by decide +kernel) ?_
        walk_at "go"
        refine iteT ?_
        walk_at "go"
        exact fin _ _ _ rfl (fun c o e => by walk_at "hp")
      · refine r_isiT (T := "str") false false (.base (.str _)) upd_same (by decide +kernel) (by decide +kernel) ?_
        walk_at "go"
        refine iteF ?_
        walk_at "go"
        refine r_isi (T := "str") false (.base (.str _)) (by decide +kernel) ?_
        walk_at "go"
        refine iteF ?_
        walk_at "go"
        refine ite_dF (fun z => by cases z) ?_
        walk_at "go"
        rename_i p2 hp2
        refine r_isiT (T := "str") false true (.base (.str _)) upd_same (by decide +kernel) (by decide +kernel) ?_
        walk_at "go"
        refine iteT ?_
        walk_at "go"
        refine ite_dT rfl ?_
        walk_at "go"
        refine r_isi (T := "str") false (.base (.str _)) (by decide +kernel) ?_
        walk_at "go"
        refine r_isi (T := "str") false (.base (.str _)) (by decide +kernel) ?_
        walk_at "go"
        refine ite_dT rfl ?_
        walk_at "go"
        exact fin _ _ _ rfl (fun c o e => by walk_at "hp")
    --LISTS
    · refine r_isiT (T := "list") true false (tyL (by walk_at "hp")) upd_same (by decide +kernel) (by decide +kernel) ?_
      walk_at "go"
      refine iteT ?_
      walk_at "go"
      refine r_isi (T := "list") true (tyL (by walk_at "hp")) (by decide +kernel) ?_
      walk_at "go"
      refine r_isi (T := "list") true (tyL (by walk_at "hp")) (by decide +kernel) ?_
      walk_at "go"
      refine ite_ndF rfl ?_
      walk_at "go"
      refine r_isi (T := "list") false (tyL (by walk_at "hp")) (by decide +kernel) ?_
      walk_at "go"
      refine r_isi (T := "list") false (tyL (by walk_at "hp")) (by decide +kernel) ?_
      walk_at "go"
      refine ite_ndF rfl ?_
      walk_at "go"
      refine ⟨_, xs.length, rfl, Or.inl ⟨xs, by walk_at "sq", rfl⟩, ?_⟩
      walk_at "go"
      refine ⟨_, ys.length, rfl, Or.inl ⟨ys, by walk_at "sq", rfl⟩, ?_⟩
      walk_at "go"
      refine ite_dT (by rw [hl]) ?_
      walk_at "go"
      refine ⟨a, b, xs, ys, rfl, Or.inl ⟨by walk_at "sq", by walk_at "sq", ?_⟩⟩
      intro D hD
      have hD0 : H D = none := by rw [upd_ne (by intro z; rw [z, upd_same] at hD; cases hD)] at hD; exact hD
      refine lc_it (walk_zip (xs := xs) (ys := ys) (n := xs.length) (by omega)) (fun i H' => H' D = some (.lst ((List.replicate i true).map V.bl)) ∧ Same H H') ?_ ?_ ?_ ?_
      · exact ⟨upd_same, fun c o e => by walk_at "hp"⟩
      · rintro i H1 _ ⟨_, s1⟩
        exact ⟨SqL.of (s1 _ _ ha), SqL.of (s1 _ _ hb)⟩
      · rintro i _ H1 _ hi ⟨hD1, s1⟩ ⟨t, u, v, rfl, ht, rfl, hu, hv⟩
        walk_at "go"
        refine ⟨rfl, r_yes (iteT ?_)⟩
        walk_at "go"
        refine ⟨u, v, rfl, (hs i u v hu hv).same (fun c o e => by walk_at "hp"), fun H2 s2 => ?_⟩
        have hD2 : H2 D = some (.lst ((List.replicate i true).map V.bl)) := by walk_at "hp"
        refine ⟨_, hD2, szl (by rw [List.length_map, List.length_replicate]; exact Nat.lt_of_lt_of_le hi (by omega)), ?_, fun c o e => ?_⟩
        · rw [List.replicate_succ', List.map_append]
          exact upd_same
        · have n1 : c ≠ D := ne_of_none e hD0
          walk_at "hp"
      · rintro H1 ⟨hD1, s1⟩
        walk_at "go"
        refine r_all (SqL.of hD1) ?_
        have e : (List.replicate xs.length true).all id = true := by rw [List.all_eq_true]; intro b hb; rw [List.eq_of_mem_replicate hb]; rfl
        rw [e]
        exact q _ s1
    · refine r_isiT (T := "tuple") false true (tyT (by walk_at "hp")) upd_same (by decide +kernel) (by decide +kernel) ?_
      walk_at "go"
      refine iteT ?_
      walk_at "go"
      refine r_isi (T := "tuple") false (tyT (by walk_at "hp")) (by decide +kernel) ?_
      walk_at "go"
      refine r_isi (T := "tuple") false (tyT (by walk_at "hp")) (by decide +kernel) ?_
      walk_at "go"
      refine ite_ndF rfl ?_
      walk_at "go"
      refine r_isi (T := "tuple") true (tyT (by walk_at "hp")) (by decide +kernel) ?_
      walk_at "go"
      refine r_isi (T := "tuple") true (tyT (by walk_at "hp")) (by decide +kernel) ?_
      walk_at "go"
      refine ite_ndF rfl ?_
      walk_at "go"
      refine ⟨_, xs.length, rfl, Or.inr ⟨xs, by walk_at "sq", rfl⟩, ?_⟩
      walk_at "go"
      refine ⟨_, ys.length, rfl, Or.inr ⟨ys, by walk_at "sq", rfl⟩, ?_⟩
      walk_at "go"
      refine ite_dT (by rw [hl]) ?_
      walk_at "go"
      refine ⟨a, b, xs, ys, rfl, Or.inr ⟨by walk_at "sq", by walk_at "sq", ?_⟩⟩
      intro D hD
      have hD0 : H D = none := by rw [upd_ne (by intro z; rw [z, upd_same] at hD; cases hD)] at hD; exact hD
      refine lc_it (walk_zipT (xs := xs) (ys := ys) (n := xs.length) rfl hl) (fun i H' => H' D = some (.lst ((List.replicate i true).map V.bl)) ∧ Same H H') ?_ ?_ ?_ ?_
      · exact ⟨upd_same, fun c o e => by walk_at "hp"⟩
      · rintro i H1 _ ⟨_, s1⟩
        exact ⟨SqT.of (s1 _ _ ha), SqT.of (s1 _ _ hb)⟩
      · rintro i _ H1 _ hi ⟨hD1, s1⟩ ⟨t, u, v, rfl, ht, rfl, hu, hv⟩
        walk_at "go"
        refine ⟨rfl, r_yes (iteT ?_)⟩
        walk_at "go"
        refine ⟨u, v, rfl, (hs i u v hu hv).same (fun c o e => by walk_at "hp"), fun H2 s2 => ?_⟩
        have hD2 : H2 D = some (.lst ((List.replicate i true).map V.bl)) := by walk_at "hp"
        refine ⟨_, hD2, szl (by rw [List.length_map, List.length_replicate]; exact Nat.lt_of_lt_of_le hi (by omega)), ?_, fun c o e => ?_⟩
        · rw [List.replicate_succ', List.map_append]
          exact upd_same
        · have n1 : c ≠ D := ne_of_none e hD0
          walk_at "hp"
      · rintro H1 ⟨hD1, s1⟩
        walk_at "go"
        refine r_all (SqL.of hD1) ?_
        have e : (List.replicate xs.length true).all id = true := by rw [List.all_eq_true]; intro b hb; rw [List.eq_of_mem_replicate hb]; rfl
        rw [e]
        exact q _ s1

end


section
variable {P : Program} {w : World} {K : PySem.W.Frag} {mg : Str → Option Value} {base : Heap} {C : Addr}
theorem put_pos {m : AL} {k : Str} {n : Int} (h : ∀ p ∈ m, 0 < p.2) (hn : 0 < n) : ∀ p ∈ put m k n, 0 < p.2 := by
  intro p hp
  unfold put at hp
  split at hp
  · obtain ⟨q, hq, e⟩ := List.mem_map.mp hp
    split at e
    · rw [← e]
      exact hn
    · rw [← e]
      exact h q hq
  · rcases List.mem_append.mp hp with z | z
    · exact h p z
    · rw [List.mem_singleton.mp z]
      exact hn
abbrev sOwnCounted : Stmt := top 15
theorem scOwnCounted : FnScope ["pairs", "found", "kind", "many"] ["pairs"] (defScope sOwnCounted) := ⟨rfl, rfl, rfl, by decide +kernel, rfl, by decide +kernel, by decide +kernel⟩
def spOwnCounted (K : PySem.W.Frag) : Sp := fun vs H Q _ => ∃ (l : Addr) (xs : List V) (ps : AL), vs = [.ref l] ∧ SqL K H l xs ∧ Paired (PrA H) xs ps ∧ xs.length ≤ 30 ∧ (∀ p ∈ ps, 0 ≤ p.2) ∧
  ∀ (d : Addr) (m : AL) (H' : Hp), H d = none → H' d = some (.dK (enc m)) → (keys m).Nodup → (∀ p ∈ m, 0 < p.2) → (∀ k, get m k = tot ps k) → m.length ≤ xs.length → Same H H' → Q (.ref d) H'
theorem ok_ownCounted {f : Addr} {fd : FuncData} (F : Fun K "_counted" "_counted" sOwnCounted f fd) (T : Txt K mg) : FnOk P w K mg base CX0 1 f fd ["pairs"] (spOwnCounted K) := by
  refine F.ok scOwnCounted (fun vs H Q E h => ?_) (fun cdv A outer s H vs Q E hr h => ?_)
  · obtain ⟨l, xs, ps, rfl, _⟩ := h
    rfl
  · obtain ⟨l, xs, ps, rfl, hl, hps, h30, h0, q⟩ := h
    have hu := hu_of hr
    refine ⟨_, (pss_cons (ps_set (i := 1) scOwnCounted.nd rfl (Or.inl rfl) pe_dnewK)
  (pss_cons (ps_for PassesOwn.never rfl (pi_list (pv 0)) (pg_tup rfl (pgs_cons (pg_name (i := 2) scOwnCounted.nd rfl (Or.inl rfl)) (pgs_cons (pg_name (i := 3) scOwnCounted.nd rfl (Or.inl rfl)) pgs_nil)))
  (pss_cons (ps_if (pt_cmpR op_lt (pv 3) pe_int (nomark _))
  pss_never
  pss_nil)
  (pss_one (ps_if (pt_cmpR op_gt (pv 3) pe_int (nomark _))
  (pss_one (ps_dput hu (pv 1) (pv 2) (pe_op op_add (pe_dget2 hu (pv 1) (pv 2) pe_int ⟨rfl, rfl, rfl, rfl⟩) (pv 3)) rfl))
  pss_nil))))
  (pss_one (ps_ret (pv 1))))), ?_⟩
    walk_at "in"
    walk_at "go"
    rename_i d hd
    have lps := Paired.len hps
    refine for_it (walk_list (xs := xs)) (fun i σ H' => ∃ (m : AL) (x2 x3 : Option V), σ = [some (.ref l), some (.ref d), x2, x3] ∧ H' d = some (.dK (enc m)) ∧ (keys m).Nodup ∧ (∀ p ∈ m, 0 < p.2) ∧ (∀ k, get m k = tot (ps.take i) k) ∧ m.length ≤ i ∧ Same H H') ?_ ?_ ?_ ?_
    · exact ⟨[], none, none, rfl, upd_same, List.nodup_nil, fun p h => by simp at h, fun k => rfl, Nat.le_refl _, fun c o e => by walk_at "hp"⟩
    · rintro i σ H' _ ⟨_, _, _, _, _, _, _, _, _, s1⟩
      exact s1.seq hl
    · rintro i x σ _ H1 hi ⟨m, x2, x3, rfl, hm, nd, mp, hg, lm, s1⟩ ⟨rfl, hx⟩
      obtain ⟨p, hp, t, rfl, ht⟩ := Paired.at hps hx
      have p0 : 0 ≤ p.2 := h0 p (List.mem_of_getElem? hp)
      walk_at "go"
      refine ite_dF (by omega) ?_
      walk_at "go"
      have stp : ∀ k, tot (ps.take (i + 1)) k = tot (ps.take i) k + (if p.1 = k then p.2 else 0) := fun k => tot_take hp k
      refine ite_d (fun c => ?_) (fun c => ?_)
      · walk_at "go"
        refine ⟨Or.inl ⟨enc m, Or.inl hm⟩, ?_⟩
        walk_at "go"
        refine ⟨_, DGet_enc (r := look m p.1) (Or.inl hm) rfl, ?_⟩
        rw [get_look]
        walk_at "go"
        have gnn := get_nn mp nd p.1
        refine ⟨d, _, rfl, DPut_enc hm (szl (by omega)), put m p.1 (get m p.1 + p.2), _, _, rfl, upd_same, put_nodup nd, put_pos mp (by omega), fun k => ?_, ?_, fun c o e => ?_⟩
        · rw [get_put, stp, ← hg k]
          by_cases c : k = p.1
          · rw [if_pos c, if_pos c.symm, c]
          · rw [if_neg c, if_neg (Ne.symm c), Int.add_zero]
        · have := put_len m p.1 (get m p.1 + p.2)
          omega
        · have n1 : c ≠ d := ne_of_none e hd
          walk_at "hp"
      · walk_at "go"
        refine ⟨m, _, _, rfl, hm, nd, mp, fun k => ?_, by omega, s1⟩
        rw [hg k, stp]
        have : p.2 = 0 := by omega
        rw [this]
        split <;> omega
    · rintro σ H1 ⟨m, x2, x3, rfl, hm, nd, mp, hg, lm, s1⟩
      walk_at "go"
      refine q d m H1 hd hm nd mp (fun k => ?_) lm s1
      have e := hg k
      rw [lps, List.take_length] at e
      exact e
end


section
variable {P : Program} {w : World} {K : PySem.W.Frag} {mg : Str → Option Value} {base : Heap} {C : Addr}
abbrev sOwnCountedT : Stmt := top 15
theorem scOwnCountedT : FnScope ["pairs", "found", "kind", "many"] ["pairs"] (defScope sOwnCountedT) := ⟨rfl, rfl, rfl, by decide +kernel, rfl, by decide +kernel, by decide +kernel⟩
def spOwnCountedT (K : PySem.W.Frag) : Sp := fun vs H Q _ => ∃ (l : Addr) (xs : List V) (ps : AL), vs = [.ref l] ∧ SqT K H l xs ∧ Paired (PrA H) xs ps ∧ xs.length ≤ 30 ∧ (∀ p ∈ ps, 0 ≤ p.2) ∧
  ∀ (d : Addr) (m : AL) (H' : Hp), H d = none → H' d = some (.dK (enc m)) → (keys m).Nodup → (∀ p ∈ m, 0 < p.2) → (∀ k, get m k = tot ps k) → m.length ≤ xs.length → Same H H' → Q (.ref d) H'
theorem ok_ownCountedT {f : Addr} {fd : FuncData} (F : Fun K "_counted" "_counted" sOwnCountedT f fd) (T : Txt K mg) : FnOk P w K mg base CX0 1 f fd ["pairs"] (spOwnCountedT K) := by
  refine F.ok scOwnCountedT (fun vs H Q E h => ?_) (fun cdv A outer s H vs Q E hr h => ?_)
  · obtain ⟨l, xs, ps, rfl, _⟩ := h
    rfl
  · obtain ⟨l, xs, ps, rfl, hl, hps, h30, h0, q⟩ := h
    have hu := hu_of hr
    refine ⟨_, (pss_cons (ps_set (i := 1) scOwnCountedT.nd rfl (Or.inl rfl) pe_dnewK)
  (pss_cons (ps_for PassesOwn.never rfl (pi_tup (pv 0)) (pg_tup rfl (pgs_cons (pg_name (i := 2) scOwnCountedT.nd rfl (Or.inl rfl)) (pgs_cons (pg_name (i := 3) scOwnCountedT.nd rfl (Or.inl rfl)) pgs_nil)))
  (pss_cons (ps_if (pt_cmpR op_lt (pv 3) pe_int (nomark _))
  pss_never
  pss_nil)
  (pss_one (ps_if (pt_cmpR op_gt (pv 3) pe_int (nomark _))
  (pss_one (ps_dput hu (pv 1) (pv 2) (pe_op op_add (pe_dget2 hu (pv 1) (pv 2) pe_int ⟨rfl, rfl, rfl, rfl⟩) (pv 3)) rfl))
  pss_nil))))
  (pss_one (ps_ret (pv 1))))), ?_⟩
    walk_at "in"
    walk_at "go"
    rename_i d hd
    have lps := Paired.len hps
    refine for_it (walk_tup (xs := xs)) (fun i σ H' => ∃ (m : AL) (x2 x3 : Option V), σ = [some (.ref l), some (.ref d), x2, x3] ∧ H' d = some (.dK (enc m)) ∧ (keys m).Nodup ∧ (∀ p ∈ m, 0 < p.2) ∧ (∀ k, get m k = tot (ps.take i) k) ∧ m.length ≤ i ∧ Same H H') ?_ ?_ ?_ ?_
    · exact ⟨[], none, none, rfl, upd_same, List.nodup_nil, fun p h => by simp at h, fun k => rfl, Nat.le_refl _, fun c o e => by walk_at "hp"⟩
    · rintro i σ H' _ ⟨_, _, _, _, _, _, _, _, _, s1⟩
      exact SqT.same hl s1
    · rintro i x σ _ H1 hi ⟨m, x2, x3, rfl, hm, nd, mp, hg, lm, s1⟩ ⟨rfl, hx⟩
      obtain ⟨p, hp, t, rfl, ht⟩ := Paired.at hps hx
      have p0 : 0 ≤ p.2 := h0 p (List.mem_of_getElem? hp)
      walk_at "go"
      refine ite_dF (by omega) ?_
      walk_at "go"
      have stp : ∀ k, tot (ps.take (i + 1)) k = tot (ps.take i) k + (if p.1 = k then p.2 else 0) := fun k => tot_take hp k
      refine ite_d (fun c => ?_) (fun c => ?_)
      · walk_at "go"
        refine ⟨Or.inl ⟨enc m, Or.inl hm⟩, ?_⟩
        walk_at "go"
        refine ⟨_, DGet_enc (r := look m p.1) (Or.inl hm) rfl, ?_⟩
        rw [get_look]
        walk_at "go"
        have gnn := get_nn mp nd p.1
        refine ⟨d, _, rfl, DPut_enc hm (szl (by omega)), put m p.1 (get m p.1 + p.2), _, _, rfl, upd_same, put_nodup nd, put_pos mp (by omega), fun k => ?_, ?_, fun c o e => ?_⟩
        · rw [get_put, stp, ← hg k]
          by_cases c : k = p.1
          · rw [if_pos c, if_pos c.symm, c]
          · rw [if_neg c, if_neg (Ne.symm c), Int.add_zero]
        · have := put_len m p.1 (get m p.1 + p.2)
          omega
        · have n1 : c ≠ d := ne_of_none e hd
          walk_at "hp"
      · walk_at "go"
        refine ⟨m, _, _, rfl, hm, nd, mp, fun k => ?_, by omega, s1⟩
        rw [hg k, stp]
        have : p.2 = 0 := by omega
        rw [this]
        split <;> omega
    · rintro σ H1 ⟨m, x2, x3, rfl, hm, nd, mp, hg, lm, s1⟩
      walk_at "go"
      refine q d m H1 hd hm nd mp (fun k => ?_) lm s1
      have e := hg k
      rw [lps, List.take_length] at e
      exact e
end


section
variable {P : Program} {w : World} {K : PySem.W.Frag} {mg : Str → Option Value} {base : Heap} {C : Addr}
abbrev sLotInit : Stmt := inClass (top 17) 0
theorem scLotInit : FnScope ["self", "pairs"] ["self", "pairs"] (defScope sLotInit) := ⟨rfl, rfl, rfl, by decide +kernel, rfl, by decide +kernel, by decide +kernel⟩
/-- what __init__ is given: pairs as a list -/
def spLotInit (K : PySem.W.Frag) (C : Addr) : Sp := fun vs H Q _ => ∃ (p dx l : Addr) (xs : List V) (ps : AL), vs = [.ref p, .ref l] ∧ H p = some (.ins C dx []) ∧ SqL K H l xs ∧ Paired (PrA H) xs ps ∧ xs.length ≤ 30 ∧ (∀ q ∈ ps, 0 ≤ q.2) ∧
  ∀ (m : AL) (H' : Hp), LoN C H H' p m → (∀ k, get m k = tot ps k) → (∀ c o, H c = some o → c ≠ p → H' c = some o) → Q .non H'
theorem ok_lotInit {f t0 : Addr} {fd : FuncData} (F : FunD K "__init__" "Lot.__init__" (defArgs sLotInit) (defBody sLotInit) (defScope sLotInit) [.ref t0] [] f fd) (L : TxL K C) (Cc : Cal P w K mg base CX0 1 "counted_lots" ["pairs"] (spOwnCounted K)) : FnOk P w K mg base CX0 2 f fd ["self", "pairs"] (spLotInit K C) := by
  refine F.ok scLotInit (fun vs H Q E h => ?_) (fun cdv A outer s H vs Q E hr h => ?_)
  · obtain ⟨p, dx, l, xs, ps, rfl, _⟩ := h
    rfl
  · obtain ⟨p, dx, l, xs, ps, rfl, hp, hl, hps, h30, h0, q⟩ := h
    refine ⟨_, (pss_one (ps_fld (pv 0) (pe_cal Cc hr pass0 (pa_cons (pv 1) pa_nil)) rfl)), ?_⟩
    walk_at "in"
    show tCal (spOwnCounted K) E0 (tCons (tVar 1) tNil) _ H _
    walk_at "go"
    refine ⟨l, xs, ps, rfl, hl, hps, h30, h0, fun d m H1 hd hm nd mp hg lm s1 => ?_⟩
    have n1 : d ≠ p := fun z => by rw [z, hp] at hd; cases hd
    refine ⟨_, rfl, p, C, dx, [], rfl, s1 _ _ hp, L.oc.cl, L.nM, by show 0 < 1000; decide, ?_⟩
    refine q m _ ⟨d, hd, ⟨dx, upd_same⟩, by walk_at "hp", nd, mp, by omega⟩ hg fun c o e n => ?_
    walk_at "hp"
abbrev sLotGetitem : Stmt := inClass (top 17) 2
theorem scLotGetitem : FnScope ["self", "at"] ["self", "at"] (defScope sLotGetitem) := ⟨rfl, rfl, rfl, by decide +kernel, rfl, by decide +kernel, by decide +kernel⟩
def spLotGetitem (C : Addr) : Sp := fun vs H Q _ => ∃ (a : Addr) (k : Str) (m : AL), vs = [.ref a, .str k] ∧ LoA C H a m ∧ Q (.int (get m k)) H
theorem ok_lotGetitem {f : Addr} {fd : FuncData} (F : Fun K "__getitem__" "Lot.__getitem__" sLotGetitem f fd) (L : TxL K C) : FnOk P w K mg base CX0 1 f fd ["self", "at"] (spLotGetitem C) := by
  refine F.ok scLotGetitem (fun vs H Q E h => ?_) (fun cdv A outer s H vs Q E hr h => ?_)
  · obtain ⟨a, k, m, rfl, _⟩ := h
    rfl
  · obtain ⟨a, k, m, rfl, ⟨⟨d, dx, h1, h2⟩, nd, mp, ml⟩, q⟩ := h
    have hu := hu_of hr
    refine ⟨_, (pss_one (ps_ret (pe_dget2 hu (pe_fld (pv 0) rfl) (pv 1) pe_int ⟨rfl, rfl, rfl, rfl⟩))), ?_⟩
    walk_at "in"
    walk_at "go"
    refine r_many L h1 ⟨_, rfl, r_isD h2 ?_⟩
    walk_at "go"
    refine ⟨_, DGet_enc (r := look m k) (Or.inl h2) rfl, ?_⟩
    rw [get_look]
    exact q
abbrev sLotLen : Stmt := inClass (top 17) 6
theorem scLotLen : FnScope ["self"] ["self"] (defScope sLotLen) := ⟨rfl, rfl, rfl, by decide +kernel, rfl, by decide +kernel, by decide +kernel⟩
def spLotLen (C : Addr) : Sp := fun vs H Q _ => ∃ (a : Addr) (m : AL), vs = [.ref a] ∧ LoA C H a m ∧ Q (.int m.length) H
theorem ok_lotLen {f : Addr} {fd : FuncData} (F : Fun K "__len__" "Lot.__len__" sLotLen f fd) (T : Txt K mg) (L : TxL K C) : FnOk P w K mg base CX0 1 f fd ["self"] (spLotLen C) := by
  refine F.ok scLotLen (fun vs H Q E h => ?_) (fun cdv A outer s H vs Q E hr h => ?_)
  · obtain ⟨a, m, rfl, _⟩ := h
    rfl
  · obtain ⟨a, m, rfl, ⟨⟨d, dx, h1, h2⟩, nd, mp, ml⟩, q⟩ := h
    have hu := hu_of hr
    refine ⟨_, (pss_one (ps_ret (pe_callB c_lenD (by rfl) T.len (by decide +kernel) (pa_cons (pe_fld (pv 0) rfl) pa_nil)))), ?_⟩
    walk_at "in"
    walk_at "go"
    refine r_many L h1 ?_
    walk_at "go"
    rw [enc_len]
    exact q
abbrev sLotKinds : Stmt := inClass (top 17) 9
theorem scLotKinds : FnScope ["self"] ["self"] (defScope sLotKinds) := ⟨rfl, rfl, rfl, by decide +kernel, rfl, by decide +kernel, by decide +kernel⟩
def spLotKinds (C : Addr) : Sp := fun vs H Q _ => ∃ (a : Addr) (m : AL), vs = [.ref a] ∧ LoA C H a m ∧ ∀ (l : Addr) (ys : List Str) (H' : Hp), H l = none → H' l = some (.lst (ys.map V.str)) → ys.Perm (keys m) → PyProof.Rows.sortedS ys = true → Same H H' → Q (.ref l) H'
theorem ok_lotKinds {f : Addr} {fd : FuncData} (F : Fun K "kinds" "Lot.kinds" sLotKinds f fd) (T : Txt K mg) (L : TxL K C) : FnOk P w K mg base CX0 1 f fd ["self"] (spLotKinds C) := by
  refine F.ok scLotKinds (fun vs H Q E h => ?_) (fun cdv A outer s H vs Q E hr h => ?_)
  · obtain ⟨a, m, rfl, _⟩ := h
    rfl
  · obtain ⟨a, m, rfl, ⟨⟨d, dx, h1, h2⟩, nd, mp, ml⟩, q⟩ := h
    have hu := hu_of hr
    refine ⟨_, (pss_one (ps_ret (pe_callB (cr_sortedSO rfl) (by rfl) T.sorted (by decide +kernel) (pa_cons (pe_callTy cr_setD (by rfl) T.set (by decide +kernel) (pa_cons (pe_fld (pv 0) rfl) pa_nil)) pa_nil)))), ?_⟩
    walk_at "in"
    walk_at "go"
    refine r_many L h1 ?_
    walk_at "go"
    refine r_setD h2 ml fun t ht => ?_
    walk_at "go"
    have lk : (keys m).length = m.length := List.length_map _
    refine r_sortedSO upd_same (by omega) fun ys l hp hs hl => ?_
    have n1 : l ≠ t := fun z => by rw [z, upd_same] at hl; cases hl
    have hl0 : H l = none := by rw [upd_ne n1] at hl; exact hl
    exact q l ys _ hl0 upd_same hp hs fun c o e => by walk_at "hp"
end


section
variable {P : Program} {w : World} {K : PySem.W.Frag} {mg : Str → Option Value} {base : Heap} {C : Addr}
abbrev sLotPairs : Stmt := inClass (top 17) 10
theorem scLotPairs : FnScope ["self", "kind"] ["self"] (defScope sLotPairs) := ⟨rfl, rfl, rfl, by decide +kernel, rfl, by decide +kernel, by decide +kernel⟩
def spLotPairs (C : Addr) : Sp := fun vs H Q _ => ∃ (a : Addr) (m : AL), vs = [.ref a] ∧ LoA C H a m ∧ ∀ (p : Addr) (ts : List V) (qs : AL) (H' : Hp), H p = none → H' p = some (.tup ts) → Paired (PrA H') ts qs → Cn m qs → Same H H' → Q (.ref p) H'
theorem ok_lotPairs {f : Addr} {fd : FuncData} (F : Fun K "pairs" "Lot.pairs" sLotPairs f fd) (T : Txt K mg) (L : TxL K C) (Ok : OCal P w K mg base CX0 1 C "kinds" ["self"] (spLotKinds C)) : FnOk P w K mg base CX0 2 f fd ["self"] (spLotPairs C) := by
  refine F.ok scLotPairs (fun vs H Q E h => ?_) (fun cdv A outer s H vs Q E hr h => ?_)
  · obtain ⟨a, m, rfl, _⟩ := h
    rfl
  · obtain ⟨a, m, rfl, La, q⟩ := h
    have hu := hu_of hr
    refine ⟨_, (pss_one (ps_ret (pe_callTy c_tupL (by rfl) T.tuple (by decide +kernel) (pa_cons (pe_lc (own := [("kind", 1)]) (g := gName 1) (tt := tYes) rfl scLotPairs.nd (pi_list (pe_methO0 Ok L.oc.cl hr pass0 (pv 0))) (blkOk_by (N := ["self", "kind"]) (sc := defScope sLotPairs) (by decide +kernel)) (fun _ _ _ _ _ => (pg_name (i := 1) scLotPairs.nd rfl (Or.inl rfl))) (fun _ _ _ _ _ => pts_nil) (fun _ _ _ _ _ => (pe_tup (pa_cons (pv 1) (pa_cons (pe_dget hu (fldK K (pv 0) rfl) (pv 1) (fun _ _ => rfl)) pa_nil))))) pa_nil)))), ?_⟩
    walk_at "in"
    walk_at "go"
    obtain ⟨⟨d, dx, h1, h2⟩, nd, mp, ml⟩ := id La
    refine r_meth0 ?_
    walk_at "go"
    refine ⟨a, dx, _, rfl, h1, look1, a, m, rfl, La, fun l ys H1 hl hl1 hp hs s1 => ?_⟩
    walk_at "go"
    intro D hD
    have hD0 : H D = none := s1.free hD
    have nDl : D ≠ l := fun z => by rw [z, hl1] at hD; cases hD
    have lys : ys.length ≤ 30 := by rw [hp.length_eq]; show (keys m).length ≤ 30; rw [show (keys m).length = m.length from List.length_map _]; exact ml
    refine lc_it (walk_list (xs := ys.map V.str)) (fun i H' => ∃ xs, H' D = some (.lst xs) ∧ Paired (PrA H') xs ((ys.take i).map fun k => (k, get m k)) ∧ Same H1 H') ?_ ?_ ?_ ?_
    · exact ⟨[], upd_same, .nil, fun c o e => by have n1 : c ≠ D := ne_of_none e hD; walk_at "hp"⟩
    · rintro i H' _ ⟨_, _, _, s2⟩
      exact s2.seq (SqL.of hl1)
    · rintro i x _ H2 hi ⟨xs, hD1, hxs, s2⟩ ⟨rfl, hx⟩
      obtain ⟨k, rfl, hk⟩ := map_some hx
      walk_at "go"
      refine ⟨rfl, ?_⟩
      walk_at "go"
      refine iteT ?_
      walk_at "go"
      refine r_many L (s2 _ _ (s1 _ _ h1)) ?_
      walk_at "go"
      have kin : k ∈ keys m := hp.mem_iff.mp (List.mem_of_getElem? hk)
      have lk : look m k = some (get m k) := by
        obtain ⟨p, hpm, rfl⟩ := List.mem_map.mp kin
        unfold get
        rw [(look_mem nd).mpr (show (p.1, p.2) ∈ m from hpm)]
        rfl
      refine ⟨d, .int (get m k), rfl, DGet_enc (Or.inl (s2 _ _ (s1 _ _ h2))) lk, ?_⟩
      walk_at "go"
      rename_i t ht
      have n2 : D ≠ t := ne_of_none hD1 ht
      have lxs := Paired.len hxs
      have ltk : ((ys.take i).map fun k => (k, get m k)).length ≤ i := by rw [List.length_map, List.length_take]; omega
      have hi2 : i < ys.length := by rw [List.length_map] at hi; exact hi
      have k2 : Kp D H2 (upd (upd H2 t (.tup [V.str k, V.int (get m k)])) D (.lst (xs ++ [V.ref t]))) := fun c o e n => by walk_at "hp"
      refine ⟨xs, by walk_at "hp", szl (by omega), xs ++ [V.ref t], upd_same, ?_, fun c o e => ?_⟩
      · rw [List.take_add_one, hk, List.map_append]
        exact Paired.app (PrA.kpdAll hxs k2 hD1 (fun _ z => by cases z)) (.cons ⟨t, rfl, by walk_at "hp"⟩ .nil)
      · have n4 : c ≠ D := ne_of_none e hD
        walk_at "hp"
    · rintro H2 ⟨xs, hD1, hxs, s2⟩
      rw [List.length_map, List.take_length] at hxs
      walk_at "go"
      rename_i p hp2
      have hpp : H p = none := s1.free (s2.free hp2)
      refine q p xs _ _ hpp upd_same (Paired.mapP hxs fun _ _ z => ?_) (cn_of mp nd hp hs) fun c o e => by walk_at "hp"
      obtain ⟨t, e1, e2⟩ := z
      exact ⟨t, e1, upd_at e2 (ne_of_none e2 hp2)⟩
end


section
variable {P : Program} {w : World} {K : PySem.W.Frag} {mg : Str → Option Value} {base : Heap} {C : Addr}
/-- Lot(xs) by __init__'s promise -/
theorem init_end {H2 : Hp} {D : Addr} {xs : List V} {ps : AL} {R : Addr → Hp → Prop} {E : XK} (hD : H2 D = some (.lst xs)) (hps : Paired (PrA H2) xs ps) (hl : xs.length ≤ 30) (h0 : ∀ q ∈ ps, 0 ≤ q.2)
    (q : ∀ (x : Addr) (m' : AL) (H' : Hp), H2 x = none → LoN C H2 H' x m' → (∀ k, get m' k = tot ps k) → Same H2 H' → R x H') :
    ∀ x dx, H2 x = none → H2 dx = none → dx ≠ x → spLotInit K C [.ref x, .ref D] (upd (upd H2 dx (.own x)) x (.ins C dx [])) (fun v H2 => v = .non ∧ R x H2) E := by
  intro x dx hx hdx ne
  have s1 : Same H2 (upd (upd H2 dx (.own x)) x (.ins C dx [])) := fun c o e => by
    have n1 : c ≠ x := ne_of_none e hx
    have n2 : c ≠ dx := ne_of_none e hdx
    walk_at "hp"
  refine ⟨x, dx, D, xs, ps, rfl, upd_same, SqL.of (s1 _ _ hD), Paired.mapP hps fun _ _ z => z.same s1, hl, h0, fun m H' La hg kp => ⟨rfl, ?_⟩⟩
  refine q x m H' hx (La.mono s1) hg fun c o e => ?_
  exact kp c o (s1 c o e) (ne_of_none e hx)
abbrev sLotMul : Stmt := inClass (top 17) 14
theorem scLotMul : FnScope ["self", "other", "kind", "many"] ["self", "other"] (defScope sLotMul) := ⟨rfl, rfl, rfl, by decide +kernel, rfl, by decide +kernel, by decide +kernel⟩
def spLotMul (C : Addr) : Sp := fun vs H Q _ => ∃ (a : Addr) (n : Int) (m : AL), vs = [.ref a, .int n] ∧ LoA C H a m ∧ 0 ≤ n ∧ n.natAbs < 2 ^ 300 ∧ (∀ p ∈ m, p.2.natAbs < 2 ^ 300) ∧
  ∀ (x : Addr) (m' : AL) (H' : Hp), H x = none → LoN C H H' x m' → (∀ k, get m' k = get m k * n) → Same H H' → Q (.ref x) H'
theorem ok_lotMul {f : Addr} {fd : FuncData} (F : Fun K "__mul__" "Lot.__mul__" sLotMul f fd) (L : TxL K C) (Op : OCal P w K mg base CX0 2 C "pairs" ["self"] (spLotPairs C)) (Om : OMk P w K mg base CX0 2 C "Lot" ["self", "pairs"] (spLotInit K C)) : FnOk P w K mg base CX0 4 f fd ["self", "other"] (spLotMul C) := by
  refine F.ok scLotMul (fun vs H Q E h => ?_) (fun cdv A outer s H vs Q E hr h => ?_)
  · obtain ⟨a, n, m, rfl, _⟩ := h
    rfl
  · obtain ⟨a, n, m, rfl, La, n0, nb, mb, q⟩ := h
    refine ⟨_, (pss_one (ps_ret (pe_makeO Om hr pass0 (pa_cons (pe_lc (own := [("kind", 2), ("many", 3)]) (g := gTup _ 2 (gCons (gName 2) (gCons (gName 3) gNil))) (tt := tYes) rfl scLotMul.nd (pi_tup (pe_methO0 Op L.oc.cl (hr.mono (by decide)) pass0 (pv 0))) (blkOk_by (N := ["self", "other", "kind", "many"]) (sc := defScope sLotMul) (by decide +kernel)) (fun _ _ _ _ _ => (pg_tup rfl (pgs_cons (pg_name (i := 2) scLotMul.nd rfl (Or.inl rfl)) (pgs_cons (pg_name (i := 3) scLotMul.nd rfl (Or.inl rfl)) pgs_nil)))) (fun _ _ _ _ _ => pts_nil) (fun _ _ _ _ _ => (pe_tup (pa_cons (pv 2) (pa_cons (pe_op op_mulW (pv 3) (pv 1)) pa_nil))))) pa_nil)))), ?_⟩
    walk_at "in"
    walk_at "go"
    obtain ⟨⟨d, dx, h1, h2⟩, nd, mp, ml⟩ := id La
    refine r_mk ?_
    walk_at "go"
    refine r_meth0 ?_
    walk_at "go"
    refine ⟨a, dx, _, rfl, h1, look1, a, m, rfl, La, fun p ts qs H1 hp hp1 hts cn s1 => ?_⟩
    walk_at "go"
    intro D hD
    have lts : ts.length ≤ 30 := by rw [Paired.len hts, cn.len mp]; exact ml
    have lq : ts.length = qs.length := Paired.len hts
    refine lc_it (walk_tup (xs := ts)) (fun i H' => ∃ xs, H' D = some (.lst xs) ∧ Paired (PrA H') xs ((qs.take i).map fun q => (q.1, q.2 * n)) ∧ Same H1 H') ?_ ?_ ?_ ?_
    · exact ⟨[], upd_same, .nil, fun c o e => by have n1 : c ≠ D := ne_of_none e hD; walk_at "hp"⟩
    · rintro i H' _ ⟨_, _, _, s2⟩
      exact SqT.of (s2 _ _ hp1)
    · rintro i x _ H2 hi ⟨xs, hD1, hxs, s2⟩ ⟨rfl, hx⟩
      obtain ⟨r, hr1, t, rfl, ht⟩ := Paired.at hts hx
      have ht2 := s2 _ _ ht
      walk_at "go"
      refine ⟨rfl, ?_⟩
      walk_at "go"
      refine iteT ?_
      walk_at "go"
      refine r_I (wide_mul (mb r ((cn.mem mp r).mp (List.mem_of_getElem? hr1))) nb (by decide) (by decide) (by decide)) ?_
      walk_at "go"
      rename_i u hu1
      have n2 : D ≠ u := ne_of_none hD1 hu1
      have lxs := Paired.len hxs
      have ltk : ((qs.take i).map fun q => (q.1, q.2 * n)).length ≤ i := by rw [List.length_map, List.length_take]; omega
      have k2 : Kp D H2 (upd (upd H2 u (.tup [V.str r.1, V.int (r.2 * n)])) D (.lst (xs ++ [V.ref u]))) := fun c o e n => by walk_at "hp"
      refine ⟨xs, by walk_at "hp", szl (by omega), xs ++ [V.ref u], upd_same, ?_, fun c o e => ?_⟩
      · rw [List.take_add_one, hr1, List.map_append]
        exact Paired.app (PrA.kpdAll hxs k2 hD1 (fun _ z => by cases z)) (.cons ⟨u, rfl, by walk_at "hp"⟩ .nil)
      · have n4 : c ≠ D := ne_of_none e hD
        walk_at "hp"
    · rintro H2 ⟨xs, hD1, hxs, s2⟩
      rw [lq, List.take_length] at hxs
      have lxs := Paired.len hxs
      rw [List.length_map] at lxs
      refine init_end hD1 hxs (by omega) (fun z hz => ?_) fun x m' H' hx La' hg s3 => ?_
      · obtain ⟨r, hr1, rfl⟩ := List.mem_map.mp hz
        exact Int.mul_nonneg (Int.le_of_lt (mp r ((cn.mem mp r).mp hr1))) n0
      · refine q x m' H' (s1.free (s2.free hx)) (La'.mono fun c o e => s2 _ _ (s1 _ _ e)) (fun k => ?_) fun c o e => s3 _ _ (s2 _ _ (s1 _ _ e))
        rw [hg k, cn.totf mp nd (fun _ v => v * n)]
        split
        · rfl
        · rename_i hk
          rw [get_none hk, Int.zero_mul]
end


section
variable {P : Program} {w : World} {K : PySem.W.Frag} {mg : Str → Option Value} {base : Heap} {C : Addr}
abbrev sLotSub : Stmt := inClass (top 17) 13
theorem scLotSub : FnScope ["self", "other", "kind", "many"] ["self", "other"] (defScope sLotSub) := ⟨rfl, rfl, rfl, by decide +kernel, rfl, by decide +kernel, by decide +kernel⟩
def spLotSub (C : Addr) : Sp := fun vs H Q _ => ∃ (a b : Addr) (m m2 : AL), vs = [.ref a, .ref b] ∧ LoA C H a m ∧ LoA C H b m2 ∧ (∀ k, get m2 k ≤ get m k) ∧
  ∀ (x : Addr) (m' : AL) (H' : Hp), H x = none → LoN C H H' x m' → (∀ k, get m' k = get m k - get m2 k) → Same H H' → Q (.ref x) H'
theorem ok_lotSub {f : Addr} {fd : FuncData} (F : Fun K "__sub__" "Lot.__sub__" sLotSub f fd) (L : TxL K C) (Op : OCal P w K mg base CX0 2 C "pairs" ["self"] (spLotPairs C)) (Og : OCal P w K mg base CX0 1 C "__getitem__" ["self", "at"] (spLotGetitem C)) (Om : OMk P w K mg base CX0 2 C "Lot" ["self", "pairs"] (spLotInit K C)) : FnOk P w K mg base CX0 4 f fd ["self", "other"] (spLotSub C) := by
  refine F.ok scLotSub (fun vs H Q E h => ?_) (fun cdv A outer s H vs Q E hr h => ?_)
  · obtain ⟨a, b, m, m2, rfl, _⟩ := h
    rfl
  · obtain ⟨a, b, m, m2, rfl, La, Lb, le, q⟩ := h
    refine ⟨_, (pss_cons (ps_for PassesOwn.never rfl (pi_tup (pe_methO0 Op L.oc.cl (hr.mono (by decide)) pass0 (pv 1))) (pg_tup rfl (pgs_cons (pg_name (i := 2) scLotSub.nd rfl (Or.inl rfl)) (pgs_cons (pg_name (i := 3) scLotSub.nd rfl (Or.inl rfl)) pgs_nil)))
  (pss_one (ps_if (pt_cmpR op_lt (pe_ixO Og (hr.mono (by decide)) pass0 (pv 0) (pv 2)) (pv 3) (nomark _))
  pss_never
  pss_nil)))
  (pss_one (ps_ret (pe_makeO Om hr pass0 (pa_cons (pe_lc (own := [("kind", 2), ("many", 3)]) (g := gTup _ 2 (gCons (gName 2) (gCons (gName 3) gNil))) (tt := tYes) rfl scLotSub.nd (pi_tup (pe_methO0 Op L.oc.cl (hr.mono (by decide)) pass0 (pv 0))) (blkOk_by (N := ["self", "other", "kind", "many"]) (sc := defScope sLotSub) (by decide +kernel)) (fun _ _ _ _ _ => (pg_tup rfl (pgs_cons (pg_name (i := 2) scLotSub.nd rfl (Or.inl rfl)) (pgs_cons (pg_name (i := 3) scLotSub.nd rfl (Or.inl rfl)) pgs_nil)))) (fun _ _ _ _ _ => pts_nil) (fun _ _ _ _ _ => (pe_tup (pa_cons (pv 2) (pa_cons (pe_op op_sub (pv 3) (pe_ixO Og (hr.mono (by decide)) pass0 (pv 1) (pv 2))) pa_nil))))) pa_nil))))), ?_⟩
    walk_at "in"
    walk_at "go"
    obtain ⟨⟨d, dx, h1, h2⟩, nd, mp, ml⟩ := id La
    obtain ⟨⟨d2, dx2, h12, h22⟩, nd2, mp2, ml2⟩ := id Lb
    refine r_meth0 ?_
    walk_at "go"
    refine ⟨b, dx2, _, rfl, h12, look1, b, m2, rfl, Lb, fun p2 ts2 qs2 H1 hp2 hp21 hts2 cn2 s1 => ?_⟩
    walk_at "go"
    refine for_it (walk_tup (xs := ts2)) (fun i σ H' => ∃ (x2 x3 : Option V), σ = [some (.ref a), some (.ref b), x2, x3] ∧ Same H1 H') ?_ ?_ ?_ ?_
    · exact ⟨none, none, rfl, fun c o e => e⟩
    · rintro i σ H' _ ⟨_, _, _, s2⟩
      exact SqT.of (s2 _ _ hp21)
    · rintro i x σ _ H2 hi ⟨x2, x3, rfl, s2⟩ ⟨rfl, hx⟩
      obtain ⟨r, hr1, t, rfl, ht⟩ := Paired.at hts2 hx
      have ht2 := s2 _ _ ht
      walk_at "go"
      refine r_ixO ?_
      walk_at "go"
      refine ⟨a, dx, _, rfl, s2 _ _ (s1 _ _ h1), a, r.1, m, rfl, (La.same s1).same s2, ?_⟩
      walk_at "go"
      have rm : r ∈ m2 := (cn2.mem mp2 r).mp (List.mem_of_getElem? hr1)
      have g2 : get m2 r.1 = r.2 := by
        unfold get
        rw [(look_mem nd2).mpr (show (r.1, r.2) ∈ m2 from rm)]
        rfl
      have lek := le r.1
      refine ite_dF (by omega) ?_
      walk_at "go"
      exact ⟨_, _, rfl, s2⟩
    rintro σ H2 ⟨x2, x3, rfl, s2⟩
    have s12 : Same H H2 := fun c o e => s2 _ _ (s1 _ _ e)
    walk_at "go"
    refine r_mk ?_
    walk_at "go"
    refine r_meth0 ?_
    walk_at "go"
    refine ⟨a, dx, _, rfl, s12 _ _ h1, look1, a, m, rfl, La.same s12, fun p ts qs H3 hp hp1 hts cn s3 => ?_⟩
    walk_at "go"
    have s13 : Same H H3 := fun c o e => s3 _ _ (s12 _ _ e)
    intro D hD
    have lts : ts.length ≤ 30 := by rw [Paired.len hts, cn.len mp]; exact ml
    have lq : ts.length = qs.length := Paired.len hts
    refine lc_it (walk_tup (xs := ts)) (fun i H' => ∃ xs, H' D = some (.lst xs) ∧ Paired (PrA H') xs ((qs.take i).map fun q => (q.1, q.2 - get m2 q.1)) ∧ Same H3 H') ?_ ?_ ?_ ?_
    · exact ⟨[], upd_same, .nil, fun c o e => by have n1 : c ≠ D := ne_of_none e hD; walk_at "hp"⟩
    · rintro i H' _ ⟨_, _, _, s4⟩
      exact SqT.of (s4 _ _ hp1)
    · rintro i x _ H4 hi ⟨xs, hD1, hxs, s4⟩ ⟨rfl, hx⟩
      obtain ⟨r, hr1, t, rfl, ht⟩ := Paired.at hts hx
      have ht2 := s4 _ _ ht
      walk_at "go"
      refine ⟨rfl, ?_⟩
      walk_at "go"
      refine iteT ?_
      walk_at "go"
      refine r_ixO ?_
      walk_at "go"
      have s14 : Same H H4 := fun c o e => s4 _ _ (s13 _ _ e)
      refine ⟨b, dx2, _, rfl, s14 _ _ h12, b, r.1, m2, rfl, Lb.same s14, ?_⟩
      walk_at "go"
      rename_i u hu1
      have n2 : D ≠ u := ne_of_none hD1 hu1
      have lxs := Paired.len hxs
      have ltk : ((qs.take i).map fun q => (q.1, q.2 - get m2 q.1)).length ≤ i := by rw [List.length_map, List.length_take]; omega
      have k2 : Kp D H4 (upd (upd H4 u (.tup [V.str r.1, V.int (r.2 - get m2 r.1)])) D (.lst (xs ++ [V.ref u]))) := fun c o e n => by walk_at "hp"
      refine ⟨xs, by walk_at "hp", szl (by omega), xs ++ [V.ref u], upd_same, ?_, fun c o e => ?_⟩
      · rw [List.take_add_one, hr1, List.map_append]
        exact Paired.app (PrA.kpdAll hxs k2 hD1 (fun _ z => by cases z)) (.cons ⟨u, rfl, by walk_at "hp"⟩ .nil)
      · have n4 : c ≠ D := ne_of_none e hD
        have e4 := s4 _ _ e
        walk_at "hp"
    · rintro H4 ⟨xs, hD1, hxs, s4⟩
      rw [lq, List.take_length] at hxs
      have lxs := Paired.len hxs
      rw [List.length_map] at lxs
      refine init_end hD1 hxs (by omega) (fun z hz => ?_) fun x m' H' hx La' hg s5 => ?_
      · obtain ⟨r, hr1, rfl⟩ := List.mem_map.mp hz
        have rm : r ∈ m := (cn.mem mp r).mp hr1
        have g1 : get m r.1 = r.2 := by
          unfold get
          rw [(look_mem nd).mpr (show (r.1, r.2) ∈ m from rm)]
          rfl
        have := le r.1
        show 0 ≤ r.2 - get m2 r.1
        omega
      · refine q x m' H' (s13.free (s4.free hx)) (La'.mono fun c o e => s4 _ _ (s13 _ _ e)) (fun k => ?_) fun c o e => s5 _ _ (s4 _ _ (s13 _ _ e))
        rw [hg k, cn.totf mp nd (fun k v => v - get m2 k)]
        split
        · rfl
        · rename_i hk
          have g0 := get_none hk
          have := le k
          have := get_nn mp2 nd2 k
          omega
end


section
variable {P : Program} {w : World} {K : PySem.W.Frag} {mg : Str → Option Value} {base : Heap} {C : Addr}
theorem look_pos {m : AL} (nd : (keys m).Nodup) (ps : ∀ p ∈ m, 0 < p.2) (k : Str) : (look m k).isSome = decide (0 < get m k) := by
  cases e : look m k with
  | none =>
    have : get m k = 0 := by unfold get; rw [e]; rfl
    rw [this]
    rfl
  | some v =>
    have h1 := ps _ ((look_mem nd).mp e)
    have h2 : get m k = v := by unfold get; rw [e]; rfl
    rw [h2]
    exact (decide_eq_true (show 0 < v from h1)).symm
abbrev sLotContains : Stmt := inClass (top 17) 5
theorem scLotContains : FnScope ["self", "x"] ["self", "x"] (defScope sLotContains) := ⟨rfl, rfl, rfl, by decide +kernel, rfl, by decide +kernel, by decide +kernel⟩
def spLotContains (C : Addr) : Sp := fun vs H Q _ => ∃ (a : Addr) (k : Str) (m : AL), vs = [.ref a, .str k] ∧ LoA C H a m ∧ Q (.bl (decide (0 < get m k))) H
theorem ok_lotContains {f : Addr} {fd : FuncData} (F : Fun K "__contains__" "Lot.__contains__" sLotContains f fd) (L : TxL K C) : FnOk P w K mg base CX0 1 f fd ["self", "x"] (spLotContains C) := by
  refine F.ok scLotContains (fun vs H Q E h => ?_) (fun cdv A outer s H vs Q E hr h => ?_)
  · obtain ⟨a, k, m, rfl, _⟩ := h
    rfl
  · obtain ⟨a, k, m, rfl, ⟨⟨d, dx, h1, h2⟩, nd, mp, ml⟩, q⟩ := h
    have hu := hu_of hr
    refine ⟨_, pss_one (ps_ret (pe_cmp (pc_din hu (pv 1) (pe_fld (pv 0) rfl)))), ?_⟩
    walk_at "in"
    refine r_ret (r_var rfl (r_many L h1 ⟨d, (look m k).map V.int, rfl, DGet_enc (.inl h2) rfl, ?_⟩))
    rw [Option.isSome_map, look_pos nd mp]
    exact q
abbrev sLotAbs : Stmt := inClass (top 17) 7
/-- facts for isinstance of an own object -/
structure TxIs (K : PySem.W.Frag) (C : Addr) : Prop where
  ha : PySem.W.findIn K (.ref C) "__class__" = some (some (.builtin "object.__class__"))
  hn : PySem.W.specialIn K (.builtin "object.__class__") "__get__" = some (some (.builtin "getset_descriptor.__get__"))
  ht : PySem.W.takesIn K (.builtin "object.__class__") = some true
  hm : PySem.W.mroIn K C (.type "object") = some true
  kt : PySem.W.kitOne K (.type "tuple") (.ref C) = some false
/-- the other methods, by operators -/
abbrev sLotEq : Stmt := inClass (top 17) 8
theorem scLotEq : FnScope ["self", "other"] ["self", "other"] (defScope sLotEq) := ⟨rfl, rfl, rfl, by decide +kernel, rfl, by decide +kernel, by decide +kernel⟩
def spLotEq (C : Addr) : Sp := fun vs H Q _ => ∃ (a b : Addr) (m m2 : AL), vs = [.ref a, .ref b] ∧ LoA C H a m ∧ LoA C H b m2 ∧ ∀ H', Same H H' → Q (.bl (dEq m m2)) H'
theorem ok_lotEq {f : Addr} {fd : FuncData} (F : Fun K "__eq__" "Lot.__eq__" sLotEq f fd) (T : Txt K mg) (L : TxL K C) (S : TxIs K C) (gC : mg "Lot" = some (.ref C)) : FnOk P w K mg base CX0 1 f fd ["self", "other"] (spLotEq C) := by
  refine F.ok scLotEq (fun vs H Q E h => ?_) (fun cdv A outer s H vs Q E hr h => ?_)
  · obtain ⟨a, b, m, m2, rfl, _⟩ := h
    rfl
  · obtain ⟨a, b, m, m2, rfl, La, Lb, q⟩ := h
    have hu := hu_of hr
    obtain ⟨⟨d, dx, h1, h2⟩, nd, mp, ml⟩ := id La
    obtain ⟨⟨d2, dx2, h12, h22⟩, nd2, mp2, ml2⟩ := id Lb
    refine ⟨_, (pss_one (ps_ret (pe_and (pe_callB call_isi (by rfl) T.isinstance (by decide +kernel) (pa_cons (pv 1) (pa_cons (pe_glob (v := .ref C) (by rfl) gC rfl) pa_nil))) (pe_one (pe_cmpR (op_eqDE (Nat.lt_of_le_of_lt (Nat.le_add_right _ 1) hu)) (pe_fld (pv 0) rfl) (pe_fld (pv 1) rfl) (nomark _)))))), ?_⟩
    walk_at "in"
    walk_at "go"
    refine ⟨.ref b, .ref C, .ref C, .ref C, true, rfl, .own C, .base (.ins h12 L.oc.cl S.ha S.hn S.ht S.hm), by unfold PySem.W.kitOne; rw [if_pos (beq_self_eq_true _)], true, rfl, iteT ?_⟩
    exact r_op (r_many L h1 (r_many L h12 ⟨d, d2, m, m2, rfl, rfl, h2, h22, q _ fun _ _ e => e⟩))
end


section
variable {P : Program} {w : World} {K : PySem.W.Frag} {mg : Str → Option Value} {base : Heap} {C : Addr}
/-- __init__ of pairs as a tuple -/
def spLotInitT (K : PySem.W.Frag) (C : Addr) : Sp := fun vs H Q _ => ∃ (p dx l : Addr) (xs : List V) (ps : AL), vs = [.ref p, .ref l] ∧ H p = some (.ins C dx []) ∧ SqT K H l xs ∧ Paired (PrA H) xs ps ∧ xs.length ≤ 30 ∧ (∀ q ∈ ps, 0 ≤ q.2) ∧
  ∀ (m : AL) (H' : Hp), LoN C H H' p m → (∀ k, get m k = tot ps k) → (∀ c o, H c = some o → c ≠ p → H' c = some o) → Q .non H'
theorem ok_lotInitT {f t0 : Addr} {fd : FuncData} (F : FunD K "__init__" "Lot.__init__" (defArgs sLotInit) (defBody sLotInit) (defScope sLotInit) [.ref t0] [] f fd) (L : TxL K C) (Cc : Cal P w K mg base CX0 1 "counted_lots" ["pairs"] (spOwnCountedT K)) : FnOk P w K mg base CX0 2 f fd ["self", "pairs"] (spLotInitT K C) := by
  refine F.ok scLotInit (fun vs H Q E h => ?_) (fun cdv A outer s H vs Q E hr h => ?_)
  · obtain ⟨p, dx, l, xs, ps, rfl, _⟩ := h
    rfl
  · obtain ⟨p, dx, l, xs, ps, rfl, hp, hl, hps, h30, h0, q⟩ := h
    refine ⟨_, (pss_one (ps_fld (pv 0) (pe_cal Cc hr pass0 (pa_cons (pv 1) pa_nil)) rfl)), ?_⟩
    walk_at "in"
    show tCal (spOwnCountedT K) E0 (tCons (tVar 1) tNil) _ H _
    walk_at "go"
    refine ⟨l, xs, ps, rfl, hl, hps, h30, h0, fun d m H1 hd hm nd mp hg lm s1 => ?_⟩
    have n1 : d ≠ p := fun z => by rw [z, hp] at hd; cases hd
    refine ⟨_, rfl, p, C, dx, [], rfl, s1 _ _ hp, L.oc.cl, L.nM, by show 0 < 1000; decide, ?_⟩
    refine q m _ ⟨d, hd, ⟨dx, upd_same⟩, by walk_at "hp", nd, mp, by omega⟩ hg fun c o e n => ?_
    walk_at "hp"
/-- Lot(xs) of a tuple by __init__'s promise -/
theorem initT_end {H2 : Hp} {D : Addr} {xs : List V} {ps : AL} {R : Addr → Hp → Prop} {E : XK} (hD : SqT K H2 D xs) (hps : Paired (PrA H2) xs ps) (hl : xs.length ≤ 30) (h0 : ∀ q ∈ ps, 0 ≤ q.2)
    (q : ∀ (x : Addr) (m' : AL) (H' : Hp), H2 x = none → LoN C H2 H' x m' → (∀ k, get m' k = tot ps k) → Same H2 H' → R x H') :
    ∀ x dx, H2 x = none → H2 dx = none → dx ≠ x → spLotInitT K C [.ref x, .ref D] (upd (upd H2 dx (.own x)) x (.ins C dx [])) (fun v H2 => v = .non ∧ R x H2) E := by
  intro x dx hx hdx ne
  have s1 : Same H2 (upd (upd H2 dx (.own x)) x (.ins C dx [])) := fun c o e => by
    have n1 : c ≠ x := ne_of_none e hx
    have n2 : c ≠ dx := ne_of_none e hdx
    walk_at "hp"
  refine ⟨x, dx, D, xs, ps, rfl, upd_same, My.SqT.same hD s1, Paired.mapP hps fun _ _ z => z.same s1, hl, h0, fun m H' La hg kp => ⟨rfl, ?_⟩⟩
  refine q x m H' hx (La.mono s1) hg fun c o e => ?_
  exact kp c o (s1 c o e) (ne_of_none e hx)
abbrev sLotAdd : Stmt := inClass (top 17) 12
theorem scLotAdd : FnScope ["self", "other"] ["self", "other"] (defScope sLotAdd) := ⟨rfl, rfl, rfl, by decide +kernel, rfl, by decide +kernel, by decide +kernel⟩
def spLotAdd (C : Addr) : Sp := fun vs H Q _ => ∃ (a b : Addr) (m m2 : AL), vs = [.ref a, .ref b] ∧ LoA C H a m ∧ LoA C H b m2 ∧ m.length + m2.length ≤ 30 ∧
  ∀ (x : Addr) (m' : AL) (H' : Hp), H x = none → LoN C H H' x m' → (∀ k, get m' k = get m k + get m2 k) → Same H H' → Q (.ref x) H'
theorem ok_lotAdd {f : Addr} {fd : FuncData} (F : Fun K "__add__" "Lot.__add__" sLotAdd f fd) (L : TxL K C) (Op : OCal P w K mg base CX0 2 C "pairs" ["self"] (spLotPairs C)) (Om : OMk P w K mg base CX0 2 C "Lot" ["self", "pairs"] (spLotInitT K C)) : FnOk P w K mg base CX0 4 f fd ["self", "other"] (spLotAdd C) := by
  refine F.ok scLotAdd (fun vs H Q E h => ?_) (fun cdv A outer s H vs Q E hr h => ?_)
  · obtain ⟨a, b, m, m2, rfl, _⟩ := h
    rfl
  · obtain ⟨a, b, m, m2, rfl, La, Lb, lm, q⟩ := h
    refine ⟨_, (pss_one (ps_ret (pe_makeO Om hr pass0 (pa_cons (pe_op op_catA (pe_methO0 Op L.oc.cl (hr.mono (by decide)) pass0 (pv 0)) (pe_methO0 Op L.oc.cl (hr.mono (by decide)) pass0 (pv 1))) pa_nil)))), ?_⟩
    walk_at "in"
    walk_at "go"
    obtain ⟨⟨d, dx, h1, h2⟩, nd, mp, ml⟩ := id La
    obtain ⟨⟨d2, dx2, h12, h22⟩, nd2, mp2, ml2⟩ := id Lb
    refine r_mk ?_
    walk_at "go"
    refine r_meth0 ?_
    walk_at "go"
    refine ⟨a, dx, _, rfl, h1, look1, a, m, rfl, La, fun p ts qs H1 hp hp1 hts cn s1 => ?_⟩
    refine r_meth0 ?_
    walk_at "go"
    refine ⟨b, dx2, _, rfl, s1 _ _ h12, look1, b, m2, rfl, Lb.same s1, fun p2 ts2 qs2 H2 hp2 hp21 hts2 cn2 s2 => ?_⟩
    have l1 : ts.length = m.length := (Paired.len hts).trans (cn.len mp)
    have l2 : ts2.length = m2.length := (Paired.len hts2).trans (cn2.len mp2)
    refine r_catA (SqT.of (s2 _ _ hp1)) (SqT.of hp21) (sz (by omega)) fun c H3 hc s3 => ?_
    walk_at "go"
    have pp : Paired (PrA H3) (ts ++ ts2) (qs ++ qs2) := Paired.app (Paired.mapP hts fun _ _ z => (z.same s2).same s3) (Paired.mapP hts2 fun _ _ z => z.same s3)
    have s13 : Same H H3 := fun c o e => s3 _ _ (s2 _ _ (s1 _ _ e))
    refine initT_end hc pp (by rw [List.length_append]; omega) (fun z hz => ?_) fun x m' H' hx La' hg s4 => ?_
    · rcases List.mem_append.mp hz with z' | z'
      · exact Int.le_of_lt (mp z ((cn.mem mp z).mp z'))
      · exact Int.le_of_lt (mp2 z ((cn2.mem mp2 z).mp z'))
    · refine q x m' H' (s13.free hx) (La'.mono s13) (fun k => ?_) fun c o e => s4 _ _ (s13 _ _ e)
      have t1 := cn.totf mp nd (fun _ v => v) k
      have t2 := cn2.totf mp2 nd2 (fun _ v => v) k
      have e1 : (qs.map fun p => (p.1, p.2)) = qs := List.map_id' qs
      have e2 : (qs2.map fun p => (p.1, p.2)) = qs2 := List.map_id' qs2
      rw [e1] at t1
      rw [e2] at t2
      rw [hg k, tot_app, t1, t2]
      by_cases c1 : k ∈ keys m
      · rw [if_pos c1]
        by_cases c2 : k ∈ keys m2
        · rw [if_pos c2]
        · rw [if_neg c2, get_none c2]
      · rw [if_neg c1, get_none c1]
        by_cases c2 : k ∈ keys m2
        · rw [if_pos c2]
        · rw [if_neg c2, get_none c2]
/-- what n * m asks of the class beside its method -/
structure TxM (K : PySem.W.Frag) (C : Addr) : Prop where
  i1 : ∃ fo, PySem.W.findIn K (.type "int") (PySem.dunder Operator.Mult.info.2) = some fo
  i2 : ∃ ro, PySem.W.findIn K (.type "int") (dunderR Operator.Mult.info.2) = some ro
  c1 : ∃ f : Addr, PySem.W.findIn K (.ref C) (PySem.dunder Operator.Mult.info.2) = some (some (.ref f))
  c2 : ∃ f : Addr, PySem.W.findIn K (.ref C) (dunderR Operator.Mult.info.2) = some (some (.ref f))
  ci : PySem.W.subIn K (.ref C) (.type "int") = some false
abbrev sLotRmul : Stmt := inClass (top 17) 15
abbrev sLotAnd : Stmt := inClass (top 17) 16
abbrev sLotOr : Stmt := inClass (top 17) 17
end


section
variable {P : Program} {w : World} {K : PySem.W.Frag} {mg : Str → Option Value} {base : Heap} {C CB CS : Addr}
theorem r_xdv {f : Str} {i : Nat} {a C : Addr} {fs : List (Str × V)} {v : V} {σ : L2.St} {H : Hp} {Q : VK} (hi : σ[i]? = some (some (.ref a))) (er : Er H a C fs) (T : XfC K C) (hno : PySem.W.findIn K (.ref C) f = some none) (hl : fs.lookup f = some v) (q : Q v H) : tXd K f (tVar i) σ H Q :=
  ⟨.ref a, hi, a, C, fs, v, rfl, er, T, hno, hl, q⟩
abbrev sCountedX : Stmt := top 15
abbrev sLotInitX : Stmt := inClass (top 17) 0
abbrev sLotSubX : Stmt := inClass (top 17) 13
theorem scLotSubX : FnScope ["self", "other", "kind", "many"] ["self", "other"] (defScope sLotSubX) := ⟨rfl, rfl, rfl, by decide +kernel, rfl, by decide +kernel, by decide +kernel⟩
def spLotSubX (C CS : Addr) : Sp := fun vs H Q E => ∃ (a b : Addr) (m m2 qs : AL) (j : Nat) (r : Str × Int), vs = [.ref a, .ref b] ∧ LoA C H a m ∧ LoA C H b m2 ∧ Cn m2 qs ∧ qs[j]? = some r ∧ get m r.1 < r.2 ∧ (∀ (i : Nat) p, i < j → qs[i]? = some p → p.2 ≤ get m p.1) ∧
  ∀ (d : Addr) (H' : Hp), H d = none → Same H H' → H' d = some (.xd [("lacking", .int (r.2 - get m r.1)), ("kind", .str r.1)]) → E (.ref CS) (some d) H'
theorem ok_lotSubX {f : Addr} {fd : FuncData} (F : Fun K "__sub__" "Lot.__sub__" sLotSubX f fd) (L : TxL K C) (OS : E2 P w K mg base CS "Short" "kind" "lacking") (Op : OCal P w K mg base CX0 2 C "pairs" ["self"] (spLotPairs C)) (Og : OCal P w K mg base CX0 1 C "__getitem__" ["self", "at"] (spLotGetitem C)) : FnOk P w K mg base (CX P w) 4 f fd ["self", "other"] (spLotSubX C CS) := by
  refine F.okX scLotSubX (fun vs H Q E h => ?_) (fun cdv A outer s H vs Q E hr h => ?_)
  · obtain ⟨a, b, m, m2, qs, j, r, rfl, _⟩ := h
    rfl
  · obtain ⟨a, b, m, m2, qs, j, r, rfl, La, Lb, cn, hj, lt, le, q⟩ := h
    obtain ⟨fI, fdI, iC, tI, FB, _, _, bB⟩ := OS.ex
    refine ⟨_, (pss_cons (ps_for (passes_of rfl) rfl (pi_tup (pe_methO0 Op L.oc.cl (hr.mono (by decide)) pass0 (pv 1))) (pg_tup rfl (pgs_cons (pg_name (i := 2) scLotSubX.nd rfl (Or.inl rfl)) (pgs_cons (pg_name (i := 3) scLotSubX.nd rfl (Or.inl rfl)) pgs_nil)))
  (pss_one (ps_if (pt_cmpR op_lt (pe_ixO Og (hr.mono (by decide)) pass0 (pv 0) (pv 2)) (pv 3) (nomark _))
  (pss_one (ps_raise rfl (takes_of rfl rfl rfl rfl) (pmk_oex OS.T iC tI FB (hr.mono (by decide)) bB .nil pass0 (by rfl) OS.gC (pa_cons (pv 2) (pa_cons (pe_op op_sub (pv 3) (pe_ixO Og (hr.mono (by decide)) pass0 (pv 0) (pv 2))) pa_nil)))))
  pss_nil)))
  (pss_one ps_never)), ?_⟩
    walk_at "in"
    walk_at "go"
    obtain ⟨⟨d, dx, h1, h2⟩, nd, mp, ml⟩ := id La
    obtain ⟨⟨d2, dx2, h12, h22⟩, nd2, mp2, ml2⟩ := id Lb
    refine r_meth0 ?_
    walk_at "go"
    refine ⟨b, dx2, _, rfl, h12, look1, b, m2, rfl, Lb, fun p2 ts2 qs2 H1 hp2 hp21 hts2 cn2 s1 => ?_⟩
    obtain rfl : qs2 = qs := cn_unique nd2 nd2 cn2 cn fun _ _ => rfl
    have hjl : j < qs2.length := (List.getElem?_eq_some_iff.mp hj).1
    have lq : ts2.length = qs2.length := Paired.len hts2
    walk_at "go"
    refine for_it (walk_tup (xs := ts2)) (fun i σ H' => ∃ (x2 x3 : Option V), σ = [some (.ref a), some (.ref b), x2, x3] ∧ i ≤ j ∧ Same H1 H') ?_ ?_ ?_ ?_
    · exact ⟨none, none, rfl, Nat.zero_le _, fun c o e => e⟩
    · rintro i σ H' _ ⟨_, _, _, _, s2⟩
      exact SqT.of (s2 _ _ hp21)
    · rintro i x σ _ H2 hi ⟨x2, x3, rfl, hij, s2⟩ ⟨rfl, hx⟩
      obtain ⟨r2, hr1, t, rfl, ht⟩ := Paired.at hts2 hx
      have ht2 := s2 _ _ ht
      walk_at "go"
      refine r_ixO ?_
      walk_at "go"
      refine ⟨a, dx, _, rfl, s2 _ _ (s1 _ _ h1), a, r2.1, m, rfl, (La.same s1).same s2, ?_⟩
      walk_at "go"
      by_cases hij2 : i = j
      · subst hij2
        rw [hj] at hr1
        cases hr1
        refine ite_dT (by omega) ?_
        show tCons (tVar 2) (tCons _ tNil) _ H2 _
        walk_at "go"
        refine r_ixO ?_
        walk_at "go"
        refine ⟨a, dx, _, rfl, s2 _ _ (s1 _ _ h1), a, r.1, m, rfl, (La.same s1).same s2, ?_⟩
        walk_at "go"
        have s12 : Same H H2 := fun c o e => s2 _ _ (s1 _ _ e)
        exact ⟨by simp, fun x hx => end2X (Q := E) hx fun d' H' hd' s3 hx' => q d' H' (s12.free hd') (fun c o e => s3 _ _ (s12 _ _ e)) hx'⟩
      · have := le i r2 (by omega) hr1
        refine ite_dF (by omega) ?_
        walk_at "go"
        exact ⟨_, _, rfl, by omega, s2⟩
    · rintro σ H2 ⟨x2, x3, rfl, hij, s2⟩
      omega
end


section
variable {P : Program} {w : World} {K : PySem.W.Frag} {mg : Str → Option Value} {base : Heap} {C CB CS : Addr}
theorem passTk {X : Cx} {W : WX} (tk : Takes X W) : PassS (CX X.prog X.w) X (fun σ => WE W σ) := fun pins σ H s e s' I c => passAt tk σ pins H s e s' I c
def del (m : AL) (k : Str) : AL := m.filter fun p => decide (p.1 ≠ k)
abbrev sLotSetitem : Stmt := inClass (top 17) 3
end


section
variable {P : Program} {w : World} {K : PySem.W.Frag} {mg : Str → Option Value} {base : Heap} {C CB CS : Addr}
abbrev sLotIadd : Stmt := inClass (top 17) 20
end


section
variable {P : Program} {w : World} {K : PySem.W.Frag} {mg : Str → Option Value} {base : Heap} {C CB CS CO : Addr}
/-- the class Opening -/
structure TxO (K : PySem.W.Frag) (CO : Addr) : Prop where
  oc : OCls K CO
  nk : NoAttr K CO "kind"
  np : NoAttr K CO "_pairs"
abbrev sOpeningInit : Stmt := inClass (top 19) 0
theorem scOpeningInit : FnScope ["self", "kind", "contents"] ["self", "kind", "contents"] (defScope sOpeningInit) := ⟨rfl, rfl, rfl, by decide +kernel, rfl, by decide +kernel, by decide +kernel⟩
/-- an Opening: the pairs of its contents stand at t -/
def OpA (CO : Addr) (H : Hp) (o : Addr) (k : Str) (qs : AL) : Prop := ∃ (dx t : Addr) (ts : List V), H o = some (.ins CO dx [("kind", .str k), ("_pairs", .ref t)]) ∧ H t = some (.tup ts) ∧ Paired (PrA H) ts qs
theorem OpA.same {H H' : Hp} {o : Addr} {k : Str} {qs : AL} (h : OpA CO H o k qs) (s : Same H H') : OpA CO H' o k qs := by
  obtain ⟨dx, t, ts, h1, h2, h3⟩ := h
  exact ⟨dx, t, ts, s _ _ h1, s _ _ h2, Paired.mapP h3 fun _ _ z => z.same s⟩
def spOpInit (C CO : Addr) : Sp := fun vs H Q _ => ∃ (p dx x : Addr) (k : Str) (m : AL), vs = [.ref p, .str k, .ref x] ∧ H p = some (.ins CO dx []) ∧ LoA C H x m ∧ m ≠ [] ∧ get m k = 0 ∧
  ∀ (qs : AL) (H' : Hp), OpA CO H' p k qs → Cn m qs → (∀ c o, H c = some o → c ≠ p → H' c = some o) → Q .non H'
theorem ok_opInit {f : Addr} {fd : FuncData} (F : Fun K "__init__" "Opening.__init__" sOpeningInit f fd) (T : Txt K mg) (L : TxL K C) (O : TxO K CO) (Ol : OCal P w K mg base CX0 1 C "__len__" ["self"] (spLotLen C)) (Oc : OCal P w K mg base CX0 1 C "__contains__" ["self", "x"] (spLotContains C)) (Op : OCal P w K mg base CX0 2 C "pairs" ["self"] (spLotPairs C)) : FnOk P w K mg base CX0 3 f fd ["self", "kind", "contents"] (spOpInit C CO) := by
  refine F.ok scOpeningInit (fun vs H Q E h => ?_) (fun cdv A outer s H vs Q E hr h => ?_)
  · obtain ⟨p, dx, x, k, m, rfl, _⟩ := h
    rfl
  · obtain ⟨p, dx, x, k, m, rfl, hp, Lx, ne, g0, q⟩ := h
    obtain ⟨⟨d, dx1, h1, h2⟩, nd, mp, ml⟩ := id Lx
    refine ⟨_, (pss_cons (ps_if (pt_cmpR op_eq (pe_callB (c_lenO Ol (hr.mono (by decide)) pass0) (by rfl) T.len (by decide +kernel) (pa_cons (pv 2) pa_nil)) pe_int (nomark _))
  pss_never
  pss_nil)
  (pss_cons (ps_if (pt_cmpR (op_inO Oc (hr.mono (by decide)) pass0) (pv 1) (pv 2) (by rfl))
  pss_never
  pss_nil)
  (pss_cons (ps_fld (pv 0) (pv 1) rfl)
  (pss_one (ps_fld (pv 0) (pe_methO0 Op L.oc.cl (hr.mono (by decide)) pass0 (pv 2)) rfl))))), ?_⟩
    walk_at "in"
    walk_at "go"
    refine ⟨x, dx1, _, rfl, h1, x, m, rfl, Lx, _, rfl, ⟨by omega, by omega⟩, ?_⟩
    walk_at "go"
    have l0 : m.length ≠ 0 := fun z => ne (List.eq_nil_of_length_eq_zero z)
    refine ite_dF (fun z => by injection z with z; omega) ?_
    walk_at "go"
    refine ⟨x, dx1, _, rfl, h1, x, k, m, rfl, Lx, _, rfl, ?_⟩
    rw [g0]
    refine ⟨_, rfl, ?_⟩
    refine iteF ?_
    walk_at "go"
    refine ⟨.str k, rfl, V.ref p, rfl, p, CO, dx, [], rfl, hp, O.oc.cl, O.nk, by show 0 < 1000; decide, ?_⟩
    show tMeth C "pairs" (spLotPairs C) [] E0 (tVar 2) tNil _ _ _
    refine r_meth0 ?_
    walk_at "go"
    have npx : x ≠ p := fun z => by
      rw [z, hp] at h1
      cases h1
    have npd : d ≠ p := fun z => by
      rw [z, hp] at h2
      cases h2
    have Lx' : LoA C (upd H p (.ins CO dx (putF "kind" (.str k) []))) x m := ⟨⟨d, dx1, by rw [upd_ne npx]; exact h1, by rw [upd_ne npd]; exact h2⟩, nd, mp, ml⟩
    refine ⟨x, dx1, _, rfl, by rw [upd_ne npx]; exact h1, look1, x, m, rfl, Lx', fun t ts qs H1 ht ht1 hts cn s1 => ?_⟩
    have hp1 := s1 _ _ upd_same
    refine ⟨V.ref p, rfl, p, CO, dx, _, rfl, hp1, O.oc.cl, O.np, by show 1 < 1000; decide, ?_⟩
    have npt : t ≠ p := fun z => by
      rw [z, hp1] at ht1
      cases ht1
    have k2 : Kp p H1 (upd H1 p (.ins CO dx (putF "_pairs" (.ref t) (putF "kind" (.str k) [])))) := fun c o e n => by rw [upd_ne n]; exact e
    refine q qs _ ⟨dx, t, ts, ?_, by rw [upd_ne npt]; exact ht1, PrA.kpdAll hts k2 hp1 (fun _ z => by cases z)⟩ cn fun c o e n => ?_
    · exact upd_same
    · rw [upd_ne n]
      exact s1 _ _ (by rw [upd_ne n]; exact e)
abbrev sOpeningContents : Stmt := inClass (top 19) 1
theorem scOpeningContents : FnScope ["self"] ["self"] (defScope sOpeningContents) := ⟨rfl, rfl, rfl, by decide +kernel, rfl, by decide +kernel, by decide +kernel⟩
def spOpContents (C CO : Addr) : Sp := fun vs H Q _ => ∃ (o : Addr) (k : Str) (qs : AL), vs = [.ref o] ∧ OpA CO H o k qs ∧ qs.length ≤ 30 ∧ (∀ z ∈ qs, 0 ≤ z.2) ∧
  ∀ (x : Addr) (m' : AL) (H' : Hp), H x = none → LoN C H H' x m' → (∀ k, get m' k = tot qs k) → Same H H' → Q (.ref x) H'
theorem ok_opContents {f : Addr} {fd : FuncData} (F : Fun K "contents" "Opening.contents" sOpeningContents f fd) (O : TxO K CO) (Om : OMk P w K mg base CX0 2 C "Lot" ["self", "pairs"] (spLotInitT K C)) : FnOk P w K mg base CX0 4 f fd ["self"] (spOpContents C CO) := by
  refine F.ok scOpeningContents (fun vs H Q E h => ?_) (fun cdv A outer s H vs Q E hr h => ?_)
  · obtain ⟨o, k, qs, rfl, _⟩ := h
    rfl
  · obtain ⟨o, k, qs, rfl, ⟨dx, t, ts, h1, h2, h3⟩, l30, q0, q⟩ := h
    refine ⟨_, (pss_one (ps_ret (pe_makeO Om (hr.mono (by decide)) pass0 (pa_cons (pe_fld (pv 0) rfl) pa_nil)))), ?_⟩
    walk_at "in"
    walk_at "go"
    refine r_mk ?_
    walk_at "go"
    refine ⟨_, rfl, o, CO, dx, _, _, rfl, h1, O.oc.cl, O.np, rfl, ?_⟩
    walk_at "go"
    refine initT_end (SqT.of h2) h3 (by rw [Paired.len h3]; exact l30) q0 fun x m' H' hx La hg s1 => ?_
    exact q x m' H' hx La hg s1
end


section
variable {P : Program} {w : World} {K : PySem.W.Frag} {mg : Str → Option Value} {base : Heap} {C CB CS CO t0 : Addr}
theorem sm_lst {K : PySem.W.Frag} {n : Nat} {H : Hp} {a b : Addr} {xs ys : List V} (h1 : H a = some (.lst xs)) (h2 : H b = some (.lst ys)) (e : xs.length = ys.length) (hl : xs.length ≤ 1000) (h : ∀ (i : Nat) (u v : V), xs[i]? = some u → ys[i]? = some v → Sm K n u v H) : Sm K (n + 1) (.ref a) (.ref b) H := Or.inr (Or.inl ⟨a, b, xs, ys, rfl, rfl, h1, h2, e, hl, h⟩)
theorem sm_tupl {K : PySem.W.Frag} {n : Nat} {H : Hp} {a b : Addr} {xs ys : List V} (h1 : H a = some (.tup xs)) (h2 : H b = some (.tup ys)) (e : xs.length = ys.length) (hl : xs.length ≤ 1000) (h : ∀ (i : Nat) (u v : V), xs[i]? = some u → ys[i]? = some v → Sm K n u v H) : Sm K (n + 1) (.ref a) (.ref b) H := Or.inr (Or.inr ⟨a, b, xs, ys, rfl, rfl, h1, h2, e, hl, h⟩)
theorem sm_int {K : PySem.W.Frag} {n : Nat} {H : Hp} {i j : Int} (e : i = j) : Sm K (n + 1) (.int i) (.int j) H := Or.inl ⟨by rw [e], Or.inr (Or.inr (Or.inl ⟨_, rfl⟩))⟩
theorem sm_bl {K : PySem.W.Frag} {n : Nat} {H : Hp} {i j : Bool} (e : i = j) : Sm K (n + 1) (.bl i) (.bl j) H := Or.inl ⟨by rw [e], Or.inr (Or.inl ⟨_, rfl⟩)⟩
theorem sm_str {K : PySem.W.Frag} {n : Nat} {H : Hp} {i j : Str} (e : i = j) : Sm K (n + 1) (.str i) (.str j) H := Or.inl ⟨by rw [e], Or.inr (Or.inr (Or.inr ⟨_, rfl⟩))⟩
theorem sm_prs {K : PySem.W.Frag} {n : Nat} {H : Hp} {a b : Addr} {xs ys : List V} {qs : AL} (h1 : H a = some (.tup xs)) (h2 : H b = some (.tup ys)) (p1 : Paired (PrA H) xs qs) (p2 : Paired (PrA H) ys qs) (hl : qs.length ≤ 1000) : Sm K (n + 3) (.ref a) (.ref b) H := by
  have l1 := Paired.len p1
  have l2 := Paired.len p2
  refine sm_tupl h1 h2 (by omega) (by omega) fun i u v hu hv => ?_
  obtain ⟨r, hr, t, rfl, ht⟩ := Paired.at p1 hu
  obtain ⟨r', hr', t', rfl, ht'⟩ := Paired.at p2 hv
  rw [hr] at hr'
  cases hr'
  refine sm_tupl ht ht' rfl (by simp) fun i u v hu hv => ?_
  rw [hu] at hv
  cases hv
  have := List.mem_of_getElem? hu
  simp at this
  rcases this with z | z
  · exact Or.inl ⟨rfl, Or.inr (Or.inr (Or.inr ⟨_, z⟩))⟩
  · exact Or.inl ⟨rfl, Or.inr (Or.inr (Or.inl ⟨_, z⟩))⟩
theorem at2 {a b a' b' : V} {R : V → V → Prop} (h1 : R a a') (h2 : R b b') (i : Nat) (u v : V) (hu : [a, b][i]? = some u) (hv : [a', b'][i]? = some v) : R u v := by
  match i, hu, hv with
  | 0, hu, hv => cases hu; cases hv; exact h1
  | 1, hu, hv => cases hu; cases hv; exact h2
  | n + 2, hu, hv => simp at hu
theorem at3 {a b c a' b' c' : V} {R : V → V → Prop} (h1 : R a a') (h2 : R b b') (h3 : R c c') (i : Nat) (u v : V) (hu : [a, b, c][i]? = some u) (hv : [a', b', c'][i]? = some v) : R u v := by
  match i, hu, hv with
  | 0, hu, hv => cases hu; cases hv; exact h1
  | 1, hu, hv => cases hu; cases hv; exact h2
  | 2, hu, hv => cases hu; cases hv; exact h3
  | n + 3, hu, hv => simp at hu
theorem at4 {a b c d a' b' c' d' : V} {R : V → V → Prop} (h1 : R a a') (h2 : R b b') (h3 : R c c') (h4 : R d d') (i : Nat) (u v : V) (hu : [a, b, c, d][i]? = some u) (hv : [a', b', c', d'][i]? = some v) : R u v := by
  match i, hu, hv with
  | 0, hu, hv => cases hu; cases hv; exact h1
  | 1, hu, hv => cases hu; cases hv; exact h2
  | 2, hu, hv => cases hu; cases hv; exact h3
  | 3, hu, hv => cases hu; cases hv; exact h4
  | n + 4, hu, hv => simp at hu
theorem lq_of {m qs : AL} (cn : Cn m qs) : qs.length ≤ m.length := by
  rw [cn.1.length_eq]
  exact List.length_filter_le _ _
theorem nil_of {m : AL} (nd : (keys m).Nodup) (mp : ∀ p ∈ m, 0 < p.2) (g : ∀ k, get m k = 0) : m = [] := by
  cases m with
  | nil => rfl
  | cons p r =>
    have h := get_pos mp nd (k := p.1) List.mem_cons_self
    rw [g] at h
    omega
theorem cn_ex (m : AL) : ∃ qs, Cn m qs := ⟨(pos m).mergeSort ple, List.mergeSort_perm _ _, List.pairwise_mergeSort (le := ple) (fun a b c h h' => ple_trans h h') (fun a b => by rcases ple_total a b with h | h <;> rw [h] <;> simp) _⟩
end


section
variable {P : Program} {w : World} {K : PySem.W.Frag} {mg : Str → Option Value} {base : Heap}
abbrev sRising : Stmt := top 30
theorem scRising : FnScope ["_law_rows_so", "_law_done", "_law_row", "_law_at_so", "_law_own"] ["_law_rows_so"] (defScope sRising) := ⟨rfl, rfl, rfl, by decide +kernel, rfl, by decide +kernel, by decide +kernel⟩
def spRising (K : PySem.W.Frag) : Sp := fun vs H Q _ => ∃ (l : Addr) (xs : List V) (ps : AL), vs = [.ref l] ∧ SqL K H l xs ∧ Paired (PrA H) xs ps ∧ xs.length ≤ 1000 ∧
  ∀ (p : Addr) (ys : List V) (qs : AL) (H' : Hp), H p = none → H' p = some (.lst ys) → Paired (PrA H') ys qs → qs.Perm ps → qs.Pairwise (fun a b => ple a b = true) → Same H H' → Q (.ref p) H'
theorem ok_rising {f : Addr} {fd : FuncData} (F : Fun K "_law_rising" "_law_rising" sRising f fd) (T : Txt K mg) : FnOk P w K mg base CX0 1 f fd ["_law_rows_so"] (spRising K) := by
  refine F.ok scRising (fun vs H Q E h => ?_) (fun cdv A outer s H vs Q E hr h => ?_)
  · obtain ⟨l, xs, ps, rfl, _⟩ := h
    rfl
  · obtain ⟨l, xs, ps, rfl, hl, hps, h1000, q⟩ := h
    refine ⟨_, (pss_cons (ps_set (i := 1) scRising.nd rfl (Or.inl rfl) (pe_lst pa_nil))
  (pss_cons (ps_for PassesOwn.never rfl (pi_list (pv 0)) (pg_name (i := 2) scRising.nd rfl (Or.inr rfl))
  (Evl.pss_cut (ps_set (i := 3) scRising.nd rfl (Or.inl rfl) (pe_callB c_lenL (by rfl) T.len (by decide +kernel) (pa_cons (pe_lc (own := [("_law_own", 4)]) (g := gName 4) rfl scRising.nd (pi_list (pv 1)) (blkOk_by (N := ["_law_rows_so", "_law_done", "_law_row", "_law_at_so", "_law_own"]) (sc := defScope sRising) (by decide +kernel)) (fun _ _ _ _ _ => (pg_name (i := 4) scRising.nd rfl (Or.inl rfl))) (fun _ _ _ _ _ => (pts_one (pt_cmpR (opK (r := rLeP) K (o_leP hr.units0)) (pv 4) (pv 2) (nomark _)))) (fun _ _ _ _ _ => pe_int)) pa_nil)))
  (pss_one (ps_set (i := 1) scRising.nd rfl (Or.inl rfl) (pe_op op_cat (pe_op op_cat (pe_slice sl_list (pv 1) po_none (po_some (pv 3))) (pe_lst (pa_cons (pv 2) pa_nil))) (pe_slice sl_list (pv 1) (po_some (pv 3)) po_none))))))
  (pss_one (ps_ret (pv 1))))), ?_⟩
    walk_at "in"
    walk_at "go"
    rename_i d0 hd0
    have lps := Paired.len hps
    refine for_it (walk_list (xs := xs)) (fun i σ H' => ∃ (d : Addr) (ds : List V) (qs : AL) (x2 x3 : Option V), σ = [some (.ref l), some (.ref d), x2, x3, none] ∧ H d = none ∧ H' d = some (.lst ds) ∧ Paired (PrA H') ds qs ∧ qs.Perm (ps.take i) ∧ qs.Pairwise (fun a b => ple a b = true) ∧ Same H H') ?_ ?_ ?_ ?_
    · exact ⟨d0, [], [], none, none, rfl, hd0, upd_same, .nil, List.Perm.refl _, List.Pairwise.nil, fun c o e => by walk_at "hp"⟩
    · rintro i σ H' _ ⟨_, _, _, _, _, _, _, _, _, _, _, s1⟩
      exact s1.seq hl
    · rintro i x σ _ H1 hi ⟨d, ds, qs, x2, x3, rfl, hd, hd1, hds, pm, pw, s1⟩ ⟨rfl, hx⟩
      obtain ⟨p, hp, hxp⟩ := Paired.at hps hx
      have lds : ds.length ≤ 1000 := by have := Paired.len hds; have := pm.length_eq; rw [List.length_take] at this; omega
      walk_at "go"
      refine ⟨fun σ' H' => σ' = [some (.ref l), some (.ref d), some x, some (.int (cnt ple qs p : Nat)), none] ∧ H' d = some (.lst ds) ∧ Same H1 H', ?_, ?_⟩
      · walk_at "go"
        intro D hD
        refine lc_it (walk_list (xs := ds)) (fun j H' => H' D = some (.lst (List.replicate (((qs.take j).filter fun q => ple q p).length) (V.int 1))) ∧ H' d = some (.lst ds) ∧ Same H1 H') ?_ ?_ ?_ ?_
        · exact ⟨upd_same, by walk_at "hp", fun c o e => by walk_at "hp"⟩
        · rintro j H' _ ⟨_, h, _⟩
          exact SqL.of h
        · rintro j y _ H2 hj ⟨hD2, hd2, s2⟩ ⟨rfl, hy⟩
          obtain ⟨r, hr2, hyr⟩ := Paired.at hds hy
          obtain ⟨t1, rfl, ht1⟩ := hxp
          obtain ⟨t2, rfl, ht2⟩ := hyr
          walk_at "go"
          refine ⟨rfl, ?_⟩
          walk_at "go"
          refine r_leP (p := r) (q := p) (SqT.of (s2 _ _ ht2)) (SqT.of (s2 _ _ (s1 _ _ ht1))) ?_
          walk_at "go"
          have ef := filter_take (f := fun q => ple q p) hr2
          cases hc : ple r p with
          | true =>
            rw [hc, if_pos rfl] at ef
            refine iteT ?_
            walk_at "go"
            refine ⟨_, hD2, szl (by rw [List.length_replicate]; have := List.length_filter_le (fun q => ple q p) (qs.take j); rw [List.length_take] at this; omega), ?_, ?_, fun c o e => ?_⟩
            · rw [ef, List.replicate_succ']
              exact upd_same
            · have n1 : d ≠ D := ne_of_none hd1 hD
              walk_at "hp"
            · have n1 : c ≠ D := ne_of_none e hD
              walk_at "hp"
          | false =>
            rw [hc, if_neg (by decide)] at ef
            refine iteF ?_
            rw [ef]
            exact ⟨hD2, hd2, s2⟩
        · rintro H2 ⟨hD2, hd2, s2⟩
          walk_at "go"
          have e1 : qs.take ds.length = qs := by rw [Paired.len hds, List.take_length]
          rw [List.length_replicate, e1]
          exact ⟨rfl, hd2, s2⟩
      · rintro σ2 H2 ⟨rfl, hd2, s2⟩
        have hc := cnt_le ple qs p
        have lq := Paired.len hds
        obtain ⟨t1, rfl, ht1⟩ := hxp
        generalize hcn : cnt ple qs p = c at hc
        walk_at "go"
        rename_i p1 hp1 p2 hp2
        have e1 : cutV ds none (some (c : Int)) = ds.take c := cutV_to ds c
        have e2 : cutV ds (some (c : Int)) none = ds.drop c := cutV_from ds c
        rw [e1] at hp2 ⊢
        refine r_cat (by walk_at "hp") (by walk_at "hp") (sz (by rw [List.length_take]; show _ + 1 ≤ _; omega)) fun p3 hp3 => ?_
        walk_at "go"
        rename_i p4 hp4
        rw [e2] at ⊢
        refine r_cat (by walk_at "hp") (by walk_at "hp") (sz (by rw [List.length_append, List.length_take, List.length_drop]; show _ + 1 + _ ≤ _; omega)) fun p5 hp5 => ?_
        have s3 : Same H1 (upd (upd (upd (upd (upd H2 p1 (.lst (ds.take c))) p2 (.lst [V.ref t1])) p3 (.lst (ds.take c ++ [V.ref t1]))) p4 (.lst (ds.drop c))) p5 (.lst (ds.take c ++ [V.ref t1] ++ ds.drop c))) := fun c o e => by walk_at "hp"
        obtain ⟨i1, _, _⟩ := put_rising ple_total (fun {p q r} => ple_trans) p pw
        rw [hcn] at i1
        refine ⟨p5, ds.take c ++ [V.ref t1] ++ ds.drop c, qs.take c ++ [p] ++ qs.drop c, _, _, rfl, ?_, upd_same, ?_, ?_, i1, s1.trans s3⟩
        · exact s1.free (Same.free (fun c o e => by walk_at "hp") hp5)
        · exact Paired.app (Paired.app (PrA.all (Paired.tk c hds) s3) (.cons ⟨t1, rfl, s3 _ _ (s1 _ _ ht1)⟩ .nil)) (PrA.all (Paired.dr c hds) s3)
        · refine (perm_in qs p c).trans ?_
          rw [List.take_add_one, hp]
          exact List.Perm.append_right _ pm
    · rintro σ H1 ⟨d, ds, qs, x2, x3, rfl, hd, hd1, hds, pm, pw, s1⟩
      walk_at "go"
      refine q d ds qs H1 hd hd1 hds ?_ pw s1
      rw [lps, List.take_length] at pm
      exact pm
end


section
variable {P : Program} {w : World} {K : PySem.W.Frag} {mg : Str → Option Value} {base : Heap}
abbrev sPairs : Stmt := top 32
theorem scPairs : FnScope ["_law_numbers_so", "_law_done", "_law_own"] ["_law_numbers_so"] (defScope sPairs) := ⟨rfl, rfl, rfl, by decide +kernel, rfl, by decide +kernel, by decide +kernel⟩
def spPairs : Sp := fun vs H Q _ => ∃ (d : Addr) (m : AL), vs = [.ref d] ∧ H d = some (.dK (enc m)) ∧ (keys m).Nodup ∧ m.length ≤ 1000 ∧
  ∀ (p : Addr) (ts : List V) (qs : AL) (H' : Hp), H p = none → H' p = some (.tup ts) → Paired (PrA H') ts qs → Cn m qs → Same H H' → Q (.ref p) H'
theorem ok_pairs {f : Addr} {fd : FuncData} (F : Fun K "_law_pairs" "_law_pairs" sPairs f fd) (T : Txt K mg) (Cr : Cal P w K mg base CX0 1 "_law_rising" ["_law_rows_so"] (spRising K)) : FnOk P w K mg base CX0 2 f fd ["_law_numbers_so"] spPairs := by
  refine F.ok scPairs (fun vs H Q E h => ?_) (fun cdv A outer s H vs Q E hr h => ?_)
  · obtain ⟨d, m, rfl, _⟩ := h
    rfl
  · obtain ⟨d, m, rfl, hd, nd, h1000, q⟩ := h
    have hu := hu_of hr
    refine ⟨_, (Evl.pss_cut (ps_lock (ps_setLc (i := 1) (own := [("_law_own", 2)]) (g := gName 2) rfl scPairs.nd rfl rfl (sw_true rfl rfl rfl (by decide +kernel)) (pi_keys (pv 0)) (blkOk_by (N := ["_law_numbers_so", "_law_done", "_law_own"]) (sc := defScope sPairs) (by decide +kernel)) (fun _ _ _ _ _ => (pg_name (i := 2) scPairs.nd rfl (Or.inl rfl))) (fun _ _ _ _ _ => (pts_one (pt_cmpR op_gt (pe_dget hu (pv 0) (pv 2) (fun _ _ => rfl)) pe_int (nomark _)))) (fun _ _ _ _ _ => (pe_tup (pa_cons (pv 2) (pa_cons (pe_dget hu (pv 0) (pv 2) (fun _ _ => rfl)) pa_nil))))))
  (pss_one (ps_ret (pe_callTy c_tupL (by rfl) T.tuple (by decide +kernel) (pa_cons (pe_cal Cr hr pass0 (pa_cons (pv 1) pa_nil)) pa_nil))))), ?_⟩
    walk_at "in"
    refine ⟨fun σ' H' => ∃ (D : Addr) (xs : List V), σ' = [some (.ref d), some (.ref D), none] ∧ H D = none ∧ H' D = some (.lst xs) ∧ Paired (PrA H') xs (pos m) ∧ Same H H', ?_, ?_⟩
    · refine r_lock hd trivial fun od => ?_
      walk_at "go"
      refine ⟨d, od, rfl, Or.inl ⟨enc m, upd_same, ?_⟩⟩
      intro D hD
      have nDd : D ≠ d := fun z => by rw [z, upd_same] at hD; cases hD
      have hD0 : H D = none := by rw [upd_ne nDd] at hD; exact hD
      refine lc_it (walk_keys (kvs := enc m)) (fun i H' => ∃ xs, H' D = some (.lst xs) ∧ Paired (PrA H') xs (pos (m.take i)) ∧ H' d = some (.frz od (.dK (enc m))) ∧ Kp d H H') ?_ ?_ ?_ ?_
      · exact ⟨[], upd_same, .nil, by walk_at "hp", fun c o e n => by walk_at "hp"⟩
      · rintro i H' _ ⟨_, _, _, h, _⟩
        exact h
      · rintro i x _ H1 hi ⟨xs, hD1, hxs, hd1, kp1⟩ ⟨rfl, k, v, hkv, rfl⟩
        obtain ⟨p, hp, rfl, rfl⟩ := enc_at hkv
        walk_at "go"
        refine ⟨rfl, ?_⟩
        walk_at "go"
        have hg : DGet H1 d (.str p.1) (some (.int p.2)) := DGet_enc (r := some p.2) (Or.inr ⟨od, hd1⟩) (look_at nd hp)
        refine ⟨d, .int p.2, rfl, hg, ?_⟩
        walk_at "go"
        have ep := pos_take hp
        refine ite_d (fun c => ?_) (fun c => ?_)
        · rw [if_pos c] at ep
          walk_at "go"
          refine ⟨d, .int p.2, rfl, hg, ?_⟩
          walk_at "go"
          rename_i t ht
          have n1 : D ≠ t := ne_of_none hD1 ht
          have n2 : d ≠ t := ne_of_none hd1 ht
          have n3 : d ≠ D := Ne.symm nDd
          have k2 : Kp D H1 (upd (upd H1 t (.tup [V.str p.1, V.int p.2])) D (.lst (xs ++ [V.ref t]))) := fun c o e n => by walk_at "hp"
          refine ⟨xs, by walk_at "hp", szl (by have := Paired.len hxs; have h2 := List.length_filter_le (fun p : Str × Int => decide (0 < p.2)) (m.take i); have h3 : xs.length ≤ (m.take i).length := Nat.le_trans (Nat.le_of_eq this) h2; rw [List.length_take] at h3; omega), xs ++ [V.ref t], upd_same, ?_, by walk_at "hp", fun c o e n => ?_⟩
          · rw [ep]
            exact Paired.app (PrA.kpdAll hxs k2 hD1 (fun _ z => by cases z)) (.cons ⟨t, rfl, by walk_at "hp"⟩ .nil)
          · have n4 : c ≠ D := ne_of_none e hD0
            walk_at "hp"
        · rw [if_neg c, List.append_nil] at ep
          rw [ep]
          exact ⟨xs, hD1, hxs, hd1, kp1⟩
      · rintro H1 ⟨xs, hD1, hxs, hd1, kp1⟩
        walk_at "go"
        have k2 : Kp d H1 (upd H1 d (.dK (enc m))) := fun c o e n => by walk_at "hp"
        rw [enc_len, List.take_length] at hxs
        refine ⟨hd1, D, xs, rfl, hD0, by walk_at "hp", PrA.kpdAll hxs k2 hd1 (fun _ z => by cases z), fun c o e => ?_⟩
        by_cases n : c = d
        · subst n
          rw [hd] at e
          rw [← Option.some.inj e]
          exact upd_same
        · walk_at "hp"
    · rintro σ1 H1 ⟨D, xs, rfl, hD, hD1, hxs, s1⟩
      walk_at "go"
      refine ⟨D, xs, pos m, rfl, SqL.of hD1, hxs, by rw [Paired.len hxs]; have := List.length_filter_le (fun p : Str × Int => decide (0 < p.2)) m; exact Nat.le_trans this h1000, fun l ys qs H2 hl hl2 hys pm pw s2 => ?_⟩
      walk_at "go"
      rename_i t ht
      have s3 : Same H2 (upd H2 t (.tup ys)) := fun c o e => by walk_at "hp"
      exact q t ys qs _ (s1.free (s2.free ht)) upd_same (PrA.all hys s3) ⟨pm, pw⟩ ((s1.trans s2).trans s3)
end


/-- e.f, a property of an own class -/
structure OPr (P : Program) (w : World) (K : PySem.W.Frag) (mg : Str → Option Value) (base : Heap) (CX : CXT) (k : Nat) (C : Addr) (f : Str) (sp : Sp) : Prop where
  ex : ∃ (p g : Addr) (fd : FuncData), PropOf K C f p g ∧ FnOk P w K mg base CX k g fd ["self"] sp ∧ Binds K fd ["self"] []
theorem pe_propO {X : Cx} {CX : CXT} {k : Nat} {C : Addr} {f : Str} {sp : Sp} {E : XK} {e : Expr} {pos : Pos} {ta : TE} (O : OPr X.prog X.w X.K X.mg X.base CX k C f sp) (c : Cls X.K C) (hr : Room (k + 1) X.A) (hx : Passes CX X.nox E) (he : PE X e ta)
    (hab : attributeBase e f X.env (eval e X.env) = eval e X.env) : PE X (.Attribute e f pos) (tProp C sp [] E ta) := by
  obtain ⟨p, g, fd, hp, F, hb⟩ := O.ex
  exact pe_prop he c hp F hr hb .nil hx hab
theorem r_prop {C : Addr} {sp : Sp} {E : XK} {ta : TE} {σ : L2.St} {H : Hp} {Q : VK} (h : ta σ H fun x H1 => ∃ a dx fs, x = .ref a ∧ H1 a = some (.ins C dx fs) ∧ sp [.ref a] H1 Q E) : tProp C sp [] E ta σ H Q := h
/-- the place of an Opening as data -/
def plD (k : Str) (qs : AL) : PyData := .tuple [.str k, pd qs]
def PlA (H : Hp) (x : V) (k : Str) (qs : AL) : Prop := ∃ (t u : Addr) (ts : List V), x = .ref t ∧ H t = some (.tup [.str k, .ref u]) ∧ H u = some (.tup ts) ∧ Paired (PrA H) ts qs
theorem PlA.same {H H' : Hp} {x : V} {k : Str} {qs : AL} (h : PlA H x k qs) (s : Same H H') : PlA H' x k qs := by
  obtain ⟨t, u, ts, e, h1, h2, h3⟩ := h
  exact ⟨t, u, ts, e, s _ _ h1, s _ _ h2, Paired.mapP h3 fun _ _ z => z.same s⟩
theorem PlA.dp {K : PySem.W.Frag} {H : Hp} {x : V} {k : Str} {qs : AL} (h : PlA H x k qs) : Dp K H x (plD k qs) := by
  obtain ⟨t, u, ts, rfl, h1, h2, h3⟩ := h
  exact .tup (SqT.of h1) (.cons (.str _) (.cons (dp_pairs h2 h3) .nil))
section
variable {P : Program} {w : World} {K : PySem.W.Frag} {mg : Str → Option Value} {base : Heap} {C CB CS CO : Addr}
abbrev sOpeningPlace : Stmt := inClass (top 19) 2
theorem scOpeningPlace : FnScope ["self"] ["self"] (defScope sOpeningPlace) := ⟨rfl, rfl, rfl, by decide +kernel, rfl, by decide +kernel, by decide +kernel⟩
def spOpPlace (CO : Addr) : Sp := fun vs H Q _ => ∃ (o : Addr) (k : Str) (qs : AL), vs = [.ref o] ∧ OpA CO H o k qs ∧ ∀ t H', H t = none → PlA H' (.ref t) k qs → Same H H' → Q (.ref t) H'
theorem ok_opPlace {f : Addr} {fd : FuncData} (F : Fun K "place" "Opening.place" sOpeningPlace f fd) (O : TxO K CO) : FnOk P w K mg base CX0 1 f fd ["self"] (spOpPlace CO) := by
  refine F.ok scOpeningPlace (fun vs H Q E h => ?_) (fun cdv A outer s H vs Q E hr h => ?_)
  · obtain ⟨o, k, qs, rfl, _⟩ := h
    rfl
  · obtain ⟨o, k, qs, rfl, ⟨dx, t, ts, h1, h2, h3⟩, q⟩ := h
    refine ⟨_, (pss_one (ps_ret (pe_tup (pa_cons (pe_fld (pv 0) rfl) (pa_cons (pe_fld (pv 0) rfl) pa_nil))))), ?_⟩
    walk_at "in"
    walk_at "go"
    refine ⟨_, rfl, o, CO, dx, _, _, rfl, h1, O.oc.cl, O.nk, rfl, ?_⟩
    walk_at "go"
    refine ⟨_, rfl, o, CO, dx, _, _, rfl, h1, O.oc.cl, O.np, rfl, ?_⟩
    walk_at "go"
    rename_i p hp
    have s1 : Same H (upd H p (.tup [V.str k, V.ref t])) := fun c o e => upd_at e (ne_of_none e hp)
    exact q p _ hp ⟨p, t, ts, rfl, upd_same, s1 _ _ h2, Paired.mapP h3 fun _ _ z => z.same s1⟩ s1
theorem OpA.ins {H : Hp} {o : Addr} {k : Str} {qs : AL} (h : OpA CO H o k qs) : ∃ dx t, H o = some (.ins CO dx [("kind", .str k), ("_pairs", .ref t)]) := by
  obtain ⟨dx, t, ts, h1, _, _⟩ := h
  exact ⟨dx, t, h1⟩
theorem look2 {m : Str} {v u : V} (h : (m == ("kind" : Str)) = false := by decide +kernel) (h2 : (m == ("_pairs" : Str)) = false := by decide +kernel) : List.lookup m [(("kind" : Str), v), ("_pairs", u)] = none := by
  rw [List.lookup_cons, h, List.lookup_cons, h2]
  rfl
/-- facts for isinstance of an Opening -/
structure TxOI (K : PySem.W.Frag) (mg : Str → Option Value) (C CO : Addr) : Prop where
  gO : mg "Opening" = some (.ref CO)
  ha : PySem.W.findIn K (.ref CO) "__class__" = some (some (.builtin "object.__class__"))
  hn : PySem.W.specialIn K (.builtin "object.__class__") "__get__" = some (some (.builtin "getset_descriptor.__get__"))
  ht : PySem.W.takesIn K (.builtin "object.__class__") = some true
  hm : PySem.W.mroIn K CO (.type "object") = some true
  kt : PySem.W.kitOne K (.type "tuple") (.ref CO) = some false
  ks : PySem.W.kitOne K (.type "str") (.ref CO) = some false
  kl : PySem.W.kitOne K (.ref C) (.ref CO) = some false
abbrev sOpeningEq : Stmt := inClass (top 19) 3
end


section
variable {P : Program} {w : World} {K : PySem.W.Frag} {mg : Str → Option Value} {base : Heap} {C CO CB CP : Addr}
/-- an Opening as a value -/
def OpV (CO : Addr) (H : Hp) (v : V) (r : Row) : Prop := ∃ o, v = .ref o ∧ OpA CO H o r.1 r.2
theorem OpV.same {H H' : Hp} {v : V} {r : Row} (h : OpV CO H v r) (s : Same H H') : OpV CO H' v r := let ⟨o, e, h⟩ := h; ⟨o, e, h.same s⟩
theorem OpV.all {H H' : Hp} {vs : List V} {rs : List Row} (h : Paired (OpV CO H) vs rs) (s : Same H H') : Paired (OpV CO H') vs rs := Paired.mapP h fun _ _ z => z.same s
theorem keys_cn {m qs : AL} (cn : Cn m qs) (mp : ∀ p ∈ m, 0 < p.2) (k : Str) : k ∈ keys m ↔ k ∈ keys qs := by
  unfold keys
  rw [List.mem_map, List.mem_map]
  exact ⟨fun ⟨p, h, e⟩ => ⟨p, (cn.mem mp p).mpr h, e⟩, fun ⟨p, h, e⟩ => ⟨p, (cn.mem mp p).mp h, e⟩⟩
def KL (H H' : Hp) : Prop := ∀ c o, H c = some o → (∀ xs, o ≠ .lst xs) → H' c = some o
theorem KL.of {H H' : Hp} (s : Same H H') : KL H H' := fun c o e _ => s _ _ e
theorem KL.trans {H H1 H2 : Hp} (h : KL H H1) (h' : KL H1 H2) : KL H H2 := fun c o e n => h' _ _ (h _ _ e n) n
theorem KL.kp {H H' : Hp} {d : Addr} {xs : List V} (k : Kp d H H') (hd : H d = some (.lst xs)) : KL H H' := fun c o e n => k _ _ e fun z => by rw [z, hd] at e; cases e; exact n _ rfl
theorem KL.bx {H H' : Hp} {a : Addr} {b : Nat} (k : Kp a H H') (h : Bx H a b) : KL H H' := by
  obtain ⟨_, _, _, ha, _⟩ := h
  exact KL.kp k ha
theorem PrA.kl {H H' : Hp} {v : V} {p : Str × Int} (h : PrA H v p) (k : KL H H') : PrA H' v p := by
  obtain ⟨t, e, ht⟩ := h
  exact ⟨t, e, k _ _ ht fun _ z => by cases z⟩
theorem OpA.kl {CO : Addr} {H H' : Hp} {o : Addr} {k : Str} {qs : AL} (h : OpA CO H o k qs) (K : KL H H') : OpA CO H' o k qs := by
  obtain ⟨dx, t, ts, h1, h2, h3⟩ := h
  exact ⟨dx, t, ts, K _ _ h1 (fun _ z => by cases z), K _ _ h2 (fun _ z => by cases z), Paired.mapP h3 fun _ _ z => z.kl K⟩
theorem opInit_end {C CO : Addr} {H : Hp} {k : Str} {y : Addr} {m : AL} {R : Addr → Hp → Prop} {E : XK} (Ly : LoA C H y m) (ne : m ≠ []) (g0 : get m k = 0) (q : ∀ (o : Addr) (qs : AL) (H' : Hp), H o = none → OpA CO H' o k qs → Cn m qs → Same H H' → R o H') :
    ∀ x dx, H x = none → H dx = none → dx ≠ x → spOpInit C CO [.ref x, .str k, .ref y] (upd (upd H dx (.own x)) x (.ins CO dx [])) (fun v H2 => v = .non ∧ R x H2) E := by
  intro x dx hx hd n
  have s : Same H (upd (upd H dx (.own x)) x (.ins CO dx [])) := fun c o e => by rw [upd_ne (ne_of_none e hx), upd_ne (ne_of_none e hd)]; exact e
  exact ⟨x, dx, y, k, m, rfl, upd_same, Ly.same s, ne, g0, fun qs H' o c k => ⟨rfl, q x qs H' hx o c fun c o e => k c o (s _ _ e) (ne_of_none e hx)⟩⟩
theorem r_sfld {K : PySem.W.Frag} {to tv : TE} {f : Str} {D : Ends} {σ : L2.St} {H : Hp} (h : tv σ H fun y H1 => to σ H1 fun x H2 => ∃ p C dx fs, x = .ref p ∧ H2 p = some (.ins C dx fs) ∧ Cls K C ∧ NoAttr K C f ∧ fs.length < 1000 ∧ D.nx σ (upd H2 p (.ins C dx (putF f y fs)))) : sFld K to tv f D σ H := h
/-- a row as a tuple of its kind and its pairs -/
def RwV (H : Hp) (v : V) (r : Row) : Prop := PlA H v r.1 r.2
theorem RwV.same {H H' : Hp} {v : V} {r : Row} (h : RwV H v r) (s : Same H H') : RwV H' v r := PlA.same h s
theorem RwV.all {H H' : Hp} {vs : List V} {rs : List Row} (h : Paired (RwV H) vs rs) (s : Same H H') : Paired (RwV H') vs rs := Paired.mapP h fun _ _ z => z.same s
theorem RwV.kl {H H' : Hp} {v : V} {r : Row} (h : RwV H v r) (K : KL H H') : RwV H' v r := by
  obtain ⟨t, u, ts, e, h1, h2, h3⟩ := h
  exact ⟨t, u, ts, e, K _ _ h1 (fun _ z => by cases z), K _ _ h2 (fun _ z => by cases z), Paired.mapP h3 fun _ _ z => z.kl K⟩
theorem OpV.kl {H H' : Hp} {v : V} {r : Row} (h : OpV CO H v r) (K : KL H H') : OpV CO H' v r := let ⟨o, e, h⟩ := h; ⟨o, e, h.kl K⟩
/-- a list just grown -/
theorem KL.lst {H : Hp} {D : Addr} {xs ys : List V} (h : H D = some (.lst xs)) : KL H (upd H D (.lst ys)) := fun c o e n => upd_at e fun z => by rw [z, h] at e; cases e; exact n _ rfl
theorem RwV.key {H : Hp} {t : Addr} {r : Row} (h : RwV H (.ref t) r) : KeyD K H (t, rowD r) := ⟨PlA.dp h, plD0_row r, depth_row r⟩
theorem keys_rows {H : Hp} {rows : List Row} : ∀ {L : DL}, (∀ p ∈ L, ∃ r ∈ rows, p.2 = rowD r ∧ RwV H (.ref p.1) r) → ∃ rs : List Row, Paired (RwV H) (L.map fun p => V.ref p.1) rs ∧ L.map (·.2) = rs.map rowD ∧ ∀ r ∈ rs, r ∈ rows
  | [], _ => ⟨[], .nil, rfl, fun _ h => (nomatch h)⟩
  | p :: L, h => by
    obtain ⟨rs, e1, e2, e3⟩ := keys_rows (L := L) fun q hq => h q (List.mem_cons_of_mem _ hq)
    obtain ⟨r, hr, e, hw⟩ := h p List.mem_cons_self
    refine ⟨r :: rs, .cons hw e1, by rw [List.map_cons, List.map_cons, e2, e], fun q hq => ?_⟩
    rcases List.mem_cons.mp hq with z | z
    · rw [z]; exact hr
    · exact e3 q z
theorem asc_rows {L : DL} {rs : List Row} (e : L.map (·.2) = rs.map rowD) (nd : (L.map (·.2)).Nodup) (as : Asc L) : RAsc rs := by
  have h1 : (L.map (·.2)).Pairwise fun x y => PySem.W.dataLt y x = false := List.pairwise_map.mpr as
  rw [e] at h1 nd
  have h2 := List.pairwise_map.mp h1
  have h3 := List.pairwise_map.mp nd
  exact List.Pairwise.imp (fun {a b} z => data_lt (alike_row a b) (plD0_row a) (plD0_row b) z.2 z.1) (List.Pairwise.and h2 h3)
/-- what is no instance stays -/
def KI (H H' : Hp) : Prop := ∀ c o, H c = some o → (∀ C dx fs, o ≠ .ins C dx fs) → H' c = some o
theorem KI.kp {p C dx : Addr} {fs : List (Str × V)} {H H' : Hp} (k : Kp p H H') (h : H p = some (.ins C dx fs)) : KI H H' := fun c o e n => k _ _ e fun z => by rw [z, h] at e; cases e; exact n _ _ _ rfl
theorem OpV.kp1 {p C dx : Addr} {fs : List (Str × V)} {H H' : Hp} (k : Kp p H H') (h : H p = some (.ins C dx fs)) (lf : fs.length ≠ 2) {v : V} {r : Row} (o : OpV CO H v r) : OpV CO H' v r := by
  obtain ⟨o, e, dxo, t, ts, a1, a2, a3⟩ := o
  have n1 : o ≠ p := fun z => by
    rw [z, h] at a1
    injection a1 with a1
    injection a1 with _ _ a1
    exact lf (by rw [a1]; rfl)
  have n2 : t ≠ p := fun z => by rw [z, h] at a2; cases a2
  exact ⟨o, e, dxo, t, ts, k _ _ a1 n1, k _ _ a2 n2, PrA.kpdAll a3 k h (fun _ z => by cases z)⟩
theorem Edge.mem {a b : List Row} (h : ∀ r, r ∈ a ↔ r ∈ b) (k p : Str) : Edge a k p ↔ Edge b k p := ⟨fun ⟨r, hr, z⟩ => ⟨r, (h r).mp hr, z⟩, fun ⟨r, hr, z⟩ => ⟨r, (h r).mpr hr, z⟩⟩
theorem Ranked.mem {a b : List Row} (h : ∀ r, r ∈ a ↔ r ∈ b) (rk : Ranked b) : Ranked a := let ⟨f, hf⟩ := rk; ⟨f, fun k p e => hf k p ((Edge.mem h k p).mp e)⟩
theorem ite_b {b : Bool} {A B : Prop} (h : b = true → A) (h' : b ≠ true → B) : if b = true then A else B := by
  by_cases c : b = true
  · rw [if_pos c]; exact h c
  · rw [if_neg c]; exact h' c
theorem Edge.sub {a b : List Row} (h : ∀ r ∈ a, r ∈ b) (k p : Str) (e : Edge a k p) : Edge b k p := let ⟨r, hr, z⟩ := e; ⟨r, h r hr, z⟩
theorem Ranked.sub {a b : List Row} (h : ∀ r ∈ a, r ∈ b) (rk : Ranked b) : Ranked a := let ⟨f, hf⟩ := rk; ⟨f, fun k p e => hf k p (Edge.sub h k p e)⟩
theorem kp_free {a p : Addr} {b : Nat} {H H' : Hp} (k : Kp a H H') (bx : Bx H' a b) (h : H' p = none) : H p = none := by
  cases e : H p with
  | none => rfl
  | some o =>
    have := k _ _ e (bx.ne h).symm
    rw [h] at this
    cases this
theorem cn_mem {m qs : AL} (cn : My.Cn m qs) {p : Str × Int} (h : p ∈ qs) : p ∈ m := (List.mem_filter.mp (cn.1.mem_iff.mp h)).1
end


/-! books drawn over names: the part of lists -/
def Sel (ns : List Str) (far : Int) (js : List Nat) (qs : AL) : Prop := qs.map (fun p => some p.1) = js.map (fun j => ns[j]?) ∧ ∀ p ∈ qs, 0 < p.2 ∧ p.2 ≤ far
theorem Sel.nil {ns : List Str} {far : Int} : Sel ns far [] [] := ⟨rfl, fun _ h => (nomatch h)⟩
theorem Sel.push {ns : List Str} {far : Int} {js : List Nat} {qs : AL} {j : Nat} {k : Str} {n : Int} (h : Sel ns far js qs) (e : ns[j]? = some k) (n0 : 0 < n) (n1 : n ≤ far) : Sel ns far (js ++ [j]) (qs ++ [(k, n)]) := by
  refine ⟨by rw [List.map_append, List.map_append, h.1, List.map_singleton, List.map_singleton, e], fun p hp => ?_⟩
  rcases List.mem_append.mp hp with z | z
  · exact h.2 p z
  · rw [List.mem_singleton.mp z]
    exact ⟨n0, n1⟩
theorem Sel.len {ns : List Str} {far : Int} {js : List Nat} {qs : AL} (h : Sel ns far js qs) : qs.length = js.length := by
  have := congrArg List.length h.1
  rwa [List.length_map, List.length_map] at this
def pick (g : Nat → Bool) (k hi : Nat) : List Nat := (List.range hi).filter fun j => decide (k < j) && g j
theorem pick_succ (g : Nat → Bool) (k hi : Nat) : pick g k (hi + 1) = pick g k hi ++ if (decide (k < hi) && g hi) = true then [hi] else [] := by
  unfold pick
  rw [List.range_succ, List.filter_append, List.filter_cons, List.filter_nil]
theorem pick_mem {g : Nat → Bool} {k hi j : Nat} : j ∈ pick g k hi ↔ j < hi ∧ k < j ∧ g j = true := by
  unfold pick
  rw [List.mem_filter, List.mem_range]
  simp
theorem pick_zero (g : Nat → Bool) (k : Nat) : pick g k (k + 1) = [] := List.eq_nil_iff_forall_not_mem.mpr fun j h => by
  have := pick_mem.mp h
  omega
theorem pick_len (g : Nat → Bool) (k : Nat) : ∀ hi, (pick g k hi).length ≤ hi - (k + 1)
  | 0 => by simp [pick]
  | hi + 1 => by
    have := pick_len g k hi
    rw [pick_succ, List.length_append]
    by_cases c : k < hi
    · have : (if (decide (k < hi) && g hi) = true then [hi] else []).length ≤ 1 := by split <;> simp
      omega
    · rw [decide_eq_false c, Bool.false_and, if_neg (by decide)]
      simp
      omega
theorem pick_pw (g : Nat → Bool) (k hi : Nat) : (pick g k hi).Pairwise (· < ·) := List.Pairwise.filter _ List.pairwise_lt_range
theorem ple_lt {p q : Str × Int} (h : ple p q = true) (n : p.1 ≠ q.1) : cds p.1 < cds q.1 := by
  unfold ple at h
  rw [if_neg n] at h
  refine Classical.byContradiction fun c => n (sle_anti h ?_)
  unfold sle
  rw [decide_eq_false c]
  rfl
structure RowS (ns : List Str) (far : Int) (k : Nat) (r : Row) : Prop where
  hd : ns[k]? = some r.1
  ne : r.2 ≠ []
  up : (keys r.2).Pairwise fun a b => cds a < cds b
  ps : ∀ p ∈ r.2, 0 < p.2 ∧ p.2 ≤ far ∧ ∃ j, k < j ∧ ns[j]? = some p.1
theorem keys_nodup {ns : List Str} {far : Int} {js : List Nat} {qs : AL} (nd : ns.Nodup) (s : Sel ns far js qs) (pw : js.Pairwise (· < ·)) : (keys qs).Nodup := by
  have h1 : (js.map fun j => ns[j]?).Pairwise (· ≠ ·) := by
    refine List.pairwise_map.mpr (List.Pairwise.imp_of_mem (fun {i j} hi hj lt e => ?_) pw)
    have v : ∃ k, ns[i]? = some k := by
      have : ns[i]? ∈ qs.map (fun p => some p.1) := by rw [s.1]; exact List.mem_map.mpr ⟨i, hi, rfl⟩
      obtain ⟨p, _, e⟩ := List.mem_map.mp this
      exact ⟨_, e.symm⟩
    obtain ⟨k, hk⟩ := v
    have := (List.getElem?_inj (List.getElem?_eq_some_iff.mp hk).1 nd).mp e
    omega
  rw [← s.1] at h1
  exact List.pairwise_map.mpr (List.Pairwise.imp (fun {a b} (z : some a.1 ≠ some b.1) (e : a.1 = b.1) => z (by rw [e])) (List.pairwise_map.mp h1))
theorem Sel.mem {ns : List Str} {far : Int} {js : List Nat} {qs : AL} (s : Sel ns far js qs) {p : Str × Int} (hp : p ∈ qs) : ∃ j ∈ js, ns[j]? = some p.1 := by
  have : some p.1 ∈ js.map (fun j => ns[j]?) := by rw [← s.1]; exact List.mem_map.mpr ⟨p, hp, rfl⟩
  obtain ⟨j, hj, e⟩ := List.mem_map.mp this
  exact ⟨j, hj, e⟩
theorem RowS.of {ns : List Str} {far : Int} {js : List Nat} {qs qs' : AL} {k : Nat} {own : Str} (nd : ns.Nodup) (hk : ns[k]? = some own) (s : Sel ns far js qs) (hj : ∀ j ∈ js, k < j) (pw : js.Pairwise (· < ·)) (ne : qs ≠ []) (pm : qs'.Perm qs) (so : qs'.Pairwise fun a b => ple a b = true) : RowS ns far k (own, qs') := by
  refine ⟨hk, fun z => ne ?_, ?_, fun p hp => ?_⟩
  · have z : qs' = [] := z
    rw [z] at pm
    exact pm.symm.eq_nil
  · have h1 : (keys qs').Nodup := (pm.map fun p : Str × Int => p.1).nodup_iff.mpr (keys_nodup nd s pw)
    have h2 := List.Pairwise.and so (List.pairwise_map.mp h1)
    exact List.pairwise_map.mpr (List.Pairwise.imp (fun {a b} z => ple_lt z.1 z.2) h2)
  · have hp := pm.mem_iff.mp hp
    obtain ⟨j, h1, h2⟩ := s.mem hp
    exact ⟨(s.2 p hp).1, (s.2 p hp).2, j, hj j h1, h2⟩
theorem idx_at {ns : List Str} (nd : ns.Nodup) {i : Nat} {k : Str} (e : ns[i]? = some k) : ns.idxOf k = i := by
  obtain ⟨lt, e⟩ := List.getElem?_eq_some_iff.mp e
  rw [← e]
  exact nd.idxOf_getElem i lt
/-- no row twice, outer kinds first -/
structure NdO (ns : List Str) (rows : List Row) : Prop where
  nd : rows.Nodup
  od : rows.Pairwise fun a b => ns.idxOf a.1 ≤ ns.idxOf b.1
theorem NdO.nil {ns : List Str} : NdO ns [] := ⟨List.nodup_nil, .nil⟩
theorem NdO.snoc {ns : List Str} {rows : List Row} {r : Row} (h : NdO ns rows) (le : ∀ a ∈ rows, ns.idxOf a.1 ≤ ns.idxOf r.1) (n : (rows ++ [r]).Nodup) : NdO ns (rows ++ [r]) :=
  ⟨n, List.pairwise_append.mpr ⟨h.od, List.pairwise_singleton .., fun a ha b hb => by rw [List.mem_singleton.mp hb]; exact le a ha⟩⟩
/-- a book drawn over the names ns, with numbers of at most far -/
structure Drawn (ns : List Str) (far : Int) (rows : List Row) : Prop where
  rw_ : ∀ r ∈ rows, ∃ k, RowS ns far k r
  nd : rows.Nodup
  es : esum rows ≤ 28
  od : rows.Pairwise fun a b => ns.idxOf a.1 ≤ ns.idxOf b.1
theorem esum_app (a b : List Row) : esum (a ++ b) = esum a + esum b := by
  unfold esum
  rw [List.map_append, List.sum_append]
theorem esum_one (r : Row) : esum [r] = r.2.length := by simp [esum]
theorem esum_mem {rows : List Row} {r : Row} (h : r ∈ rows) : r.2.length ≤ esum rows := by
  obtain ⟨a, b, rfl⟩ := List.append_of_mem h
  rw [esum_app, show r :: b = [r] ++ b from rfl, esum_app, esum_one]
  omega
theorem esum_len {rows : List Row} (h : ∀ r ∈ rows, r.2 ≠ []) : rows.length ≤ esum rows := by
  induction rows with
  | nil => exact Nat.zero_le _
  | cons r rs ih =>
    have h1 := ih fun x hx => h x (List.mem_cons_of_mem _ hx)
    have h2 : 0 < r.2.length := List.length_pos_iff.mpr (h r List.mem_cons_self)
    rw [show r :: rs = [r] ++ rs from rfl, esum_app, esum_one, List.length_append, List.length_singleton]
    omega
theorem Drawn.ln {ns : List Str} {far : Int} {rows : List Row} (h : Drawn ns far rows) : rows.length ≤ 28 := Nat.le_trans (esum_len fun r hr => let ⟨_, z⟩ := h.rw_ r hr; z.ne) h.es
theorem Drawn.ok {ns : List Str} {far : Int} {rows : List Row} (h : Drawn ns far rows) (nd : ns.Nodup) (ks : ∀ k ∈ ns, KindS k) : ∀ r ∈ rows, RowOk r := fun r hr => by
  obtain ⟨k, z⟩ := h.rw_ r hr
  refine ⟨ks _ (List.mem_of_getElem? z.hd), z.ne, fun p hp => ?_, z.up, fun hm => ?_, by have := esum_mem hr; have := h.es; omega⟩
  · obtain ⟨h1, _, j, _, h2⟩ := z.ps p hp
    exact ⟨h1, ks _ (List.mem_of_getElem? h2)⟩
  · obtain ⟨p, hp, e⟩ := List.mem_map.mp hm
    obtain ⟨_, _, j, h1, h2⟩ := z.ps p hp
    rw [e, ← z.hd] at h2
    have := (List.getElem?_inj (List.getElem?_eq_some_iff.mp (h2.trans z.hd)).1 nd).mp h2
    omega
theorem Drawn.rk {ns : List Str} {far : Int} {rows : List Row} (h : Drawn ns far rows) (nd : ns.Nodup) : Ranked rows := by
  refine ⟨fun k => ns.idxOf k, fun k p e => ?_⟩
  obtain ⟨r, hr, rfl, hp⟩ := e
  obtain ⟨i, z⟩ := h.rw_ r hr
  obtain ⟨q, hq, rfl⟩ := List.mem_map.mp hp
  obtain ⟨_, _, j, lt, hj⟩ := z.ps q hq
  have ix : ∀ {i : Nat} {k : Str}, ns[i]? = some k → ns.idxOf k = i := fun {i k} e => by
    obtain ⟨lt, e⟩ := List.getElem?_eq_some_iff.mp e
    rw [← e]
    exact nd.idxOf_getElem i lt
  show ns.idxOf r.1 < ns.idxOf q.1
  rw [ix z.hd, ix hj]
  exact lt
theorem esum_cons (r : Row) (rs : List Row) : esum (r :: rs) = r.2.length + esum rs := by
  unfold esum
  rw [List.map_cons, List.sum_cons]
theorem esum_sub {a b : List Row} (s : a.Sublist b) : esum a ≤ esum b := by
  induction s with
  | slnil => exact Nat.le_refl _
  | cons r s ih => rw [esum_cons]; omega
  | cons_cons r s ih => rw [esum_cons, esum_cons]; omega
theorem Drawn.sub {ns : List Str} {far : Int} {a b : List Row} (h : Drawn ns far b) (s : a.Sublist b) : Drawn ns far a := by
  refine ⟨fun r hr => h.rw_ r (s.subset hr), s.nodup h.nd, Nat.le_trans (esum_sub s) h.es, h.od.sublist s⟩
def tri (n : Nat) : Nat → Nat
  | 0 => 0
  | k + 1 => tri n k + (n - (k + 1))
theorem tri8 : ∀ n, n ≤ 8 → ∀ k, k ≤ n → tri n k ≤ 28 := by decide
/-! the part of the heap -/
theorem rw_push {H : Hp} {D : Addr} {ts : List V} {rows : List Row} {v : V} {r : Row} (hD : H D = some (.lst ts)) (h : Paired (RwV H) ts rows) (hv : RwV H v r) : Paired (RwV (upd H D (.lst (ts ++ [v])))) (ts ++ [v]) (rows ++ [r]) :=
  Paired.app (Paired.mapP h fun _ _ z => RwV.kl z (KL.lst hD)) (.cons (RwV.kl hv (KL.lst hD)) .nil)
theorem pr_push {H : Hp} {D : Addr} {ts : List V} {qs : AL} {v : V} {r : Str × Int} (hD : H D = some (.lst ts)) (h : Paired (PrA H) ts qs) (hv : PrA H v r) : Paired (PrA (upd H D (.lst (ts ++ [v])))) (ts ++ [v]) (qs ++ [r]) :=
  Paired.app (Paired.mapP h fun _ _ z => z.kl (KL.lst hD)) (.cons (hv.kl (KL.lst hD)) .nil)
section
theorem r_neNil {K : PySem.W.Frag} {H : Hp} {Q : VK} {D p : Addr} {xs : List V} {qs : AL} (hD : H D = some (.lst xs)) (hx : Paired (PrA H) xs qs) (ks : ∀ p ∈ qs, KindS p.1) (hp : H p = some (.lst [])) (q : Q (.bl (!decide (qs = []))) H) : rNeD K (.ref D) (.ref p) H Q := by
  refine ⟨.list (qs.map pd1), .list [], .lst (SqL.of hD) (dp_all hx), .lst (SqL.of hp) .nil, ?_, by decide, ?_⟩
  · unfold SeqAt.shaped
    have h1 : (PyData.list (qs.map pd1)).canLay0 = true := can_pd ks
    rw [h1, Bool.true_and]
    refine decide_eq_true ?_
    show PyData.depthAll (qs.map pd1) + 1 ≤ 64
    have := depth_pd qs
    omega
  · have e : PyData.eqv (.list (qs.map pd1)) (.list []) = decide (qs = []) := by
      cases qs with
      | nil => rfl
      | cons a r => rfl
    rw [e]
    exact q
def Rng2 (R : It → Hp → Prop) (vs : List V) (H : Hp) : Prop := ∃ i j : Int, vs = [.int i, .int j] ∧ (-(2 ^ 62) ≤ i ∧ i < 2 ^ 62 ∧ -(2 ^ 62) ≤ j ∧ j < 2 ^ 62) ∧ R (Itr i (j - i).toNat) H
theorem r_iRng2 {ta : TA} {σ : L2.St} {H : Hp} {R : It → Hp → Prop} (h : ta σ H (Rng2 R)) : iRng2 ta σ H R := h
variable {P : Program} {w : World} {K : PySem.W.Frag} {mg : Str → Option Value} {base : Heap}
abbrev sTree : Stmt := top 34
theorem scTree : FnScope ["_law_box_here", "_law_names_here", "_law_far", "_law_up_so", "_law_rows_so", "_law_k", "_law_own", "_law_inner", "_law_j"] ["_law_box_here", "_law_names_here", "_law_far"] (defScope sTree) := ⟨rfl, rfl, rfl, by decide +kernel, rfl, by decide +kernel, by decide +kernel⟩
def spDraw (g : Nat → Nat) : Sp := fun vs H Q _ => ∃ (a l : Addr) (ns : List Str) (far : Int) (b : Nat), vs = [.ref a, .ref l, .int far] ∧ 0 < far ∧ far < 2 ^ 100 ∧ Bx H a (b + 100) ∧ H l = some (.lst (ns.map V.str)) ∧ l ≠ a ∧ ns.Nodup ∧ (∀ k ∈ ns, KindS k) ∧ ns.length ≤ g 8 ∧
  ∀ (p : Addr) (ts : List V) (rows : List Row) (H' : Hp), H p = none → H' p = some (.lst ts) → Paired (RwV H') ts rows → Drawn ns far rows → Bx H' a b → Kp a H H' → Q (.ref p) H'
theorem ok_tree {f : Addr} {fd : FuncData} (F : Fun K "_law_tree" "_law_tree" sTree f fd) (T : Txt K mg) (Ct : Cal P w K mg base CX0 1 "_law_take" ["_law_box_here", "_law_below"] spTake) (Cr : Cal P w K mg base CX0 1 "_law_rising" ["_law_rows_so"] (spRising K)) : FnOk P w K mg base CX0 2 f fd ["_law_box_here", "_law_names_here", "_law_far"] (spDraw id) := by
  refine F.ok scTree (fun vs H Q E h => ?_) (fun cdv A outer s H vs Q E hr h => ?_)
  · obtain ⟨a, l, ns, far, b, rfl, _⟩ := h
    rfl
  · obtain ⟨a, l, ns, far, b, rfl, f0, f1, hb, hl, nla, nd, ks, ln, q⟩ := h
    have ln : ns.length ≤ 8 := ln
    refine ⟨_, (pss_cons (ps_asg (pe_tup (pa_cons (pe_lc (own := [("_law_k", 5)]) (g := gName 5) (tt := tYes) rfl scTree.nd (pi_range1 rfl T.range (pa_cons (pe_callB c_lenL (by rfl) T.len (by decide +kernel) (pa_cons (pv 1) pa_nil)) pa_nil)) (blkOk_by (N := ["_law_box_here", "_law_names_here", "_law_far", "_law_up_so", "_law_rows_so", "_law_k", "_law_own", "_law_inner", "_law_j"]) (sc := defScope sTree) (by decide +kernel)) (fun _ _ _ _ _ => (pg_name (i := 5) scTree.nd rfl (Or.inl rfl))) (fun _ _ _ _ _ => pts_nil) (fun _ _ _ _ _ => (pe_op op_sub (pe_cal Ct (hr.mono (by decide)) pass0 (pa_cons (pv 0) (pa_cons (pe_op op_add (pv 5) pe_int) pa_nil))) pe_int))) (pa_cons (pe_lst pa_nil) pa_nil))) (pg_tup rfl (pgs_cons (pg_name (i := 3) scTree.nd rfl (Or.inr rfl)) (pgs_cons (pg_name (i := 4) scTree.nd rfl (Or.inl rfl)) pgs_nil))))
  (pss_cons (ps_for PassesOwn.never rfl (pi_enum (by rfl) T.enumerate (pa_cons (pv 1) pa_nil)) (pg_tup rfl (pgs_cons (pg_name (i := 5) scTree.nd rfl (Or.inr rfl)) (pgs_cons (pg_name (i := 6) scTree.nd rfl (Or.inl rfl)) pgs_nil)))
  (pss_cons (ps_setLc (i := 7) (own := [("_law_j", 8)]) (g := gName 8) rfl scTree.nd rfl rfl (sw_true rfl rfl rfl (by decide +kernel)) (pi_range2 rfl T.range (pa_cons (pe_op op_add (pv 5) pe_int) (pa_cons (pe_callB c_lenL (by rfl) T.len (by decide +kernel) (pa_cons (pv 1) pa_nil)) pa_nil))) (blkOk_by (N := ["_law_box_here", "_law_names_here", "_law_far", "_law_up_so", "_law_rows_so", "_law_k", "_law_own", "_law_inner", "_law_j"]) (sc := defScope sTree) (by decide +kernel)) (fun _ _ _ _ _ => (pg_name (i := 8) scTree.nd rfl (Or.inl rfl))) (fun _ _ _ _ _ => (pts_one (pt_cmpR op_eq (pe_ix (ixK (r := rIxL) K ix_list) (pv 3) (pv 8) (fun _ _ => rfl)) (pv 5) (nomark _)))) (fun _ _ _ _ _ => (pe_tup (pa_cons (pe_ix (ixK (r := rIxL) K ix_list) (pv 1) (pv 8) (fun _ _ => rfl)) (pa_cons (pe_op op_add pe_int (pe_cal Ct (hr.mono (by decide)) pass0 (pa_cons (pv 0) (pa_cons (pv 2) pa_nil)))) pa_nil)))))
  (pss_one (ps_if (pt_cmpR (op_neD (hu64 hr)) (pv 7) (pe_lst pa_nil) (nomark _))
  (pss_one (ps_expr (pe_bm PySem.F.plainAttrs_list PySem.F.slot_list_append PySem.F.type_list_append mt_append (pv 4) (pa_cons (pe_tup (pa_cons (pv 6) (pa_cons (pe_callTy c_tupL (by rfl) T.tuple (by decide +kernel) (pa_cons (pe_cal Cr (hr.mono (by decide)) pass0 (pa_cons (pv 7) pa_nil)) pa_nil)) pa_nil))) pa_nil))))
  pss_nil))))
  (pss_one (ps_ret (pv 4))))), ?_⟩
    have lm : (ns.map V.str).length = ns.length := List.length_map _
    walk_at "in"
    walk_at "go"
    rw [lm]
    intro D hD
    have nDa : a ≠ D := hb.ne hD
    refine lc_it (walk_range (n := ns.length)) (fun i H' => ∃ us : List Int, H' D = some (.lst (us.map V.int)) ∧ us.length = i ∧ Bx H' a (b + 80 + (ns.length - i)) ∧ Kp a H H') ?_ (fun _ _ _ _ => trivial) ?_ ?_
    · exact ⟨[], upd_same, rfl, (hb.mono (by omega)).upd nDa, fun c o e n => by walk_at "hp"⟩
    · rintro i x H1 _ hi ⟨us, hD1, lu, bx1, kp1⟩ ⟨rfl, rfl⟩
      refine r_gname ⟨rfl, ?_⟩
      refine r_yes (iteT ?_)
      walk_at "go"
      refine ⟨a, b + 80 + (ns.length - (i + 1)), _, rfl, by rw [show b + 80 + (ns.length - (i + 1)) + 1 = b + 80 + (ns.length - i) by omega]; exact bx1, by omega, by omega, fun d H2 d0 d1 bx2 kp2 => ?_⟩
      walk_at "go"
      refine ⟨us.map V.int, kp2 _ _ hD1 nDa.symm, szl (by rw [List.length_map]; omega), us ++ [d - 1], ?_, by rw [List.length_append, lu]; rfl, bx2.upd nDa, fun c o e n => ?_⟩
      · rw [List.map_append]; exact upd_same
      · rw [upd_ne (ne_of_none e hD)]
        exact kp2 _ _ (kp1 _ _ e n) n
    · rintro H1 ⟨us, hD1, lu, bx1, kp1⟩
      walk_at "go"
      rename_i p hp t1 ht1
      have npa : a ≠ p := bx1.ne hp
      have nta : a ≠ t1 := by walk_at "ne"
      have npt : p ≠ t1 := by walk_at "ne"
      have npD : D ≠ p := ne_of_none hD1 hp
      have hp0 : H p = none := by
        cases e : H p with
        | none => rfl
        | some o => rw [kp1 _ _ e (fun z => npa z.symm)] at hp; cases hp
      have hD2 : upd (upd H1 p (.lst [])) t1 (.tup [V.ref D, V.ref p]) D = some (.lst (us.map V.int)) := by walk_at "hp"
      have hp2 : upd (upd H1 p (.lst [])) t1 (.tup [V.ref D, V.ref p]) p = some (.lst []) := by walk_at "hp"
      have bx2 : Bx (upd (upd H1 p (.lst [])) t1 (.tup [V.ref D, V.ref p])) a (b + 80) := ((bx1.mono (by omega)).upd npa).upd nta
      have kp2 : Kp a H (upd (upd H1 p (.lst [])) t1 (.tup [V.ref D, V.ref p])) := fun c o e n => by walk_at "hp"
      generalize upd (upd H1 p (.lst [])) t1 (.tup [V.ref D, V.ref p]) = H2 at hD2 hp2 bx2 kp2 ⊢
      clear hp hD1 kp1 bx1 ht1
      refine ⟨_, _, rfl, SqL.of (kp2 _ _ hl nla), ?_⟩
      refine for_it (walk_enum (xs := ns.map V.str)) (fun i σ H' => ∃ (ts : List V) (rows : List Row) (x5 x6 x7 x8 : Option V), σ = [some (.ref a), some (.ref l), some (.int far), some (.ref D), some (.ref p), x5, x6, x7, x8] ∧ H' D = some (.lst (us.map V.int)) ∧ H' p = some (.lst ts) ∧ Paired (RwV H') ts rows ∧ (∀ r ∈ rows, ∃ k, k < i ∧ RowS ns far k r) ∧ NdO ns rows ∧ esum rows ≤ tri ns.length i ∧ Bx H' a (b + (ns.length - i) * 8) ∧ Kp a H H') ?_ ?_ ?_ ?_
      · exact ⟨[], [], _, _, _, _, rfl, hD2, hp2, .nil, fun r h => (nomatch h), NdO.nil, Nat.zero_le _, bx2.mono (by omega), kp2⟩
      · rintro i σ H3 _ ⟨_, _, _, _, _, _, _, _, _, _, _, _, _, _, kp3⟩
        exact SqL.of (kp3 _ _ hl nla)
      · rintro i x σ H3 H4 hi ⟨ts, rows, x5, x6, x7, x8, rfl, hD3, hp3, hts, hrw, hnd, hes, bx3, kp3⟩ ⟨t, u, v, rfl, ht, rfl, hu, hv⟩
        obtain rfl : V.int (i : Nat) = u := Option.some.inj hu
        obtain ⟨own, rfl, hown⟩ := map_some hv
        have nta : a ≠ t := bx3.ne ht
        have s4 : Same H3 (upd H3 t (.tup [V.int (i : Nat), V.str own])) := fun c o e => upd_at e (ne_of_none e ht)
        have ht4 : upd H3 t (.tup [V.int (i : Nat), V.str own]) t = some (.tup [V.int (i : Nat), V.str own]) := upd_same
        generalize upd H3 t (.tup [V.int (i : Nat), V.str own]) = H4 at s4 ht4 ⊢
        have hD4 := s4 _ _ hD3
        have hp4 := s4 _ _ hp3
        have hts4 := RwV.all hts s4
        have bx4 := bx3.same s4
        have kp4 : Kp a H H4 := fun c o e n => s4 _ _ (kp3 _ _ e n)
        have hl4 := kp4 _ _ hl nla
        clear hD3 hp3 hts bx3 kp3 s4 ht
        rw [lm] at hi
        walk_at "go"
        have e2 : (((ns.map V.str).length : Nat) - ((i : Nat) + 1) : Int).toNat = ns.length - (i + 1) := by rw [lm]; omega
        refine r_iRng2 ?_
        walk_at "go"
        refine ⟨_, _, rfl, by omega, ?_⟩
        rw [e2]
        intro D2 hD2
        have nD2a : a ≠ D2 := bx4.ne hD2
        refine lc_it (walk_range (lo := (i : Nat) + 1) (n := ns.length - (i + 1))) (fun m H' => ∃ xs qs, H' D2 = some (.lst xs) ∧ Paired (PrA H') xs qs ∧ Sel ns far (pick (fun j => decide (us[j]? = some (i : Int))) i (i + 1 + m)) qs ∧ Bx H' a (b + (ns.length - (i + 1)) * 8 + (8 - m)) ∧ Kp a H4 H') ?_ (fun _ _ _ _ => trivial) ?_ ?_
        · refine ⟨[], [], upd_same, .nil, ?_, (bx4.mono (by omega)).upd nD2a, fun c o e n => upd_at e (ne_of_none e hD2)⟩
          rw [Nat.add_zero, pick_zero]
          exact Sel.nil
        · rintro m x _ H5 hm ⟨xs, qs, hD5, hxs, sel, bx5, kp5⟩ ⟨rfl, rfl⟩
          refine r_gname ⟨rfl, ?_⟩
          have hj : i + 1 + m < us.length := by omega
          have hj2 : i + 1 + m < ns.length := by omega
          have lq := Paired.len hxs
          have lsel := sel.len
          have lpk := pick_len (fun j => decide (us[j]? = some (i : Int))) i (i + 1 + m)
          have ej : ((i : Nat) : Int) + 1 + (m : Nat) = ((i + 1 + m : Nat) : Int) := by omega
          dsimp only
          rw [ej]
          have hD6 := kp5 _ _ hD4 nDa.symm
          have hl6 := kp5 _ _ hl4 nla
          walk_at "go"
          refine r_ixL (SqL.of hD6) (atI_nat (List.getElem?_eq_getElem (by rw [List.length_map]; exact hj))) ?_
          rw [List.getElem_map]
          have pk := pick_succ (fun j => decide (us[j]? = some (i : Int))) i (i + 1 + m)
          rw [decide_eq_true (show i < i + 1 + m by omega), Bool.true_and, List.getElem?_eq_getElem hj] at pk
          walk_at "go"
          refine ite_d (fun e => ?_) fun e => ?_
          · have e : us[i + 1 + m] = (i : Int) := by first | exact e | (injection e)
            rw [e, decide_eq_true rfl, if_pos rfl] at pk
            walk_at "go"
            refine r_ixL (SqL.of hl6) (atI_nat (List.getElem?_eq_getElem (by rw [List.length_map]; exact hj2))) ?_
            rw [List.getElem_map]
            walk_at "go"
            refine ⟨a, b + (ns.length - (i + 1)) * 8 + (8 - (m + 1)), far, rfl, by rw [show b + (ns.length - (i + 1)) * 8 + (8 - (m + 1)) + 1 = b + (ns.length - (i + 1)) * 8 + (8 - m) by omega]; exact bx5, f0, f1, fun d H7 d0 d1 bx7 kp7 => ?_⟩
            walk_at "go"
            rename_i pt hpt
            have hD7 := kp7 _ _ hD5 nD2a.symm
            have hxs7 : Paired (PrA H7) xs qs := Paired.mapP hxs fun _ _ z => z.kl (KL.bx kp7 bx5)
            have s8 : Same H7 (upd H7 pt (.tup [V.str ns[i + 1 + m], V.int (1 + d)])) := fun c o e => upd_at e (ne_of_none e hpt)
            have hpt8 : upd H7 pt (.tup [V.str ns[i + 1 + m], V.int (1 + d)]) pt = some (.tup [V.str ns[i + 1 + m], V.int (1 + d)]) := upd_same
            generalize upd H7 pt (.tup [V.str ns[i + 1 + m], V.int (1 + d)]) = H8 at s8 hpt8 ⊢
            refine ⟨xs, s8 _ _ hD7, szl (by omega), xs ++ [.ref pt], qs ++ [(ns[i + 1 + m], 1 + d)], upd_same, pr_push (s8 _ _ hD7) (PrA.all hxs7 s8) ⟨pt, rfl, hpt8⟩, ?_, (bx7.same s8).upd nD2a, fun c o e n => ?_⟩
            · rw [show i + 1 + (m + 1) = i + 1 + m + 1 by omega, pk]
              exact sel.push (List.getElem?_eq_getElem hj2) (by omega) (by omega)
            · exact upd_at (s8 _ _ (kp7 _ _ (kp5 _ _ e n) n)) (ne_of_none e hD2)
          · have e : ¬ us[i + 1 + m] = (i : Int) := by first | exact e | exact fun z => e (by rw [z])
            rw [decide_eq_false (fun z => e (Option.some.inj z)), if_neg (by decide), List.append_nil] at pk
            refine ⟨xs, qs, hD5, hxs, ?_, bx5.mono (by omega), kp5⟩
            rw [show i + 1 + (m + 1) = i + 1 + m + 1 by omega, pk]
            exact sel
        · rintro H5 ⟨xs, qs, hD5, hxs, sel, bx5, kp5⟩
          have e3 : i + 1 + (ns.length - (i + 1)) = ns.length := by omega
          rw [e3] at sel
          have ksq : ∀ p ∈ qs, KindS p.1 := fun p hp => let ⟨_, _, e⟩ := sel.mem hp; ks _ (List.mem_of_getElem? e)
          walk_at "go"
          rename_i p5 hp5
          have s6 : Same H5 (upd H5 p5 (.lst [])) := fun c o e => upd_at e (ne_of_none e hp5)
          refine r_neNil (s6 _ _ hD5) (PrA.all hxs s6) ksq upd_same ?_
          generalize upd H5 p5 (.lst []) = H6 at s6 ⊢
          have hD6 := s6 _ _ hD5
          have hxs6 := PrA.all hxs s6
          have bx6 := bx5.same s6
          have kp6 : Kp a H4 H6 := fun c o e n => s6 _ _ (kp5 _ _ e n)
          have hD7 := kp6 _ _ hD4 nDa.symm
          have hp7 := kp6 _ _ hp4 npa.symm
          have hts7 : Paired (RwV H6) ts rows := Paired.mapP hts4 fun _ _ z => RwV.kl z (KL.bx kp6 bx4)
          have kp7 : Kp a H H6 := fun c o e n => kp6 _ _ (kp4 _ _ e n) n
          have ltri : tri ns.length (i + 1) = tri ns.length i + (ns.length - (i + 1)) := rfl
          clear hD5 hxs bx5 kp5 s6 hp5
          refine ⟨_, rfl, ite_b (fun e => ?_) fun e => ?_⟩
          · have e : qs ≠ [] := by simpa using e
            walk_at "go"
            have lqs := sel.len
            have lxs := Paired.len hxs6
            have lpk := pick_len (fun j => decide (us[j]? = some (i : Int))) i ns.length
            refine ⟨D2, xs, qs, rfl, SqL.of hD6, hxs6, by omega, fun pr ys qs2 H7 hpr hpr7 hys pm so s7 => ?_⟩
            walk_at "go"
            rename_i u1 hu1 u2 hu2
            have lts := Paired.len hts7
            have hrl : rows.length ≤ esum rows := esum_len fun r hr => let ⟨_, _, z⟩ := hrw r hr; z.ne
            have ltr := tri8 _ ln i (by omega)
            have s8 : Same H7 (upd (upd H7 u1 (.tup ys)) u2 (.tup [V.str own, V.ref u1])) := fun c o e => upd_at (upd_at e (ne_of_none e hu1)) (ne_of_none (upd_at e (ne_of_none e hu1)) hu2)
            have n12 : u1 ≠ u2 := fun z => by rw [← z, upd_same] at hu2; cases hu2
            have g1 : upd (upd H7 u1 (.tup ys)) u2 (.tup [V.str own, V.ref u1]) u1 = some (.tup ys) := upd_at upd_same n12
            have g2 : upd (upd H7 u1 (.tup ys)) u2 (.tup [V.str own, V.ref u1]) u2 = some (.tup [V.str own, V.ref u1]) := upd_same
            generalize upd (upd H7 u1 (.tup ys)) u2 (.tup [V.str own, V.ref u1]) = H8 at s8 g1 g2 ⊢
            have s68 : Same H6 H8 := fun c o e => s8 _ _ (s7 _ _ e)
            have hp8 := s68 _ _ hp7
            have rv : RwV H8 (.ref u2) (own, qs2) := ⟨u2, u1, ys, rfl, g2, g1, PrA.all hys s8⟩
            have rs : RowS ns far i (own, qs2) := RowS.of nd hown sel (fun j hj => (pick_mem.mp hj).2.1) (pick_pw _ _ _) e pm so
            have lq2 := pm.length_eq
            refine ⟨p, ts, _, rfl, rfl, hp8, szl (by omega), ?_⟩
            refine ⟨ts ++ [.ref u2], rows ++ [(own, qs2)], _, _, _, _, rfl, upd_at (s68 _ _ hD7) npD, upd_same, rw_push hp8 (RwV.all hts7 s68) rv, fun r hr => ?_, ?_, ?_, ((bx6.mono (by omega)).same s68).upd npa, fun c o e n => upd_at (s68 _ _ (kp7 _ _ e n)) (ne_of_none e hp0)⟩
            · rcases List.mem_append.mp hr with z | z
              · obtain ⟨k, h1, h2⟩ := hrw r z
                exact ⟨k, by omega, h2⟩
              · rw [List.mem_singleton.mp z]
                exact ⟨i, by omega, rs⟩
            · refine NdO.snoc hnd (fun r hr => by obtain ⟨k, h1, h2⟩ := hrw r hr; rw [idx_at nd h2.hd, idx_at nd hown]; omega) (List.nodup_append.mpr ⟨hnd.1, by simp, fun r hr r2 hr2 e3 => ?_⟩)
              rw [List.mem_singleton.mp hr2] at e3
              obtain ⟨k, h1, h2⟩ := hrw r hr
              have e4 := h2.hd
              rw [e3] at e4
              have := (List.getElem?_inj (List.getElem?_eq_some_iff.mp e4).1 nd).mp (e4.trans hown.symm)
              omega
            · rw [esum_app, esum_one]
              show _ + qs2.length ≤ _
              omega
          · refine ⟨ts, rows, _, _, _, _, rfl, hD7, hp7, hts7, fun r hr => let ⟨k, h1, h2⟩ := hrw r hr; ⟨k, by omega, h2⟩, hnd, by omega, bx6.mono (by omega), kp7⟩
      · rintro σ H3 ⟨ts, rows, x5, x6, x7, x8, rfl, hD3, hp3, hts, hrw, hnd, hes, bx3, kp3⟩
        walk_at "go"
        refine q p ts rows H3 hp0 hp3 hts ⟨fun r hr => let ⟨k, _, z⟩ := hrw r hr; ⟨k, z⟩, hnd.1, Nat.le_trans hes ?_, hnd.2⟩ (bx3.mono (by omega)) kp3
        rw [lm]
        exact tri8 _ ln _ (Nat.le_refl _)
end


/-! rows with numbers -/
abbrev PL := List (Row × Int)
def wsum (xs : PL) (f : Row → Int) : Int := (xs.map fun x => x.2 * f x.1).sum
theorem wsum_cons (x : Row × Int) (xs : PL) (f : Row → Int) : wsum (x :: xs) f = x.2 * f x.1 + wsum xs f := by
  unfold wsum
  rw [List.map_cons, List.sum_cons]
theorem wsum_app (a b : PL) (f : Row → Int) : wsum (a ++ b) f = wsum a f + wsum b f := by
  unfold wsum
  rw [List.map_append, List.sum_append]
theorem wsum_perm {a b : PL} (h : a.Perm b) (f : Row → Int) : wsum a f = wsum b f := by
  induction h with
  | nil => rfl
  | cons x _ ih => rw [wsum_cons, wsum_cons, ih]
  | swap x y l => rw [wsum_cons, wsum_cons, wsum_cons, wsum_cons]; omega
  | trans _ _ h1 h2 => rw [h1, h2]
theorem wsum_take {xs : PL} {i : Nat} {x : Row × Int} (h : xs[i]? = some x) (f : Row → Int) : wsum (xs.take (i + 1)) f = wsum (xs.take i) f + x.2 * f x.1 := by
  rw [List.take_add_one, h, wsum_app]
  show _ + wsum [x] f = _
  rw [wsum_cons]
  show _ + (_ + 0) = _
  rw [Int.add_zero]
theorem wsum_mul (n : Int) (m : PL) (f : Row → Int) : wsum (m.map fun x => (x.1, x.2 * n)) f = n * wsum m f := by
  induction m with
  | nil => exact (Int.mul_zero n).symm
  | cons x m ih =>
    rw [List.map_cons, wsum_cons, wsum_cons, ih, Int.mul_add, Int.mul_comm x.2 n, Int.mul_assoc]
theorem wsum_sub (m : PL) (f g : Row → Int) : wsum m (fun r => f r - g r) = wsum m f - wsum m g := by
  induction m with
  | nil => rfl
  | cons x m ih => rw [wsum_cons, wsum_cons, wsum_cons, ih, Int.mul_sub]; omega
def pkeys (m : PL) : List Row := m.map (·.1)
def plook (m : PL) (r : Row) : Option Int := (m.find? fun x => decide (x.1 = r)).map (·.2)
def pget (m : PL) (r : Row) : Int := (plook m r).getD 0
def pput (m : PL) (r : Row) (n : Int) : PL := if (plook m r).isSome = true then m.map (fun x => if x.1 = r then (x.1, n) else x) else m ++ [(r, n)]
theorem plook_cons (x : Row × Int) (m : PL) (r : Row) : plook (x :: m) r = if x.1 = r then some x.2 else plook m r := by
  unfold plook
  rw [List.find?_cons]
  by_cases e : x.1 = r
  · rw [decide_eq_true e, if_pos e]; rfl
  · rw [decide_eq_false e, if_neg e]
theorem plook_none {m : PL} {r : Row} : plook m r = none ↔ r ∉ pkeys m := by
  induction m with
  | nil => exact ⟨fun _ h => (nomatch h), fun _ => rfl⟩
  | cons x m ih =>
    rw [plook_cons]
    show _ ↔ r ∉ x.1 :: pkeys m
    by_cases e : x.1 = r
    · rw [if_pos e, e]
      exact ⟨fun h => (by cases h), fun h => absurd List.mem_cons_self h⟩
    · rw [if_neg e, ih, List.mem_cons, not_or]
      exact ⟨fun h => ⟨fun z => e z.symm, h⟩, fun h => h.2⟩
theorem plook_mem {m : PL} (nd : (pkeys m).Nodup) {r : Row} {n : Int} : plook m r = some n ↔ (r, n) ∈ m := by
  induction m with
  | nil => exact ⟨fun h => (by cases h), fun h => (nomatch h)⟩
  | cons x m ih =>
    obtain ⟨h1, h2⟩ := List.nodup_cons.mp (show (x.1 :: pkeys m).Nodup from nd)
    rw [plook_cons, List.mem_cons]
    by_cases e : x.1 = r
    · rw [if_pos e]
      refine ⟨fun h => .inl (Prod.ext e.symm (Option.some.inj h).symm), fun h => h.elim (fun z => by rw [← z]) fun z => absurd ?_ h1⟩
      rw [e]
      exact List.mem_map.mpr ⟨_, z, rfl⟩
    · rw [if_neg e, ih h2]
      exact ⟨.inr, fun h => h.resolve_left fun z => e (by rw [← z])⟩
theorem pget_mem {m : PL} (nd : (pkeys m).Nodup) {x : Row × Int} (h : x ∈ m) : pget m x.1 = x.2 := by
  unfold pget
  rw [(plook_mem nd).mpr (show (x.1, x.2) ∈ m from h)]
  rfl
theorem pput_map {m : PL} {r : Row} {n : Int} (h : r ∉ pkeys m) : m.map (fun x => if x.1 = r then (x.1, n) else x) = m := by
  refine (List.map_congr_left fun x hx => ?_).trans (List.map_id m)
  rw [if_neg fun e => h (List.mem_map.mpr ⟨x, hx, e⟩)]
  rfl
theorem pkeys_put (m : PL) (r : Row) (n : Int) : pkeys (pput m r n) = if r ∈ pkeys m then pkeys m else pkeys m ++ [r] := by
  unfold pput
  by_cases h : r ∈ pkeys m
  · have e : (plook m r).isSome = true := by
      cases z : plook m r with
      | none => exact absurd h (plook_none.mp z)
      | some _ => rfl
    rw [if_pos e, if_pos h]
    unfold pkeys
    rw [List.map_map]
    refine List.map_congr_left fun x _ => ?_
    show (if x.1 = r then (x.1, n) else x).1 = x.1
    split <;> rfl
  · rw [plook_none.mpr h, if_neg h]
    show pkeys (m ++ [(r, n)]) = _
    unfold pkeys
    rw [List.map_append]
    rfl
theorem pput_nodup {m : PL} (r : Row) (n : Int) (h : (pkeys m).Nodup) : (pkeys (pput m r n)).Nodup := by
  rw [pkeys_put]
  split
  · exact h
  · rename_i c
    exact List.nodup_append.mpr ⟨h, by simp, fun a ha b hb e => c (by rw [← List.mem_singleton.mp hb, ← e]; exact ha)⟩
theorem pput_pos {m : PL} {r : Row} {n : Int} (h : ∀ x ∈ m, 0 < x.2) (hn : 0 < n) : ∀ x ∈ pput m r n, 0 < x.2 := fun x hx => by
  unfold pput at hx
  split at hx
  · obtain ⟨y, hy, e⟩ := List.mem_map.mp hx
    rw [← e]
    split
    · exact hn
    · exact h y hy
  · rcases List.mem_append.mp hx with z | z
    · exact h x z
    · rw [List.mem_singleton.mp z]; exact hn
theorem wsum_put {m : PL} (nd : (pkeys m).Nodup) (r : Row) (n : Int) (f : Row → Int) : wsum (pput m r n) f = wsum m f + (n - pget m r) * f r := by
  unfold pput pget
  cases z : plook m r with
  | none =>
    show wsum (m ++ [(r, n)]) f = _ + (n - 0) * _
    rw [wsum_app, wsum_cons]
    show _ + (n * f r + 0) = _
    rw [Int.add_zero, Int.sub_zero]
  | some v =>
    show wsum (m.map _) f = _ + (n - v) * _
    induction m with
    | nil => cases z
    | cons x m ih =>
      obtain ⟨h1, h2⟩ := List.nodup_cons.mp (show (x.1 :: pkeys m).Nodup from nd)
      rw [plook_cons] at z
      rw [List.map_cons, wsum_cons, wsum_cons]
      by_cases e : x.1 = r
      · rw [if_pos e] at z ⊢
        rw [pput_map (by rw [← e]; exact h1), ← Option.some.inj z]
        show n * f x.1 + _ = _
        rw [e, Int.sub_mul]
        omega
      · rw [if_neg e] at z ⊢
        rw [ih h2 z]
        omega
theorem esum_subset : ∀ {a b : List Row}, a.Nodup → (∀ r ∈ a, r ∈ b) → esum a ≤ esum b
  | [], _, _, _ => Nat.zero_le _
  | x :: l, b, nd, s => by
    obtain ⟨h1, h2⟩ := List.nodup_cons.mp nd
    have hx := s x List.mem_cons_self
    have h3 := esum_subset (b := b.erase x) h2 fun y hy => (List.mem_erase_of_ne fun e => h1 (by rw [← e]; exact hy)).mpr (s y (List.mem_cons_of_mem _ hy))
    have h4 : esum b = esum (x :: b.erase x) := by
      unfold esum
      exact ((List.perm_cons_erase hx).map _).sum_nat
    rw [h4, esum_cons, esum_cons]
    omega
/-! the part of the heap -/
theorem RwV.kpd {H H' : Hp} {d : Addr} {u : HO} {v : V} {r : Row} (h : RwV H v r) (k : Kp d H H') (hd : H d = some u) (hu : ∀ xs, HO.tup xs ≠ u) : RwV H' v r := by
  obtain ⟨t, b, ts, e, h1, h2, h3⟩ := h
  exact ⟨t, b, ts, e, k _ _ h1 (ne_of h1 hd (hu _)), k _ _ h2 (ne_of h2 hd (hu _)), PrA.kpdAll h3 k hd hu⟩
def EnR (H : Hp) (p : Addr × PyData × Int) (x : Row × Int) : Prop := p.2.1 = rowD x.1 ∧ p.2.2 = x.2 ∧ RwV H (.ref p.1) x.1
theorem EnR.same {H H' : Hp} {p : Addr × PyData × Int} {x : Row × Int} (h : EnR H p x) (s : Same H H') : EnR H' p x := ⟨h.1, h.2.1, h.2.2.same s⟩
theorem EnR.all {H H' : Hp} {L : EL} {m : PL} (h : Paired (EnR H) L m) (s : Same H H') : Paired (EnR H') L m := Paired.mapP h fun _ _ z => z.same s
theorem EnR.kpd {H H' : Hp} {d : Addr} {u : HO} {L : EL} {m : PL} (h : Paired (EnR H) L m) (k : Kp d H H') (hd : H d = some u) (hu : ∀ xs, HO.tup xs ≠ u) : Paired (EnR H') L m := Paired.mapP h fun _ _ z => ⟨z.1, z.2.1, z.2.2.kpd k hd hu⟩
theorem en_keys {K : PySem.W.Frag} {H : Hp} {L : EL} {m : PL} (h : Paired (EnR H) L m) : ∀ p ∈ ekeys L, KeyD K H p := by
  induction h with
  | nil => exact fun _ h => (nomatch h)
  | @cons p x ps xs h1 _ ih =>
    intro q hq
    rcases List.mem_cons.mp (show q ∈ (p.1, p.2.1) :: ekeys ps from hq) with z | z
    · rw [z, h1.1]
      exact h1.2.2.key
    · exact ih q z
theorem nk_row {a b : Row} : nk (rowD a) = nk (rowD b) ↔ a = b := ⟨fun h => rowD_inj (nk_inj _ _ (plD0_row a) (plD0_row b) h), fun h => by rw [h]⟩
theorem en_look {H : Hp} {L : EL} {m : PL} (h : Paired (EnR H) L m) (r : Row) : elook L (nk (rowD r)) = plook m r := by
  induction h with
  | nil => rfl
  | @cons p x ps xs h1 _ ih =>
    unfold elook plook at ih ⊢
    rw [List.find?_cons, List.find?_cons, h1.1]
    by_cases e : x.1 = r
    · rw [decide_eq_true e, decide_eq_true (nk_row.mpr e)]
      exact congrArg some h1.2.1
    · rw [decide_eq_false e, decide_eq_false (fun z => e (nk_row.mp z))]
      exact ih
theorem en_put {H : Hp} {L : EL} {m : PL} (h : Paired (EnR H) L m) {b : Addr} {r : Row} {n : Int} (hb : RwV H (.ref b) r) : Paired (EnR H) (eput L b (rowD r) n) (pput m r n) := by
  unfold eput pput
  rw [en_look h]
  split
  · rename_i c0
    clear c0
    induction h with
    | nil => exact .nil
    | @cons p x ps xs h1 _ ih =>
      rw [List.map_cons, List.map_cons]
      refine .cons ?_ ih
      rw [h1.1]
      by_cases e : x.1 = r
      · rw [if_pos e, if_pos (nk_row.mpr e)]
        exact ⟨rfl, rfl, h1.2.2⟩
      · rw [if_neg e, if_neg (fun z => e (nk_row.mp z))]
        exact h1
  · exact Paired.snoc h ⟨rfl, rfl, hb⟩
structure PlOk (m : PL) : Prop where
  nd : (pkeys m).Nodup
  ps : ∀ x ∈ m, 0 < x.2
  ok : ∀ x ∈ m, RowOk x.1
  es : esum (pkeys m) ≤ 28
theorem PlOk.ln {m : PL} (h : PlOk m) : m.length ≤ 28 := by
  have h1 := esum_len (rows := pkeys m) fun r hr => by
    obtain ⟨x, hx, rfl⟩ := List.mem_map.mp hr
    exact (h.ok x hx).ne
  have h2 : (pkeys m).length = m.length := List.length_map _
  have := h.es
  omega
theorem PlOk.perm {m m' : PL} (h : PlOk m) (p : m'.Perm m) : PlOk m' := ⟨((p.map _).nodup_iff).mpr h.nd, fun x hx => h.ps x (p.mem_iff.mp hx), fun x hx => h.ok x (p.mem_iff.mp hx), by
  have : esum (pkeys m') = esum (pkeys m) := ((p.map _).map _).sum_nat
  rw [this]
  exact h.es⟩
/-- the class Plan -/
structure TxP (K : PySem.W.Frag) (CP : Addr) : Prop where
  oc : OCls K CP
  nc : NoAttr K CP "_counts"
def PlanA (P : Program) (w : World) (CP : Addr) (H : Hp) (p : Addr) (m : PL) : Prop := ∃ (dx d : Addr) (L : EL), H p = some (.ins CP dx [("_counts", .ref d)]) ∧ H d = some (DicNO P w d L) ∧ Paired (EnR H) L m ∧ PlOk m
theorem PlanA.same {P : Program} {w : World} {CP : Addr} {H H' : Hp} {p : Addr} {m : PL} (h : PlanA P w CP H p m) (s : Same H H') : PlanA P w CP H' p m := by
  obtain ⟨dx, d, L, h1, h2, h3, h4⟩ := h
  exact ⟨dx, d, L, s _ _ h1, s _ _ h2, EnR.all h3 s, h4⟩
/-- an Opening with its number, as a tuple -/
def CtV (CO : Addr) (H : Hp) (v : V) (x : Row × Int) : Prop := ∃ t o : Addr, v = .ref t ∧ H t = some (.tup [.ref o, .int x.2]) ∧ OpA CO H o x.1.1 x.1.2
theorem CtV.same {CO : Addr} {H H' : Hp} {v : V} {x : Row × Int} (h : CtV CO H v x) (s : Same H H') : CtV CO H' v x := by
  obtain ⟨t, o, e, h1, h2⟩ := h
  exact ⟨t, o, e, s _ _ h1, h2.same s⟩
theorem CtV.all {CO : Addr} {H H' : Hp} {ts : List V} {cs : PL} (h : Paired (CtV CO H) ts cs) (s : Same H H') : Paired (CtV CO H') ts cs := Paired.mapP h fun _ _ z => z.same s
theorem CtV.kl {CO : Addr} {H H' : Hp} {v : V} {x : Row × Int} (h : CtV CO H v x) (k : KL H H') : CtV CO H' v x := by
  obtain ⟨t, o, e, h1, h2⟩ := h
  exact ⟨t, o, e, k _ _ h1 (fun _ z => by cases z), h2.kl k⟩
theorem lookP {m : Str} {v : V} (h : (m == ("_counts" : Str)) = false := by decide +kernel) : List.lookup m [(("_counts" : Str), v)] = none := by
  rw [List.lookup_cons, h]
  rfl


theorem pget_look {m : PL} {r : Row} : (Option.map V.int (plook m r)).getD (V.int 0) = V.int (pget m r) := by
  unfold pget
  cases plook m r <;> rfl
theorem pget_nn {m : PL} (h : ∀ x ∈ m, 0 < x.2) (r : Row) : 0 ≤ pget m r := by
  unfold pget plook
  cases e : m.find? (fun x => decide (x.1 = r)) with
  | none => exact Int.le_refl _
  | some x => exact Int.le_of_lt (h x (List.mem_of_find?_eq_some e))
theorem pput_len (m : PL) (r : Row) (n : Int) : (pput m r n).length ≤ m.length + 1 := by
  unfold pput
  split
  · rw [List.length_map]; omega
  · rw [List.length_append]; simp
/-- a walk over a list or a tuple, told once; what stood before stands -/
theorem seqS {K : PySem.W.Frag} {H0 H : Hp} {a : Addr} {xs : List V} {R : It → Hp → Prop} (sq : SqA K H0 a xs) (s : Same H0 H) (h : ∀ (J : It) (G : Hp → Prop), Walk J xs.length G (YAt xs) → (∀ H', Same H0 H' → G H') → R J H) : SeqW K H a xs R := by
  rcases sq with z | z
  · exact .inl ⟨s.seq z, h (Itl K a) _ walk_list fun H' s' => s'.seq z⟩
  · exact .inr ⟨SqT.same z s, h (Itt K a) _ walk_tup fun H' s' => SqT.same z s'⟩
theorem dic_tup {P : Program} {w : World} {a : Addr} {L : EL} : ∀ xs, HO.tup xs ≠ DicNO P w a L := fun _ z => by
  unfold DicNO at z
  cases z
section
variable {P : Program} {w : World} {K : PySem.W.Frag} {mg : Str → Option Value} {base : Heap} {C CO CP : Addr}
abbrev sPCounted : Stmt := top 21
theorem scPCounted : FnScope ["counts", "found", "opening", "many"] ["counts"] (defScope sPCounted) := ⟨rfl, rfl, rfl, by decide +kernel, rfl, by decide +kernel, by decide +kernel⟩
def spPCounted (P : Program) (w : World) (K : PySem.W.Frag) (CO : Addr) : Sp := fun vs H Q _ => ∃ (l : Addr) (ts : List V) (cs : PL) (rows : List Row), vs = [.ref l] ∧ SqA K H l ts ∧ Paired (CtV CO H) ts cs ∧ cs.length ≤ 60 ∧ (∀ x ∈ cs, 0 ≤ x.2 ∧ RowOk x.1 ∧ x.1 ∈ rows) ∧ esum rows ≤ 28 ∧
  ∀ (d : Addr) (L : EL) (m : PL) (H' : Hp), H d = none → H' d = some (DicNO P w d L) → Paired (EnR H') L m → PlOk m → (∀ f, wsum m f = wsum cs f) → (∀ r ∈ pkeys m, r ∈ pkeys cs) → Same H H' → Q (.ref d) H'
theorem ok_pCounted {f : Addr} {fd : FuncData} (F : Fun K "_counted" "_counted" sPCounted f fd) (T : Txt K mg) (O : TxO K CO) (Opl : OCal P w K mg base CX0 1 CO "place" ["self"] (spOpPlace CO)) : FnOk P w K mg base CX0 3 f fd ["counts"] (spPCounted P w K CO) := by
  refine F.ok scPCounted (fun vs H Q E h => ?_) (fun cdv A outer s H vs Q E hr h => ?_)
  · obtain ⟨l, ts, cs, rows, rfl, _⟩ := h
    rfl
  · obtain ⟨l, ts, cs, rows, rfl, hl, hts, lc, ok, es, q⟩ := h
    refine ⟨_, (pss_cons (ps_set (i := 1) scPCounted.nd rfl (Or.inl rfl) pe_dnewN)
  (pss_cons (ps_for PassesOwn.never rfl (pi_seq (pv 0)) (pg_tup rfl (pgs_cons (pg_name (i := 2) scPCounted.nd rfl (Or.inl rfl)) (pgs_cons (pg_name (i := 3) scPCounted.nd rfl (Or.inl rfl)) pgs_nil)))
  (pss_cons (ps_if (pt_cmpR op_lt (pv 3) pe_int (nomark _))
  pss_never
  pss_nil)
  (pss_one (ps_if (pt_cmpR op_gt (pv 3) pe_int (nomark _))
  (pss_one (ps_dputN (hu64 hr) (pv 1) (pe_methO0 Opl O.oc.cl (hr.mono (by decide)) pass0 (pv 2)) (pe_op op_add (pe_dgetN (hu64 hr) (pv 1) (pe_methO0 Opl O.oc.cl (hr.mono (by decide)) pass0 (pv 2)) pe_int ⟨rfl, rfl, rfl, rfl⟩) (pv 3)) rfl))
  pss_nil))))
  (pss_one (ps_ret (pv 1))))), ?_⟩
    walk_at "in"
    walk_at "go"
    refine r_dnewN fun d hd => ?_
    walk_at "go"
    have s0 : Same H (upd H d (DicNO P w d [])) := fun c o e => upd_at e (ne_of_none e hd)
    unfold iSeq
    refine r_var rfl ⟨l, ts, rfl, ?_⟩
    refine seqS hl s0 fun J G wk hG => ?_
    have lts := Paired.len hts
    refine for_it wk (fun i σ H' => ∃ (L : EL) (m : PL) (x2 x3 : Option V), σ = [some (.ref l), some (.ref d), x2, x3] ∧ H' d = some (DicNO P w d L) ∧ Paired (EnR H') L m ∧ (pkeys m).Nodup ∧ (∀ x ∈ m, 0 < x.2) ∧ (∀ r ∈ pkeys m, r ∈ pkeys (cs.take i)) ∧ (∀ f, wsum m f = wsum (cs.take i) f) ∧ m.length ≤ i ∧ Same H H') ?_ ?_ ?_ ?_
    · exact ⟨[], [], _, _, rfl, upd_same, .nil, List.nodup_nil, fun _ h => (nomatch h), fun _ h => (nomatch h), fun _ => rfl, Nat.le_refl _, s0⟩
    · rintro i σ H' _ ⟨_, _, _, _, _, _, _, _, _, _, _, _, s1⟩
      exact hG H' s1
    · rintro i x σ _ H1 hi ⟨L, m, x2, x3, rfl, hL, hLm, nd, mp, mk, ws, lm, s1⟩ ⟨rfl, hx⟩
      obtain ⟨c, hc, t, o, rfl, ht, ho⟩ := Paired.at hts hx
      obtain ⟨c0, cok, crow⟩ := ok c (List.mem_of_getElem? hc)
      have ht1 := s1 _ _ ht
      have ho1 := ho.same s1
      obtain ⟨dxo, to, tso, eo, _, _⟩ := id ho1
      have wt := wsum_take hc
      walk_at "go"
      refine ite_dF (by omega) ?_
      walk_at "go"
      refine ite_d (fun cp => ?_) (fun cp => ?_)
      · refine r_dputN ?_
        walk_at "go"
        refine r_dgetN ?_
        walk_at "go"
        refine ⟨d, L, rfl, hL, ?_⟩
        refine r_meth0 ?_
        walk_at "go"
        refine ⟨o, dxo, _, rfl, eo, look2, o, c.1.1, c.1.2, rfl, ho1, fun t1 H2 ht1' hp1 s2 => ?_⟩
        walk_at "go"
        refine ⟨t1, rowD c.1, L, rfl, s2 _ _ hL, en_keys (EnR.all hLm s2), RwV.key hp1, ?_⟩
        rw [en_look hLm, pget_look]
        walk_at "go"
        refine r_meth0 ?_
        walk_at "go"
        refine ⟨o, dxo, _, rfl, s2 _ _ eo, look2, o, c.1.1, c.1.2, rfl, ho1.same s2, fun t2 H3 ht2 hp2 s3 => ?_⟩
        have hL3 := s3 _ _ (s2 _ _ hL)
        have hLm3 := EnR.all (EnR.all hLm s2) s3
        have lLm := Paired.len hLm
        have k4 : Kp d H3 (upd H3 d (DicNO P w d (eput L t2 (rowD c.1) (pget m c.1 + c.2)))) := fun z o e n => upd_at e n
        have g0 := pget_nn mp c.1
        refine ⟨d, t2, rowD c.1, L, pget m c.1 + c.2, rfl, rfl, rfl, hL3, en_keys hLm3, RwV.key hp2, szl (by omega), ?_⟩
        refine ⟨eput L t2 (rowD c.1) (pget m c.1 + c.2), pput m c.1 (pget m c.1 + c.2), _, _, rfl, upd_same, en_put (EnR.kpd hLm3 k4 hL3 dic_tup) (RwV.kpd hp2 k4 hL3 dic_tup), pput_nodup _ _ nd, pput_pos mp (by omega), fun r hr => ?_, fun f => ?_, ?_, fun z o e => k4 _ _ (s3 _ _ (s2 _ _ (s1 _ _ e))) (ne_of_none e hd)⟩
        · have e1 : pkeys (cs.take (i + 1)) = pkeys (cs.take i) ++ [c.1] := by
            unfold pkeys
            rw [List.take_add_one, hc, List.map_append]
            rfl
          rw [e1]
          rw [pkeys_put] at hr
          split at hr
          · exact List.mem_append_left _ (mk r hr)
          · rcases List.mem_append.mp hr with z | z
            · exact List.mem_append_left _ (mk r z)
            · exact List.mem_append_right _ z
        · rw [wsum_put nd, wt, ws, show pget m c.1 + c.2 - pget m c.1 = c.2 by omega]
        · have := pput_len m c.1 (pget m c.1 + c.2)
          omega
      · walk_at "go"
        have c2 : c.2 = 0 := by omega
        refine ⟨L, m, _, _, rfl, hL, hLm, nd, mp, fun r hr => ?_, fun f => by rw [wt, ws, c2, Int.zero_mul, Int.add_zero], by omega, s1⟩
        unfold pkeys
        rw [List.take_add_one, List.map_append]
        exact List.mem_append_left _ (mk r hr)
    · rintro σ H1 ⟨L, m, x2, x3, rfl, hL, hLm, nd, mp, mk, ws, lm, s1⟩
      rw [lts, List.take_length] at mk ws
      walk_at "go"
      have mr : ∀ r ∈ pkeys m, RowOk r ∧ r ∈ rows := fun r hr => by
        obtain ⟨x, hx, rfl⟩ := List.mem_map.mp (mk r hr)
        exact (ok x hx).2
      exact q d L m H1 hd hL hLm ⟨nd, mp, fun x hx => (mr x.1 (List.mem_map.mpr ⟨x, hx, rfl⟩)).1, Nat.le_trans (esum_subset nd fun r hr => (mr r hr).2) es⟩ ws mk s1
end


section
variable {P : Program} {w : World} {K : PySem.W.Frag} {mg : Str → Option Value} {base : Heap}
theorem dp_ints {K : PySem.W.Frag} {H : Hp} : ∀ (js : List Nat), DpAll K H (js.map fun j : Nat => V.int j) (js.map fun j : Nat => PyData.int j)
  | [] => .nil
  | _ :: js => .cons (.int _) (dp_ints js)
theorem can_ints : ∀ (js : List Nat), PyData.canLay0 (.list (js.map fun j : Nat => PyData.int j)) = true ∧ PyData.depthAll (js.map fun j : Nat => PyData.int j) ≤ 0 := by
  intro js
  induction js with
  | nil => exact ⟨rfl, Nat.le_refl _⟩
  | cons j js ih => exact ⟨ih.1, by rw [List.map_cons]; show max 0 (PyData.depthAll _) ≤ 0; have := ih.2; omega⟩
theorem r_neNilI {K : PySem.W.Frag} {H : Hp} {Q : VK} {D p : Addr} {js : List Nat} (hD : H D = some (.lst (js.map fun j : Nat => V.int j))) (hp : H p = some (.lst [])) (q : Q (.bl (!decide (js = []))) H) : rNeD K (.ref D) (.ref p) H Q := by
  refine ⟨.list (js.map fun j : Nat => PyData.int j), .list [], .lst (SqL.of hD) (dp_ints js), .lst (SqL.of hp) .nil, ?_, by decide, ?_⟩
  · unfold SeqAt.shaped
    rw [(can_ints js).1, Bool.true_and]
    refine decide_eq_true ?_
    show PyData.depthAll (js.map fun j : Nat => PyData.int j) + 1 ≤ 64
    have := (can_ints js).2
    omega
  · have e : PyData.eqv (.list (js.map fun j : Nat => PyData.int j)) (.list []) = decide (js = []) := by
      cases js with
      | nil => rfl
      | cons a r => rfl
    rw [e]
    exact q
abbrev sSingle : Stmt := top 36
theorem scSingle : FnScope ["_law_box_here", "_law_names_here", "_law_far", "_law_rows_so", "_law_k", "_law_own", "_law_under", "_law_j"] ["_law_box_here", "_law_names_here", "_law_far"] (defScope sSingle) := ⟨rfl, rfl, rfl, by decide +kernel, rfl, by decide +kernel, by decide +kernel⟩
theorem ok_single {f : Addr} {fd : FuncData} (F : Fun K "_law_single" "_law_single" sSingle f fd) (T : Txt K mg) (Ct : Cal P w K mg base CX0 1 "_law_take" ["_law_box_here", "_law_below"] spTake) (Cr : Cal P w K mg base CX0 1 "_law_rising" ["_law_rows_so"] (spRising K)) : FnOk P w K mg base CX0 2 f fd ["_law_box_here", "_law_names_here", "_law_far"] (spDraw id) := by
  refine F.ok scSingle (fun vs H Q E h => ?_) (fun cdv A outer s H vs Q E hr h => ?_)
  · obtain ⟨a, l, ns, far, b, rfl, _⟩ := h
    rfl
  · obtain ⟨a, l, ns, far, b, rfl, f0, f1, hb, hl, nla, nd, ks, ln, q⟩ := h
    have ln : ns.length ≤ 8 := ln
    refine ⟨_, (pss_cons (ps_set (i := 3) scSingle.nd rfl (Or.inl rfl) (pe_lst pa_nil))
  (pss_cons (ps_for PassesOwn.never rfl (pi_enum (by rfl) T.enumerate (pa_cons (pv 1) pa_nil)) (pg_tup rfl (pgs_cons (pg_name (i := 4) scSingle.nd rfl (Or.inl rfl)) (pgs_cons (pg_name (i := 5) scSingle.nd rfl (Or.inl rfl)) pgs_nil)))
  (pss_cons (ps_setLc (i := 6) (own := [("_law_j", 7)]) (g := gName 7) rfl scSingle.nd rfl rfl (sw_true rfl rfl rfl (by decide +kernel)) (pi_range2 rfl T.range (pa_cons (pe_op op_add (pv 4) pe_int) (pa_cons (pe_callB c_lenL (by rfl) T.len (by decide +kernel) (pa_cons (pv 1) pa_nil)) pa_nil))) (blkOk_by (N := ["_law_box_here", "_law_names_here", "_law_far", "_law_rows_so", "_law_k", "_law_own", "_law_under", "_law_j"]) (sc := defScope sSingle) (by decide +kernel)) (fun _ _ _ _ _ => (pg_name (i := 7) scSingle.nd rfl (Or.inl rfl))) (fun _ _ _ _ _ => (pts_one (pt_cmpR op_eq (pe_cal Ct (hr.mono (by decide)) pass0 (pa_cons (pv 0) (pa_cons pe_int pa_nil))) pe_int (nomark _)))) (fun _ _ _ _ _ => (pv 7)))
  (pss_one (ps_if (pt_cmpR (op_neD (hu64 hr)) (pv 6) (pe_lst pa_nil) (nomark _))
  (pss_one (ps_expr (pe_bm PySem.F.plainAttrs_list PySem.F.slot_list_append PySem.F.type_list_append mt_append (pv 3) (pa_cons (pe_tup (pa_cons (pv 5) (pa_cons (pe_callTy c_tupL (by rfl) T.tuple (by decide +kernel) (pa_cons (pe_cal Cr (hr.mono (by decide)) pass0 (pa_cons (pe_lc (own := [("_law_j", 7)]) (g := gName 7) (tt := tYes) rfl scSingle.nd (pi_list (pv 6)) (blkOk_by (N := ["_law_box_here", "_law_names_here", "_law_far", "_law_rows_so", "_law_k", "_law_own", "_law_under", "_law_j"]) (sc := defScope sSingle) (by decide +kernel)) (fun _ _ _ _ _ => (pg_name (i := 7) scSingle.nd rfl (Or.inl rfl))) (fun _ _ _ _ _ => pts_nil) (fun _ _ _ _ _ => (pe_tup (pa_cons (pe_ix (ixK (r := rIxL) K ix_list) (pv 1) (pv 7) (fun _ _ => rfl)) (pa_cons (pe_op op_add pe_int (pe_cal Ct (hr.mono (by decide)) pass0 (pa_cons (pv 0) (pa_cons (pv 2) pa_nil)))) pa_nil))))) pa_nil)) pa_nil)) pa_nil))) pa_nil))))
  pss_nil))))
  (pss_one (ps_ret (pv 3))))), ?_⟩
    have lm : (ns.map V.str).length = ns.length := List.length_map _
    walk_at "in"
    walk_at "go"
    rename_i p hp0
    have npa : a ≠ p := hb.ne hp0
    have bx2 : Bx (upd H p (.lst [])) a (b + 100) := hb.upd npa
    have kp2 : Kp a H (upd H p (.lst [])) := fun c o e n => upd_at e (ne_of_none e hp0)
    have hp2 : upd H p (.lst []) p = some (.lst []) := upd_same
    generalize upd H p (.lst []) = H2 at bx2 kp2 hp2 ⊢
    refine ⟨_, _, rfl, SqL.of (kp2 _ _ hl nla), ?_⟩
    refine for_it (walk_enum (xs := ns.map V.str)) (fun i σ H' => ∃ (ts : List V) (rows : List Row) (x4 x5 x6 x7 : Option V), σ = [some (.ref a), some (.ref l), some (.int far), some (.ref p), x4, x5, x6, x7] ∧ H' p = some (.lst ts) ∧ Paired (RwV H') ts rows ∧ (∀ r ∈ rows, ∃ k, k < i ∧ RowS ns far k r) ∧ NdO ns rows ∧ esum rows ≤ tri ns.length i ∧ Bx H' a (b + 40 + (28 - tri ns.length i) + (28 - esum rows)) ∧ Kp a H H') ?_ ?_ ?_ ?_
    · exact ⟨[], [], _, _, _, _, rfl, hp2, .nil, fun r h => (nomatch h), NdO.nil, Nat.zero_le _, bx2.mono (by show _ + 40 + (28 - 0) + (28 - 0) ≤ _; omega), kp2⟩
    · rintro i σ H3 _ ⟨_, _, _, _, _, _, _, _, _, _, _, _, _, kp3⟩
      exact SqL.of (kp3 _ _ hl nla)
    · rintro i x σ H3 H4 hi ⟨ts, rows, x4, x5, x6, x7, rfl, hp3, hts, hrw, hnd, hes, bx3, kp3⟩ ⟨t, u, v, rfl, ht, rfl, hu, hv⟩
      obtain rfl : V.int (i : Nat) = u := Option.some.inj hu
      obtain ⟨own, rfl, hown⟩ := map_some hv
      have nta : a ≠ t := bx3.ne ht
      have s4 : Same H3 (upd H3 t (.tup [V.int (i : Nat), V.str own])) := fun c o e => upd_at e (ne_of_none e ht)
      have ht4 : upd H3 t (.tup [V.int (i : Nat), V.str own]) t = some (.tup [V.int (i : Nat), V.str own]) := upd_same
      generalize upd H3 t (.tup [V.int (i : Nat), V.str own]) = H4 at s4 ht4 ⊢
      have hp4 := s4 _ _ hp3
      have hts4 := RwV.all hts s4
      have bx4 := bx3.same s4
      have kp4 : Kp a H H4 := fun c o e n => s4 _ _ (kp3 _ _ e n)
      have hl4 := kp4 _ _ hl nla
      clear hp3 hts bx3 kp3 s4 ht
      rw [lm] at hi
      have ltri : tri ns.length (i + 1) = tri ns.length i + (ns.length - (i + 1)) := rfl
      have ltr := tri8 _ ln (i + 1) (by omega)
      walk_at "go"
      have e2 : (((ns.map V.str).length : Nat) - ((i : Nat) + 1) : Int).toNat = ns.length - (i + 1) := by rw [lm]; omega
      refine r_iRng2 ?_
      walk_at "go"
      refine ⟨_, _, rfl, by omega, ?_⟩
      rw [e2]
      intro D2 hD2
      have nD2a : a ≠ D2 := bx4.ne hD2
      refine lc_it (walk_range (lo := (i : Nat) + 1) (n := ns.length - (i + 1))) (fun m H' => ∃ js : List Nat, H' D2 = some (.lst (js.map fun j : Nat => V.int j)) ∧ js.Pairwise (· < ·) ∧ (∀ j ∈ js, i < j ∧ j < i + 1 + m) ∧ js.length ≤ m ∧ Bx H' a (b + 40 + (28 - tri ns.length i - m) + (28 - esum rows)) ∧ Kp a H4 H') ?_ (fun _ _ _ _ => trivial) ?_ ?_
      · exact ⟨[], upd_same, .nil, fun _ h => (nomatch h), Nat.le_refl _, (bx4.mono (by omega)).upd nD2a, fun c o e n => upd_at e (ne_of_none e hD2)⟩
      · rintro m x _ H5 hm ⟨js, hD5, pw, hjs, ljs, bx5, kp5⟩ ⟨rfl, rfl⟩
        refine r_gname ⟨rfl, ?_⟩
        have ej : ((i : Nat) : Int) + 1 + (m : Nat) = ((i + 1 + m : Nat) : Int) := by omega
        dsimp only
        rw [ej]
        walk_at "go"
        refine ⟨a, b + 40 + (28 - tri ns.length i - (m + 1)) + (28 - esum rows), 2, rfl, by rw [show b + 40 + (28 - tri ns.length i - (m + 1)) + (28 - esum rows) + 1 = b + 40 + (28 - tri ns.length i - m) + (28 - esum rows) by omega]; exact bx5, by omega, by omega, fun d H7 d0 d1 bx7 kp7 => ?_⟩
        have hD7 := kp7 _ _ hD5 nD2a.symm
        walk_at "go"
        refine ite_d (fun e => ?_) fun e => ?_
        · walk_at "go"
          refine ⟨js.map fun j : Nat => V.int j, hD7, szl (by rw [List.length_map]; omega), js ++ [i + 1 + m], by rw [List.map_append]; exact upd_same, ?_, fun j hj => ?_, by rw [List.length_append, List.length_singleton]; omega, bx7.upd nD2a, fun c o e n => upd_at (kp7 _ _ (kp5 _ _ e n) n) (ne_of_none e hD2)⟩
          · refine List.pairwise_append.mpr ⟨pw, List.pairwise_singleton _ _, fun x hx y hy => ?_⟩
            rw [List.mem_singleton.mp hy]
            exact (hjs x hx).2
          · rcases List.mem_append.mp hj with z | z
            · have := hjs j z
              omega
            · rw [List.mem_singleton.mp z]
              omega
        · exact ⟨js, hD7, pw, fun j hj => by have := hjs j hj; omega, by omega, bx7, fun c o e n => kp7 _ _ (kp5 _ _ e n) n⟩
      · rintro H5 ⟨js, hD5, pw, hjs, ljs, bx5, kp5⟩
        have e3 : i + 1 + (ns.length - (i + 1)) = ns.length := by omega
        rw [e3] at hjs
        walk_at "go"
        rename_i p5 hp5
        have s6 : Same H5 (upd H5 p5 (.lst [])) := fun c o e => upd_at e (ne_of_none e hp5)
        refine r_neNilI (s6 _ _ hD5) upd_same ?_
        generalize upd H5 p5 (.lst []) = H6 at s6 ⊢
        have hD6 := s6 _ _ hD5
        have bx6 := bx5.same s6
        have kp6 : Kp a H4 H6 := fun c o e n => s6 _ _ (kp5 _ _ e n)
        have hp7 := kp6 _ _ hp4 npa.symm
        have hl6 := kp6 _ _ hl4 nla
        have hts7 : Paired (RwV H6) ts rows := Paired.mapP hts4 fun _ _ z => RwV.kl z (KL.bx kp6 bx4)
        have kp7 : Kp a H H6 := fun c o e n => kp6 _ _ (kp4 _ _ e n) n
        clear hD5 bx5 kp5 s6 hp5
        refine ⟨_, rfl, ite_b (fun e => ?_) fun e => ?_⟩
        · have e : js ≠ [] := by simpa using e
          walk_at "go"
          intro D3 hD3
          have nD3a : a ≠ D3 := bx6.ne hD3
          refine lc_it (walk_list (xs := js.map fun j : Nat => V.int j)) (fun m H' => ∃ xs qs, H' D3 = some (.lst xs) ∧ Paired (PrA H') xs qs ∧ Sel ns far (js.take m) qs ∧ Bx H' a (b + 40 + (28 - tri ns.length (i + 1)) + (28 - esum rows - m)) ∧ Kp a H6 H') ?_ ?_ ?_ ?_
          · refine ⟨[], [], upd_same, .nil, ?_, (bx6.mono (by omega)).upd nD3a, fun c o e n => upd_at e (ne_of_none e hD3)⟩
            rw [List.take_zero]
            exact Sel.nil
          · rintro m H' _ ⟨_, _, _, _, _, _, kp7⟩
            exact SqL.of (kp7 _ _ hD6 nD2a.symm)
          · rintro m x _ H7 hm ⟨xs, qs, hD7, hxs, sel, bx7, kp7⟩ ⟨rfl, hx⟩
            rw [List.length_map] at hm
            rw [List.getElem?_map, List.getElem?_eq_getElem hm] at hx
            obtain rfl := Option.some.inj hx
            have hjm := hjs js[m] (List.getElem_mem hm)
            have hl7 := kp7 _ _ hl6 nla
            have lq := Paired.len hxs
            have lsel := sel.len
            rw [List.length_take] at lsel
            walk_at "go"
            refine ⟨rfl, r_yes (iteT ?_)⟩
            walk_at "go"
            refine r_ixL (SqL.of hl7) (atI_nat (List.getElem?_eq_getElem (by rw [List.length_map]; exact hjm.2))) ?_
            rw [List.getElem_map]
            walk_at "go"
            refine ⟨a, b + 40 + (28 - tri ns.length (i + 1)) + (28 - esum rows - (m + 1)), far, rfl, by rw [show b + 40 + (28 - tri ns.length (i + 1)) + (28 - esum rows - (m + 1)) + 1 = b + 40 + (28 - tri ns.length (i + 1)) + (28 - esum rows - m) by omega]; exact bx7, f0, f1, fun d H8 d0 d1 bx8 kp8 => ?_⟩
            walk_at "go"
            rename_i pt hpt
            have hD8 := kp8 _ _ hD7 nD3a.symm
            have hxs8 : Paired (PrA H8) xs qs := Paired.mapP hxs fun _ _ z => z.kl (KL.bx kp8 bx7)
            have s9 : Same H8 (upd H8 pt (.tup [V.str ns[js[m]], V.int (1 + d)])) := fun c o e => upd_at e (ne_of_none e hpt)
            have hpt9 : upd H8 pt (.tup [V.str ns[js[m]], V.int (1 + d)]) pt = some (.tup [V.str ns[js[m]], V.int (1 + d)]) := upd_same
            generalize upd H8 pt (.tup [V.str ns[js[m]], V.int (1 + d)]) = H9 at s9 hpt9 ⊢
            refine ⟨xs, s9 _ _ hD8, szl (by omega), xs ++ [.ref pt], qs ++ [(ns[js[m]], 1 + d)], upd_same, pr_push (s9 _ _ hD8) (PrA.all hxs8 s9) ⟨pt, rfl, hpt9⟩, ?_, (bx8.same s9).upd nD3a, fun c o e n => ?_⟩
            · rw [List.take_add_one, List.getElem?_eq_getElem hm]
              exact sel.push (List.getElem?_eq_getElem hjm.2) (by omega) (by omega)
            · exact upd_at (s9 _ _ (kp8 _ _ (kp7 _ _ e n) n)) (ne_of_none e hD3)
          · rintro H7 ⟨xs, qs, hD7, hxs, sel, bx7, kp67⟩
            rw [List.length_map, List.take_length] at sel
            rw [List.length_map] at bx7
            walk_at "go"
            have lqs := sel.len
            have lxs := Paired.len hxs
            refine ⟨D3, xs, qs, rfl, SqL.of hD7, hxs, by omega, fun pr ys qs2 H8 hpr hpr8 hys pm so s8 => ?_⟩
            walk_at "go"
            rename_i u1 hu1 u2 hu2
            have lts := Paired.len hts7
            have hrl : rows.length ≤ esum rows := esum_len fun r hr => let ⟨_, _, z⟩ := hrw r hr; z.ne
            have s9 : Same H8 (upd (upd H8 u1 (.tup ys)) u2 (.tup [V.str own, V.ref u1])) := fun c o e => upd_at (upd_at e (ne_of_none e hu1)) (ne_of_none (upd_at e (ne_of_none e hu1)) hu2)
            have n12 : u1 ≠ u2 := fun z => by rw [← z, upd_same] at hu2; cases hu2
            have g1 : upd (upd H8 u1 (.tup ys)) u2 (.tup [V.str own, V.ref u1]) u1 = some (.tup ys) := upd_at upd_same n12
            have g2 : upd (upd H8 u1 (.tup ys)) u2 (.tup [V.str own, V.ref u1]) u2 = some (.tup [V.str own, V.ref u1]) := upd_same
            generalize upd (upd H8 u1 (.tup ys)) u2 (.tup [V.str own, V.ref u1]) = H9 at s9 g1 g2 ⊢
            have s79 : Same H7 H9 := fun c o e => s9 _ _ (s8 _ _ e)
            have hp9 := s79 _ _ (kp67 _ _ hp7 npa.symm)
            have hts9 : Paired (RwV H9) ts rows := RwV.all (Paired.mapP hts7 fun _ _ z => RwV.kl z (KL.bx kp67 bx6)) s79
            have rv : RwV H9 (.ref u2) (own, qs2) := ⟨u2, u1, ys, rfl, g2, g1, PrA.all hys s9⟩
            have qne : qs ≠ [] := fun z => e (by rw [z] at lqs; exact List.eq_nil_of_length_eq_zero lqs.symm)
            have rs : RowS ns far i (own, qs2) := RowS.of nd hown sel (fun j hj => (hjs j hj).1) pw qne pm so
            have lq2 := pm.length_eq
            refine ⟨p, ts, _, rfl, rfl, hp9, szl (by omega), ?_⟩
            refine ⟨ts ++ [.ref u2], rows ++ [(own, qs2)], _, _, _, _, rfl, upd_same, rw_push hp9 hts9 rv, fun r hr => ?_, ?_, ?_, ?_, fun c o e n => upd_at (s79 _ _ (kp67 _ _ (kp7 _ _ e n) n)) (ne_of_none e hp0)⟩
            · rcases List.mem_append.mp hr with z | z
              · obtain ⟨k, h1, h2⟩ := hrw r z
                exact ⟨k, by omega, h2⟩
              · rw [List.mem_singleton.mp z]
                exact ⟨i, by omega, rs⟩
            · refine NdO.snoc hnd (fun r hr => by obtain ⟨k, h1, h2⟩ := hrw r hr; rw [idx_at nd h2.hd, idx_at nd hown]; omega) (List.nodup_append.mpr ⟨hnd.1, by simp, fun r hr r2 hr2 e3 => ?_⟩)
              rw [List.mem_singleton.mp hr2] at e3
              obtain ⟨k, h1, h2⟩ := hrw r hr
              have e4 := h2.hd
              rw [e3] at e4
              have := (List.getElem?_inj (List.getElem?_eq_some_iff.mp e4).1 nd).mp (e4.trans hown.symm)
              omega
            · rw [esum_app, esum_one]
              show _ + qs2.length ≤ _
              omega
            · rw [esum_app, esum_one]
              refine ((bx7.mono ?_).same s79).upd npa
              show _ + 40 + _ + (28 - (_ + qs2.length)) ≤ _
              omega
        · exact ⟨ts, rows, _, _, _, _, rfl, hp7, hts7, fun r hr => let ⟨k, h1, h2⟩ := hrw r hr; ⟨k, by omega, h2⟩, hnd, by omega, bx6.mono (by omega), kp7⟩
    · rintro σ H3 ⟨ts, rows, x4, x5, x6, x7, rfl, hp3, hts, hrw, hnd, hes, bx3, kp3⟩
      walk_at "go"
      refine q p ts rows H3 hp0 hp3 hts ⟨fun r hr => let ⟨k, _, z⟩ := hrw r hr; ⟨k, z⟩, hnd.1, Nat.le_trans hes ?_, hnd.2⟩ (bx3.mono (by omega)) kp3
      rw [lm]
      exact tri8 _ ln _ (Nat.le_refl _)
end


theorem pick_add {g1 g2 g3 : Nat → Bool} (k : Nat) (h1 : ∀ j, g1 j = true → g3 j = true) (h2 : ∀ j, g2 j = true → g3 j = true) (h : ∀ j, g1 j = true → g2 j = true → False) : ∀ hi, (pick g1 k hi).length + (pick g2 k hi).length ≤ (pick g3 k hi).length
  | 0 => by simp [pick]
  | hi + 1 => by
    have ih := pick_add k h1 h2 h hi
    rw [pick_succ, pick_succ, pick_succ, List.length_append, List.length_append, List.length_append]
    by_cases c : k < hi
    · rw [decide_eq_true c, Bool.true_and, Bool.true_and, Bool.true_and]
      cases e1 : g1 hi with
      | true =>
        rw [h1 hi e1]
        cases e2 : g2 hi with
        | true => exact (h hi e1 e2).elim
        | false => simp; omega
      | false =>
        cases e2 : g2 hi with
        | true => rw [h2 hi e2]; simp; omega
        | false => simp; omega
    · rw [decide_eq_false c]
      simp
      omega
section
variable {P : Program} {w : World} {K : PySem.W.Frag} {mg : Str → Option Value} {base : Heap}
abbrev sWays : Stmt := top 35
theorem scWays : FnScope ["_law_box_here", "_law_names_here", "_law_far", "_law_rows_so", "_law_up_so", "_law_way_so", "_law_k", "_law_own", "_law_turn", "_law_under", "_law_j"] ["_law_box_here", "_law_names_here", "_law_far"] (defScope sWays) := ⟨rfl, rfl, rfl, by decide +kernel, rfl, by decide +kernel, by decide +kernel⟩
theorem ok_ways {f : Addr} {fd : FuncData} (F : Fun K "_law_ways" "_law_ways" sWays f fd) (T : Txt K mg) (Ct : Cal P w K mg base CX0 1 "_law_take" ["_law_box_here", "_law_below"] spTake) (Cr : Cal P w K mg base CX0 1 "_law_rising" ["_law_rows_so"] (spRising K)) : FnOk P w K mg base CX0 2 f fd ["_law_box_here", "_law_names_here", "_law_far"] (spDraw id) := by
  refine F.ok scWays (fun vs H Q E h => ?_) (fun cdv A outer s H vs Q E hr h => ?_)
  · obtain ⟨a, l, ns, far, b, rfl, _⟩ := h
    rfl
  · obtain ⟨a, l, ns, far, b, rfl, f0, f1, hb, hl, nla, nd, ks, ln, q⟩ := h
    have ln : ns.length ≤ 8 := ln
    refine ⟨_, (pss_cons (ps_asg (pe_tup (pa_cons (pe_lc (own := [("_law_k", 6)]) (g := gName 6) (tt := tYes) rfl scWays.nd (pi_range1 rfl T.range (pa_cons (pe_callB c_lenL (by rfl) T.len (by decide +kernel) (pa_cons (pv 1) pa_nil)) pa_nil)) (blkOk_by (N := ["_law_box_here", "_law_names_here", "_law_far", "_law_rows_so", "_law_up_so", "_law_way_so", "_law_k", "_law_own", "_law_turn", "_law_under", "_law_j"]) (sc := defScope sWays) (by decide +kernel)) (fun _ _ _ _ _ => (pg_name (i := 6) scWays.nd rfl (Or.inl rfl))) (fun _ _ _ _ _ => pts_nil) (fun _ _ _ _ _ => (pe_op op_sub (pe_cal Ct (hr.mono (by decide)) pass0 (pa_cons (pv 0) (pa_cons (pe_op op_add (pv 6) pe_int) pa_nil))) pe_int))) (pa_cons (pe_lc (own := [("_law_own", 7)]) (g := gName 7) (tt := tYes) rfl scWays.nd (pi_list (pv 1)) (blkOk_by (N := ["_law_box_here", "_law_names_here", "_law_far", "_law_rows_so", "_law_up_so", "_law_way_so", "_law_k", "_law_own", "_law_turn", "_law_under", "_law_j"]) (sc := defScope sWays) (by decide +kernel)) (fun _ _ _ _ _ => (pg_name (i := 7) scWays.nd rfl (Or.inl rfl))) (fun _ _ _ _ _ => pts_nil) (fun _ _ _ _ _ => (pe_cal Ct (hr.mono (by decide)) pass0 (pa_cons (pv 0) (pa_cons pe_int pa_nil))))) pa_nil))) (pg_tup rfl (pgs_cons (pg_name (i := 4) scWays.nd rfl (Or.inr rfl)) (pgs_cons (pg_name (i := 5) scWays.nd rfl (Or.inr rfl)) pgs_nil))))
  (pss_cons (ps_set (i := 3) scWays.nd rfl (Or.inl rfl) (pe_lst pa_nil))
  (pss_cons (ps_for PassesOwn.never rfl (pi_enum (by rfl) T.enumerate (pa_cons (pv 1) pa_nil)) (pg_tup rfl (pgs_cons (pg_name (i := 6) scWays.nd rfl (Or.inr rfl)) (pgs_cons (pg_name (i := 7) scWays.nd rfl (Or.inl rfl)) pgs_nil)))
  (pss_one (ps_for PassesOwn.never rfl (pi_range1 rfl T.range (pa_cons pe_int pa_nil)) (pg_name (i := 8) scWays.nd rfl (Or.inr rfl))
  (pss_cons (ps_setLc (i := 9) (own := [("_law_j", 10)]) (g := gName 10) rfl scWays.nd rfl rfl (sw_true rfl rfl rfl (by decide +kernel)) (pi_range2 rfl T.range (pa_cons (pe_op op_add (pv 6) pe_int) (pa_cons (pe_callB c_lenL (by rfl) T.len (by decide +kernel) (pa_cons (pv 1) pa_nil)) pa_nil))) (blkOk_by (N := ["_law_box_here", "_law_names_here", "_law_far", "_law_rows_so", "_law_up_so", "_law_way_so", "_law_k", "_law_own", "_law_turn", "_law_under", "_law_j"]) (sc := defScope sWays) (by decide +kernel)) (fun _ _ _ _ _ => (pg_name (i := 10) scWays.nd rfl (Or.inl rfl))) (fun _ _ _ _ _ => (pts_one (PW.pt (pw_and (pt_cmpR op_eq (pe_ix (ixK (r := rIxL) K ix_list) (pv 4) (pv 10) (fun _ _ => rfl)) (pv 6) (nomark _)) (pw_and1 (pt_cmpR op_eq (pe_ix (ixK (r := rIxL) K ix_list) (pv 5) (pv 10) (fun _ _ => rfl)) (pv 8) (nomark _))))))) (fun _ _ _ _ _ => (pv 10)))
  (pss_one (ps_if (pt_cmpR (op_neD (hu64 hr)) (pv 9) (pe_lst pa_nil) (nomark _))
  (pss_one (ps_expr (pe_bm PySem.F.plainAttrs_list PySem.F.slot_list_append PySem.F.type_list_append mt_append (pv 3) (pa_cons (pe_tup (pa_cons (pv 7) (pa_cons (pe_callTy c_tupL (by rfl) T.tuple (by decide +kernel) (pa_cons (pe_cal Cr (hr.mono (by decide)) pass0 (pa_cons (pe_lc (own := [("_law_j", 10)]) (g := gName 10) (tt := tYes) rfl scWays.nd (pi_list (pv 9)) (blkOk_by (N := ["_law_box_here", "_law_names_here", "_law_far", "_law_rows_so", "_law_up_so", "_law_way_so", "_law_k", "_law_own", "_law_turn", "_law_under", "_law_j"]) (sc := defScope sWays) (by decide +kernel)) (fun _ _ _ _ _ => (pg_name (i := 10) scWays.nd rfl (Or.inl rfl))) (fun _ _ _ _ _ => pts_nil) (fun _ _ _ _ _ => (pe_tup (pa_cons (pe_ix (ixK (r := rIxL) K ix_list) (pv 1) (pv 10) (fun _ _ => rfl)) (pa_cons (pe_op op_add pe_int (pe_cal Ct (hr.mono (by decide)) pass0 (pa_cons (pv 0) (pa_cons (pv 2) pa_nil)))) pa_nil))))) pa_nil)) pa_nil)) pa_nil))) pa_nil))))
  pss_nil))))))
  (pss_one (ps_ret (pv 3)))))), ?_⟩
    have lm : (ns.map V.str).length = ns.length := List.length_map _
    walk_at "in"
    walk_at "go"
    rw [lm]
    intro D hD
    have nDa : a ≠ D := hb.ne hD
    refine lc_it (walk_range (n := ns.length)) (fun i H' => ∃ us : List Int, H' D = some (.lst (us.map V.int)) ∧ us.length = i ∧ Bx H' a (b + 80 + (ns.length - i)) ∧ Kp a H H') ?_ (fun _ _ _ _ => trivial) ?_ ?_
    · exact ⟨[], upd_same, rfl, (hb.mono (by omega)).upd nDa, fun c o e n => by walk_at "hp"⟩
    · rintro i x H1 _ hi ⟨us, hD1, lu, bx1, kp1⟩ ⟨rfl, rfl⟩
      refine r_gname ⟨rfl, ?_⟩
      refine r_yes (iteT ?_)
      walk_at "go"
      refine ⟨a, b + 80 + (ns.length - (i + 1)), _, rfl, by rw [show b + 80 + (ns.length - (i + 1)) + 1 = b + 80 + (ns.length - i) by omega]; exact bx1, by omega, by omega, fun d H2 d0 d1 bx2 kp2 => ?_⟩
      walk_at "go"
      refine ⟨us.map V.int, kp2 _ _ hD1 nDa.symm, szl (by rw [List.length_map]; omega), us ++ [d - 1], ?_, by rw [List.length_append, lu]; rfl, bx2.upd nDa, fun c o e n => ?_⟩
      · rw [List.map_append]; exact upd_same
      · rw [upd_ne (ne_of_none e hD)]
        exact kp2 _ _ (kp1 _ _ e n) n
    · rintro H1 ⟨us, hD1, lu, bx1, kp1⟩
      have hl1 := kp1 _ _ hl nla
      walk_at "go"
      intro W hW
      have nWa : a ≠ W := bx1.ne hW
      have nWD : D ≠ W := ne_of_none hD1 hW
      refine lc_it (walk_list (xs := ns.map V.str)) (fun i H' => ∃ ws : List Int, H' W = some (.lst (ws.map V.int)) ∧ ws.length = i ∧ Bx H' a (b + 60 + (ns.length - i)) ∧ Kp a H1 H') ?_ ?_ ?_ ?_
      · exact ⟨[], upd_same, rfl, (bx1.mono (by omega)).upd nWa, fun c o e n => upd_at e (ne_of_none e hW)⟩
      · rintro i H' _ ⟨_, _, _, _, k2⟩
        exact SqL.of (k2 _ _ hl1 nla)
      · rintro i x H2 _ hi ⟨ws, hW1, lw, bx2, kp2⟩ ⟨rfl, hx⟩
        rw [lm] at hi
        refine r_gname ⟨rfl, ?_⟩
        refine r_yes (iteT ?_)
        walk_at "go"
        refine ⟨a, b + 60 + (ns.length - (i + 1)), 3, rfl, by rw [show b + 60 + (ns.length - (i + 1)) + 1 = b + 60 + (ns.length - i) by omega]; exact bx2, by omega, by omega, fun d H3 d0 d1 bx3 kp3 => ?_⟩
        refine ⟨ws.map V.int, kp3 _ _ hW1 nWa.symm, szl (by rw [List.length_map]; omega), ws ++ [d], ?_, by rw [List.length_append, lw]; rfl, bx3.upd nWa, fun c o e n => ?_⟩
        · rw [List.map_append]; exact upd_same
        · rw [upd_ne (ne_of_none e hW)]
          exact kp3 _ _ (kp2 _ _ e n) n
      · rintro H2 ⟨ws, hW2, lw, bx2, kp2⟩
        rw [lm] at lw bx2
        have hD2 := kp2 _ _ hD1 nDa.symm
        have kp02 : Kp a H H2 := fun c o e n => kp2 _ _ (kp1 _ _ e n) n
        clear hD1 bx1 kp1 hl1 kp2
        walk_at "go"
        rename_i t1 ht1 p hp
        have nta : a ≠ t1 := bx2.ne ht1
        have npa : a ≠ p := by walk_at "ne"
        have npt : t1 ≠ p := by walk_at "ne"
        have npD : D ≠ p := ne_of_none (upd_at hD2 (ne_of_none hD2 ht1)) hp
        have npW : W ≠ p := ne_of_none (upd_at hW2 (ne_of_none hW2 ht1)) hp
        have hp0 : H p = none := by
          cases e : H p with
          | none => rfl
          | some o => rw [upd_ne (fun z => npt z.symm), kp02 _ _ e (fun z => npa z.symm)] at hp; cases hp
        have hD3 : upd (upd H2 t1 (.tup [V.ref D, V.ref W])) p (.lst []) D = some (.lst (us.map V.int)) := by walk_at "hp"
        have hW3 : upd (upd H2 t1 (.tup [V.ref D, V.ref W])) p (.lst []) W = some (.lst (ws.map V.int)) := by walk_at "hp"
        have hp3 : upd (upd H2 t1 (.tup [V.ref D, V.ref W])) p (.lst []) p = some (.lst []) := upd_same
        have bx3 : Bx (upd (upd H2 t1 (.tup [V.ref D, V.ref W])) p (.lst [])) a (b + 60) := ((bx2.mono (by omega)).upd nta).upd npa
        have kp3 : Kp a H (upd (upd H2 t1 (.tup [V.ref D, V.ref W])) p (.lst [])) := fun c o e n => by
          have := kp02 _ _ e n
          walk_at "hp"
        generalize upd (upd H2 t1 (.tup [V.ref D, V.ref W])) p (.lst []) = H3 at hD3 hW3 hp3 bx3 kp3 ⊢
        clear hp hD2 hW2 bx2 kp02 ht1
        refine ⟨_, _, rfl, SqL.of (kp3 _ _ hl nla), ?_⟩
        refine for_it (walk_enum (xs := ns.map V.str)) (fun i σ H' => ∃ (ts : List V) (rows : List Row) (x6 x7 x8 x9 xa : Option V), σ = [some (.ref a), some (.ref l), some (.int far), some (.ref p), some (.ref D), some (.ref W), x6, x7, x8, x9, xa] ∧ H' D = some (.lst (us.map V.int)) ∧ H' W = some (.lst (ws.map V.int)) ∧ H' p = some (.lst ts) ∧ Paired (RwV H') ts rows ∧ (∀ r ∈ rows, ∃ k, k < i ∧ RowS ns far k r) ∧ NdO ns rows ∧ esum rows ≤ tri ns.length i ∧ Bx H' a (b + 20 + (28 - esum rows)) ∧ Kp a H H') ?_ ?_ ?_ ?_
        · exact ⟨[], [], _, _, _, _, _, rfl, hD3, hW3, hp3, .nil, fun r h => (nomatch h), NdO.nil, Nat.zero_le _, bx3.mono (by show _ + 20 + (28 - 0) ≤ _; omega), kp3⟩
        · rintro i σ H3 _ ⟨_, _, _, _, _, _, _, _, _, _, _, _, _, _, _, _, kp3⟩
          exact SqL.of (kp3 _ _ hl nla)
        · rintro i x σ H3 H4 hi ⟨ts, rows, x6, x7, x8, x9, xa, rfl, hD3, hW3, hp3, hts, hrw, hnd, hes, bx3, kp3⟩ ⟨t, u, v, rfl, ht, rfl, hu, hv⟩
          obtain rfl : V.int (i : Nat) = u := Option.some.inj hu
          obtain ⟨own, rfl, hown⟩ := map_some hv
          have nta : a ≠ t := bx3.ne ht
          have s4 : Same H3 (upd H3 t (.tup [V.int (i : Nat), V.str own])) := fun c o e => upd_at e (ne_of_none e ht)
          have ht4 : upd H3 t (.tup [V.int (i : Nat), V.str own]) t = some (.tup [V.int (i : Nat), V.str own]) := upd_same
          generalize upd H3 t (.tup [V.int (i : Nat), V.str own]) = H4 at s4 ht4 ⊢
          have hD4 := s4 _ _ hD3
          have hW4 := s4 _ _ hW3
          have hp4 := s4 _ _ hp3
          have hts4 := RwV.all hts s4
          have bx4 := bx3.same s4
          have kp4 : Kp a H H4 := fun c o e n => s4 _ _ (kp3 _ _ e n)
          clear hp3 hts bx3 kp3 s4 ht hD3 hW3
          rw [lm] at hi
          have ltri : tri ns.length (i + 1) = tri ns.length i + (ns.length - (i + 1)) := rfl
          have ltr := tri8 _ ln (i + 1) (by omega)
          have e2 : (((ns.map V.str).length : Nat) - ((i : Nat) + 1) : Int).toNat = ns.length - (i + 1) := by rw [lm]; omega
          walk_at "go"
          refine for_it (walk_range (n := 3)) (fun tn σ H' => ∃ (ts : List V) (rows : List Row) (x8 x9 xa : Option V), σ = [some (.ref a), some (.ref l), some (.int far), some (.ref p), some (.ref D), some (.ref W), some (.int (i : Nat)), some (.str own), x8, x9, xa] ∧ H' D = some (.lst (us.map V.int)) ∧ H' W = some (.lst (ws.map V.int)) ∧ H' p = some (.lst ts) ∧ Paired (RwV H') ts rows ∧ (∀ r ∈ rows, (∃ k, k < i ∧ RowS ns far k r) ∨ (RowS ns far i r ∧ ∀ p ∈ r.2, ∃ (j : Nat) (w' : Int), ns[j]? = some p.1 ∧ ws[j]? = some w' ∧ w' < (tn : Int))) ∧ NdO ns rows ∧ esum rows ≤ tri ns.length i + (pick (fun j => decide (us[j]? = some (i : Int)) && decide (∃ w' : Int, ws[j]? = some w' ∧ w' < (tn : Int))) i ns.length).length ∧ Bx H' a (b + 20 + (28 - esum rows)) ∧ Kp a H H') ?_ (fun _ _ _ _ _ => trivial) ?_ ?_
          · exact ⟨ts, rows, _, _, _, rfl, hD4, hW4, hp4, hts4, fun r hr => .inl (hrw r hr), hnd, by omega, bx4, kp4⟩
          · clear hD4 hW4 hp4 hts4 bx4 kp4 hrw hnd hes ht4
            rintro tn x _ _ H4 htn ⟨ts, rows, x8, x9, xa, rfl, hD4, hW4, hp4, hts4, hrw, hnd, hes, bx4, kp4⟩ ⟨rfl, rfl⟩
            have hl4 := kp4 _ _ hl nla
            have et : (0 : Int) + (tn : Nat) = ((tn : Nat) : Int) := by omega
            dsimp only
            rw [et]
            walk_at "go"
            refine r_iRng2 ?_
            walk_at "go"
            refine ⟨_, _, rfl, by omega, ?_⟩
            rw [e2]
            intro D2 hD2
            have nD2a : a ≠ D2 := bx4.ne hD2
            refine lc_it (walk_range (lo := (i : Nat) + 1) (n := ns.length - (i + 1))) (fun m H' => H' D2 = some (.lst ((pick (fun j => decide (us[j]? = some (i : Int)) && decide (ws[j]? = some ((tn : Nat) : Int))) i (i + 1 + m)).map fun j : Nat => V.int j)) ∧ Same H4 H') ?_ (fun _ _ _ _ => trivial) ?_ ?_
            · rw [Nat.add_zero, pick_zero]
              exact ⟨upd_same, fun c o e => upd_at e (ne_of_none e hD2)⟩
            · rintro m x _ H5 hm ⟨hD5, s5⟩ ⟨rfl, rfl⟩
              refine r_gname ⟨rfl, ?_⟩
              have ej : ((i : Nat) : Int) + 1 + (m : Nat) = ((i + 1 + m : Nat) : Int) := by omega
              dsimp only
              rw [ej]
              have hD5b := s5 _ _ hD4
              have hW5 := s5 _ _ hW4
              have hj : i + 1 + m < us.length := by omega
              have hj2 : i + 1 + m < ws.length := by omega
              have pk := pick_succ (fun j => decide (us[j]? = some (i : Int)) && decide (ws[j]? = some ((tn : Nat) : Int))) i (i + 1 + m)
              have lpk := pick_len (fun j => decide (us[j]? = some (i : Int)) && decide (ws[j]? = some ((tn : Nat) : Int))) i (i + 1 + m)
              rw [decide_eq_true (show i < i + 1 + m by omega), Bool.true_and, List.getElem?_eq_getElem hj, List.getElem?_eq_getElem hj2] at pk
              have keep : (us[i + 1 + m] = (i : Int) ∧ ws[i + 1 + m] = ((tn : Nat) : Int) → False) → H5 D2 = some (.lst ((pick (fun j => decide (us[j]? = some (i : Int)) && decide (ws[j]? = some ((tn : Nat) : Int))) i (i + 1 + (m + 1))).map fun j : Nat => V.int j)) := fun no => by
                rw [show i + 1 + (m + 1) = i + 1 + m + 1 by omega, pk, if_neg (fun z => by
                  rw [Bool.and_eq_true] at z
                  exact no ⟨Option.some.inj (of_decide_eq_true z.1), Option.some.inj (of_decide_eq_true z.2)⟩), List.append_nil]
                exact hD5
              walk_at "go"
              refine r_ixL (SqL.of hD5b) (atI_nat (List.getElem?_eq_getElem (by rw [List.length_map]; exact hj))) ?_
              rw [List.getElem_map]
              walk_at "go"
              refine ite_d (fun e => ?_) fun e => ?_
              · have e : us[i + 1 + m] = (i : Int) := by first | exact e | (injection e)
                walk_at "go"
                refine r_ixL (SqL.of hW5) (atI_nat (List.getElem?_eq_getElem (by rw [List.length_map]; exact hj2))) ?_
                rw [List.getElem_map]
                walk_at "go"
                refine ite_d (fun e3 => ?_) fun e3 => ?_
                · have e3 : ws[i + 1 + m] = ((tn : Nat) : Int) := by first | exact e3 | (injection e3)
                  rw [e, e3, decide_eq_true rfl, decide_eq_true rfl, Bool.and_true, if_pos rfl] at pk
                  walk_at "go"
                  refine ⟨_, hD5, szl (by rw [List.length_map]; omega), ?_, fun c o e => upd_at (s5 _ _ e) (ne_of_none e hD2)⟩
                  rw [show i + 1 + (m + 1) = i + 1 + m + 1 by omega, pk, List.map_append]
                  exact upd_same
                · exact ⟨keep fun z => e3 (by first | exact z.2 | rw [z.2]), s5⟩
              · exact ⟨keep fun z => e (by first | exact z.1 | rw [z.1]), s5⟩
            · rintro H5 ⟨hD5, s5⟩
              have e3 : i + 1 + (ns.length - (i + 1)) = ns.length := by omega
              rw [e3] at hD5
              generalize hjp : pick (fun j => decide (us[j]? = some (i : Int)) && decide (ws[j]? = some ((tn : Nat) : Int))) i ns.length = js at hD5
              have pw : js.Pairwise (· < ·) := hjp ▸ pick_pw _ _ _
              have hjs : ∀ j ∈ js, i < j ∧ j < ns.length := fun j hj => by
                have := pick_mem.mp (hjp ▸ hj)
                exact ⟨this.2.1, this.1⟩
              have ljs : esum rows + js.length ≤ 28 := by
                have := pick_add (g1 := fun j => decide (us[j]? = some (i : Int)) && decide (∃ w' : Int, ws[j]? = some w' ∧ w' < ((tn : Nat) : Int))) (g2 := fun j => decide (us[j]? = some (i : Int)) && decide (ws[j]? = some ((tn : Nat) : Int))) (g3 := fun _ => true) i (fun _ _ => rfl) (fun _ _ => rfl) (fun j z z2 => ?_) ns.length
                · have h2 := pick_len (fun _ => true) i ns.length
                  rw [hjp] at this
                  omega
                · rw [Bool.and_eq_true] at z z2
                  obtain ⟨w', h1, h2⟩ := of_decide_eq_true z.2
                  rw [of_decide_eq_true z2.2] at h1
                  have := Option.some.inj h1
                  omega
              walk_at "go"
              rename_i p5 hp5
              have s6 : Same H5 (upd H5 p5 (.lst [])) := fun c o e => upd_at e (ne_of_none e hp5)
              refine r_neNilI (s6 _ _ hD5) upd_same ?_
              generalize upd H5 p5 (.lst []) = H6 at s6 ⊢
              have s46 : Same H4 H6 := fun c o e => s6 _ _ (s5 _ _ e)
              have hD6 := s6 _ _ hD5
              have bx6 := bx4.same s46
              have hp7 := s46 _ _ hp4
              have hl6 := s46 _ _ hl4
              have hD6b := s46 _ _ hD4
              have hW6 := s46 _ _ hW4
              have hts7 : Paired (RwV H6) ts rows := RwV.all hts4 s46
              have kp7 : Kp a H H6 := fun c o e n => s46 _ _ (kp4 _ _ e n)
              clear hD5 s5 s6 hp5
              refine ⟨_, rfl, ite_b (fun e => ?_) fun e => ?_⟩
              · have e : js ≠ [] := by simpa using e
                walk_at "go"
                intro D3 hD3
                have nD3a : a ≠ D3 := bx6.ne hD3
                refine lc_it (walk_list (xs := js.map fun j : Nat => V.int j)) (fun m H' => ∃ xs qs, H' D3 = some (.lst xs) ∧ Paired (PrA H') xs qs ∧ Sel ns far (js.take m) qs ∧ Bx H' a (b + 20 + (28 - esum rows - m)) ∧ Kp a H6 H') ?_ ?_ ?_ ?_
                · refine ⟨[], [], upd_same, .nil, ?_, (bx6.mono (by omega)).upd nD3a, fun c o e n => upd_at e (ne_of_none e hD3)⟩
                  rw [List.take_zero]
                  exact Sel.nil
                · rintro m H' _ ⟨_, _, _, _, _, _, kp7⟩
                  exact SqL.of (kp7 _ _ hD6 nD2a.symm)
                · rintro m x _ H7 hm ⟨xs, qs, hD7, hxs, sel, bx7, kp7⟩ ⟨rfl, hx⟩
                  rw [List.length_map] at hm
                  rw [List.getElem?_map, List.getElem?_eq_getElem hm] at hx
                  obtain rfl := Option.some.inj hx
                  have hjm := hjs js[m] (List.getElem_mem hm)
                  have hl7 := kp7 _ _ hl6 nla
                  have lq := Paired.len hxs
                  have lsel := sel.len
                  rw [List.length_take] at lsel
                  walk_at "go"
                  refine ⟨rfl, r_yes (iteT ?_)⟩
                  walk_at "go"
                  refine r_ixL (SqL.of hl7) (atI_nat (List.getElem?_eq_getElem (by rw [List.length_map]; exact hjm.2))) ?_
                  rw [List.getElem_map]
                  walk_at "go"
                  refine ⟨a, b + 20 + (28 - esum rows - (m + 1)), far, rfl, by rw [show b + 20 + (28 - esum rows - (m + 1)) + 1 = b + 20 + (28 - esum rows - m) by omega]; exact bx7, f0, f1, fun d H8 d0 d1 bx8 kp8 => ?_⟩
                  walk_at "go"
                  rename_i pt hpt
                  have hD8 := kp8 _ _ hD7 nD3a.symm
                  have hxs8 : Paired (PrA H8) xs qs := Paired.mapP hxs fun _ _ z => z.kl (KL.bx kp8 bx7)
                  have s9 : Same H8 (upd H8 pt (.tup [V.str ns[js[m]], V.int (1 + d)])) := fun c o e => upd_at e (ne_of_none e hpt)
                  have hpt9 : upd H8 pt (.tup [V.str ns[js[m]], V.int (1 + d)]) pt = some (.tup [V.str ns[js[m]], V.int (1 + d)]) := upd_same
                  generalize upd H8 pt (.tup [V.str ns[js[m]], V.int (1 + d)]) = H9 at s9 hpt9 ⊢
                  refine ⟨xs, s9 _ _ hD8, szl (by omega), xs ++ [.ref pt], qs ++ [(ns[js[m]], 1 + d)], upd_same, pr_push (s9 _ _ hD8) (PrA.all hxs8 s9) ⟨pt, rfl, hpt9⟩, ?_, (bx8.same s9).upd nD3a, fun c o e n => ?_⟩
                  · rw [List.take_add_one, List.getElem?_eq_getElem hm]
                    exact sel.push (List.getElem?_eq_getElem hjm.2) (by omega) (by omega)
                  · exact upd_at (s9 _ _ (kp8 _ _ (kp7 _ _ e n) n)) (ne_of_none e hD3)
                · rintro H7 ⟨xs, qs, hD7, hxs, sel, bx7, kp67⟩
                  rw [List.length_map, List.take_length] at sel
                  rw [List.length_map] at bx7
                  walk_at "go"
                  have lqs := sel.len
                  have lxs := Paired.len hxs
                  refine ⟨D3, xs, qs, rfl, SqL.of hD7, hxs, by omega, fun pr ys qs2 H8 hpr hpr8 hys pm so s8 => ?_⟩
                  walk_at "go"
                  rename_i u1 hu1 u2 hu2
                  have lts := Paired.len hts7
                  have hrl : rows.length ≤ esum rows := esum_len fun r hr => (hrw r hr).elim (fun ⟨_, _, z⟩ => z.ne) fun z => z.1.ne
                  have s9 : Same H8 (upd (upd H8 u1 (.tup ys)) u2 (.tup [V.str own, V.ref u1])) := fun c o e => upd_at (upd_at e (ne_of_none e hu1)) (ne_of_none (upd_at e (ne_of_none e hu1)) hu2)
                  have n12 : u1 ≠ u2 := fun z => by rw [← z, upd_same] at hu2; cases hu2
                  have g1 : upd (upd H8 u1 (.tup ys)) u2 (.tup [V.str own, V.ref u1]) u1 = some (.tup ys) := upd_at upd_same n12
                  have g2 : upd (upd H8 u1 (.tup ys)) u2 (.tup [V.str own, V.ref u1]) u2 = some (.tup [V.str own, V.ref u1]) := upd_same
                  generalize upd (upd H8 u1 (.tup ys)) u2 (.tup [V.str own, V.ref u1]) = H9 at s9 g1 g2 ⊢
                  have s79 : Same H7 H9 := fun c o e => s9 _ _ (s8 _ _ e)
                  have hp9 := s79 _ _ (kp67 _ _ hp7 npa.symm)
                  have hts9 : Paired (RwV H9) ts rows := RwV.all (Paired.mapP hts7 fun _ _ z => RwV.kl z (KL.bx kp67 bx6)) s79
                  have rv : RwV H9 (.ref u2) (own, qs2) := ⟨u2, u1, ys, rfl, g2, g1, PrA.all hys s9⟩
                  have qne : qs ≠ [] := fun z => e (by rw [z] at lqs; exact List.eq_nil_of_length_eq_zero lqs.symm)
                  have rs : RowS ns far i (own, qs2) := RowS.of nd hown sel (fun j hj => (hjs j hj).1) pw qne pm so
                  have lq2 := pm.length_eq
                  refine ⟨p, ts, _, rfl, rfl, hp9, szl (by omega), ?_⟩
                  have hD9 := s79 _ _ (kp67 _ _ hD6b nDa.symm)
                  have hW9 := s79 _ _ (kp67 _ _ hW6 nWa.symm)
                  refine ⟨ts ++ [.ref u2], rows ++ [(own, qs2)], _, _, _, rfl, upd_at hD9 npD, upd_at hW9 npW, upd_same, rw_push hp9 hts9 rv, fun r hr => ?_, ?_, ?_, ?_, fun c o e n => upd_at (s79 _ _ (kp67 _ _ (kp7 _ _ e n) n)) (ne_of_none e hp0)⟩
                  · rcases List.mem_append.mp hr with z | z
                    · rcases hrw r z with z | z
                      · exact .inl z
                      · refine .inr ⟨z.1, fun p hp => ?_⟩
                        obtain ⟨j, w', h1, h2, h3⟩ := z.2 p hp
                        exact ⟨j, w', h1, h2, by omega⟩
                    · rw [List.mem_singleton.mp z]
                      refine .inr ⟨rs, fun p hp => ?_⟩
                      obtain ⟨j, h1, h2⟩ := sel.mem (pm.mem_iff.mp hp)
                      have h3 := (pick_mem.mp (hjp ▸ h1)).2.2
                      rw [Bool.and_eq_true] at h3
                      exact ⟨j, _, h2, of_decide_eq_true h3.2, by omega⟩
                  · refine NdO.snoc (r := (own, qs2)) hnd (fun r hr => (hrw r hr).elim (fun ⟨k, h1, h2⟩ => by rw [idx_at nd h2.hd, idx_at nd hown]; omega) fun ⟨h1, _⟩ => by rw [idx_at nd h1.hd, idx_at nd hown]; exact Nat.le_refl _) (List.nodup_append.mpr ⟨hnd.1, by simp, fun r hr r2 hr2 e3 => ?_⟩)
                    rw [List.mem_singleton.mp hr2] at e3
                    rcases hrw r hr with ⟨k, h1, h2⟩ | ⟨h1, h2⟩
                    · have e4 := h2.hd
                      rw [e3] at e4
                      have := (List.getElem?_inj (List.getElem?_eq_some_iff.mp e4).1 nd).mp (e4.trans hown.symm)
                      omega
                    · rw [e3] at h2
                      obtain ⟨p0, hp0⟩ := List.exists_mem_of_ne_nil _ rs.ne
                      obtain ⟨j, w', g1, g2, g3⟩ := h2 p0 hp0
                      obtain ⟨j2, g4, g5⟩ := sel.mem (pm.mem_iff.mp hp0)
                      have := (List.getElem?_inj (List.getElem?_eq_some_iff.mp g1).1 nd).mp (g1.trans g5.symm)
                      have h3 := (pick_mem.mp (hjp ▸ g4)).2.2
                      rw [Bool.and_eq_true] at h3
                      have h4 := of_decide_eq_true h3.2
                      rw [← this, g2] at h4
                      have := Option.some.inj h4
                      omega
                  · rw [esum_app, esum_one]
                    show _ + qs2.length ≤ _
                    have := pick_add (g1 := fun j => decide (us[j]? = some (i : Int)) && decide (∃ w' : Int, ws[j]? = some w' ∧ w' < ((tn : Nat) : Int))) (g2 := fun j => decide (us[j]? = some (i : Int)) && decide (ws[j]? = some ((tn : Nat) : Int))) (g3 := fun j => decide (us[j]? = some (i : Int)) && decide (∃ w' : Int, ws[j]? = some w' ∧ w' < ((tn + 1 : Nat) : Int))) i (fun j z => ?_) (fun j z => ?_) (fun j z z2 => ?_) ns.length
                    · rw [hjp] at this
                      omega
                    · rw [Bool.and_eq_true] at z ⊢
                      obtain ⟨w', h1, h2⟩ := of_decide_eq_true z.2
                      exact ⟨z.1, decide_eq_true ⟨w', h1, by omega⟩⟩
                    · rw [Bool.and_eq_true] at z ⊢
                      exact ⟨z.1, decide_eq_true ⟨_, of_decide_eq_true z.2, by omega⟩⟩
                    · rw [Bool.and_eq_true] at z z2
                      obtain ⟨w', h1, h2⟩ := of_decide_eq_true z.2
                      rw [of_decide_eq_true z2.2] at h1
                      have := Option.some.inj h1
                      omega
                  · rw [esum_app, esum_one]
                    refine ((bx7.mono ?_).same s79).upd npa
                    show _ + 20 + (28 - (_ + qs2.length)) ≤ _
                    omega
              · refine ⟨ts, rows, _, _, _, rfl, hD6b, hW6, hp7, hts7, fun r hr => (hrw r hr).elim .inl fun z => .inr ⟨z.1, fun p hp => ?_⟩, hnd, ?_, bx6, kp7⟩
                · obtain ⟨j, w', h1, h2, h3⟩ := z.2 p hp
                  exact ⟨j, w', h1, h2, by omega⟩
                · refine Nat.le_trans hes (Nat.add_le_add_left ?_ _)
                  have := pick_add (g1 := fun j => decide (us[j]? = some (i : Int)) && decide (∃ w' : Int, ws[j]? = some w' ∧ w' < ((tn : Nat) : Int))) (g2 := fun _ => false) (g3 := fun j => decide (us[j]? = some (i : Int)) && decide (∃ w' : Int, ws[j]? = some w' ∧ w' < ((tn + 1 : Nat) : Int))) i (fun j z => ?_) (fun j z => nomatch z) (fun j z z2 => nomatch z2) ns.length
                  · omega
                  · rw [Bool.and_eq_true] at z ⊢
                    obtain ⟨w', h1, h2⟩ := of_decide_eq_true z.2
                    exact ⟨z.1, decide_eq_true ⟨w', h1, by omega⟩⟩
          · rintro σ H5 ⟨ts, rows, x8, x9, xa, rfl, hD5, hW5, hp5, hts5, hrw, hnd, hes, bx5, kp5⟩
            have := pick_len (fun j => decide (us[j]? = some (i : Int)) && decide (∃ w' : Int, ws[j]? = some w' ∧ w' < ((3 : Nat) : Int))) i ns.length
            exact ⟨ts, rows, _, _, _, _, _, rfl, hD5, hW5, hp5, hts5, fun r hr => (hrw r hr).elim (fun ⟨k, h1, h2⟩ => ⟨k, by omega, h2⟩) fun z => ⟨i, by omega, z.1⟩, hnd, by omega, bx5, kp5⟩
        · rintro σ H3 ⟨ts, rows, x6, x7, x8, x9, xa, rfl, hD3, hW3, hp3, hts, hrw, hnd, hes, bx3, kp3⟩
          walk_at "go"
          refine q p ts rows H3 hp0 hp3 hts ⟨fun r hr => let ⟨k, _, z⟩ := hrw r hr; ⟨k, z⟩, hnd.1, Nat.le_trans hes ?_, hnd.2⟩ (bx3.mono (by omega)) kp3
          rw [lm]
          exact tri8 _ ln _ (Nat.le_refl _)
end


theorem en_rows {H : Hp} {L : EL} {m : PL} (h : Paired (EnR H) L m) : ∀ p ∈ ekeys L, ∃ r ∈ pkeys m, p.2 = rowD r ∧ RwV H (.ref p.1) r := by
  induction h with
  | nil => exact fun _ h => (nomatch h)
  | @cons p x ps xs h1 _ ih =>
    intro q hq
    rcases List.mem_cons.mp (show q ∈ (p.1, p.2.1) :: ekeys ps from hq) with z | z
    · rw [z]
      exact ⟨x.1, List.mem_cons_self, h1.1, h1.2.2⟩
    · obtain ⟨r, h2, h3⟩ := ih q z
      exact ⟨r, List.mem_cons_of_mem _ h2, h3⟩
theorem en_datas {H : Hp} {L : EL} {m : PL} (h : Paired (EnR H) L m) : (ekeys L).map (·.2) = (pkeys m).map rowD := by
  induction h with
  | nil => rfl
  | @cons p x ps xs h1 _ ih =>
    show p.2.1 :: (ekeys ps).map (·.2) = rowD x.1 :: (pkeys xs).map rowD
    rw [ih, h1.1]
section
variable {P : Program} {w : World} {K : PySem.W.Frag} {mg : Str → Option Value} {base : Heap} {C CO CP : Addr}
theorem ins_tup {C dx : Addr} {fs : List (Str × V)} : ∀ xs, HO.tup xs ≠ HO.ins C dx fs := fun _ z => by cases z
abbrev sPlanInit : Stmt := inClass (top 23) 0
theorem scPlanInit : FnScope ["self", "counts"] ["self", "counts"] (defScope sPlanInit) := ⟨rfl, rfl, rfl, by decide +kernel, rfl, by decide +kernel, by decide +kernel⟩
def spPlanInit (P : Program) (w : World) (K : PySem.W.Frag) (CO CP : Addr) : Sp := fun vs H Q _ => ∃ (p dx l : Addr) (ts : List V) (cs : PL) (rows : List Row), vs = [.ref p, .ref l] ∧ H p = some (.ins CP dx []) ∧ SqA K H l ts ∧ Paired (CtV CO H) ts cs ∧ cs.length ≤ 60 ∧ (∀ x ∈ cs, 0 ≤ x.2 ∧ RowOk x.1 ∧ x.1 ∈ rows) ∧ esum rows ≤ 28 ∧
  ∀ (m : PL) (H' : Hp), PlanA P w CP H' p m → (∀ f, wsum m f = wsum cs f) → (∀ r ∈ pkeys m, r ∈ pkeys cs) → (∀ c o, H c = some o → c ≠ p → H' c = some o) → Q .non H'
theorem ok_planInit {f t0 : Addr} {fd : FuncData} (F : FunD K "__init__" "Plan.__init__" (defArgs sPlanInit) (defBody sPlanInit) (defScope sPlanInit) [.ref t0] [] f fd) (L : TxP K CP) (Ccp : Cal P w K mg base CX0 3 "counted_plans" ["counts"] (spPCounted P w K CO)) : FnOk P w K mg base CX0 4 f fd ["self", "counts"] (spPlanInit P w K CO CP) := by
  refine F.ok scPlanInit (fun vs H Q E h => ?_) (fun cdv A outer s H vs Q E hr h => ?_)
  · obtain ⟨p, dx, l, ts, cs, rows, rfl, _⟩ := h
    rfl
  · obtain ⟨p, dx, l, ts, cs, rows, rfl, hp, hl, hts, lc, ok, es, q⟩ := h
    refine ⟨_, (pss_one (ps_fld (pv 0) (pe_cal Ccp hr pass0 (pa_cons (pv 1) pa_nil)) rfl)), ?_⟩
    walk_at "in"
    refine r_sfld ?_
    walk_at "go"
    refine ⟨l, ts, cs, rows, rfl, hl, hts, lc, ok, es, fun d L1 m H1 hd hL hLm pk ws mk s1 => ?_⟩
    walk_at "go"
    have hp1 := s1 _ _ hp
    have n1 : d ≠ p := fun z => by rw [z, hp] at hd; cases hd
    have k2 : Kp p H1 (upd H1 p (.ins CP dx (putF "_counts" (V.ref d) []))) := fun c o e n => upd_at e n
    refine ⟨p, CP, dx, [], rfl, hp1, L.oc.cl, L.nc, by show 0 < 1000; decide, ?_⟩
    exact q m _ ⟨dx, d, L1, upd_same, k2 _ _ hL n1, EnR.kpd hLm k2 hp1 ins_tup, pk⟩ ws mk fun c o e n => k2 _ _ (s1 _ _ e) n
theorem planInit_end {H2 : Hp} {l : Addr} {ts : List V} {cs : PL} {rows : List Row} {R : Addr → Hp → Prop} {E : XK} (hl : SqA K H2 l ts) (hts : Paired (CtV CO H2) ts cs) (lc : cs.length ≤ 60) (ok : ∀ x ∈ cs, 0 ≤ x.2 ∧ RowOk x.1 ∧ x.1 ∈ rows) (es : esum rows ≤ 28)
    (q : ∀ (x : Addr) (m : PL) (H' : Hp), H2 x = none → PlanA P w CP H' x m → (∀ f, wsum m f = wsum cs f) → (∀ r ∈ pkeys m, r ∈ pkeys cs) → Same H2 H' → R x H') :
    ∀ x dx, H2 x = none → H2 dx = none → dx ≠ x → spPlanInit P w K CO CP [.ref x, .ref l] (upd (upd H2 dx (.own x)) x (.ins CP dx [])) (fun v H2 => v = .non ∧ R x H2) E := by
  intro x dx hx hdx ne
  have s1 : Same H2 (upd (upd H2 dx (.own x)) x (.ins CP dx [])) := fun c o e => upd_at (upd_at e (ne_of_none e hdx)) (ne_of_none e hx)
  exact ⟨x, dx, l, ts, cs, rows, rfl, upd_same, hl.same s1, CtV.all hts s1, lc, ok, es, fun m H' pa ws mk k => ⟨rfl, q x m H' hx pa ws mk fun c o e => k c o (s1 _ _ e) (ne_of_none e hx)⟩⟩
abbrev sPlanGetitem : Stmt := inClass (top 23) 1
theorem scPlanGetitem : FnScope ["self", "at"] ["self", "at"] (defScope sPlanGetitem) := ⟨rfl, rfl, rfl, by decide +kernel, rfl, by decide +kernel, by decide +kernel⟩
def spPlanGet (P : Program) (w : World) (CO CP : Addr) : Sp := fun vs H Q _ => ∃ (p o : Addr) (m : PL) (r : Row), vs = [.ref p, .ref o] ∧ PlanA P w CP H p m ∧ OpA CO H o r.1 r.2 ∧ ∀ H', Same H H' → Q (.int (pget m r)) H'
theorem ok_planGet {f : Addr} {fd : FuncData} (F : Fun K "__getitem__" "Plan.__getitem__" sPlanGetitem f fd) (T : Txt K mg) (O : TxO K CO) (L : TxP K CP) (Opl : OCal P w K mg base CX0 1 CO "place" ["self"] (spOpPlace CO)) : FnOk P w K mg base CX0 3 f fd ["self", "at"] (spPlanGet P w CO CP) := by
  refine F.ok scPlanGetitem (fun vs H Q E h => ?_) (fun cdv A outer s H vs Q E hr h => ?_)
  · obtain ⟨p, o, m, r, rfl, _⟩ := h
    rfl
  · obtain ⟨p, o, m, r, rfl, ⟨dx, d, L1, h1, h2, h3, h4⟩, ho, q⟩ := h
    refine ⟨_, (pss_one (ps_ret (pe_dgetN (hu64 hr) (pe_fld (pv 0) rfl) (pe_methO0 Opl O.oc.cl (hr.mono (by decide)) pass0 (pv 1)) pe_int ⟨rfl, rfl, rfl, rfl⟩))), ?_⟩
    obtain ⟨dxo, to, tso, eo, _, _⟩ := id ho
    walk_at "in"
    walk_at "go"
    refine r_dgetN ?_
    walk_at "go"
    refine ⟨_, rfl, p, CP, dx, _, _, rfl, h1, L.oc.cl, L.nc, rfl, ?_⟩
    refine ⟨d, L1, rfl, h2, ?_⟩
    refine r_meth0 ?_
    walk_at "go"
    refine ⟨o, dxo, _, rfl, eo, look2, o, r.1, r.2, rfl, ho, fun t1 H2 ht1 hp1 s2 => ?_⟩
    walk_at "go"
    refine ⟨t1, rowD r, L1, rfl, s2 _ _ h2, en_keys (EnR.all h3 s2), RwV.key hp1, ?_⟩
    rw [en_look h3, pget_look]
    exact q H2 s2
/-- Opening(kind, Lot(pairs)) of a row -/
theorem opRow_end {H0 H : Hp} {r : Row} {y : Addr} {m' : AL} {R : Addr → Hp → Prop} {E : XK} (rok : RowOk r) (Ly : LoN C H0 H y m') (hg : ∀ k, get m' k = tot r.2 k) (q : ∀ (o : Addr) (H' : Hp), H o = none → OpA CO H' o r.1 r.2 → Same H H' → R o H') :
    ∀ x dx, H x = none → H dx = none → dx ≠ x → spOpInit C CO [.ref x, .str r.1, .ref y] (upd (upd H dx (.own x)) x (.ins CO dx [])) (fun v H2 => v = .non ∧ R x H2) E := by
  have cn : My.Cn m' r.2 := cn_tot Ly.lo.nd rok.nd (fun p hp => (rok.pos p hp).1) (up_ple rok.up) hg
  refine opInit_end Ly.lo (fun z => rok.ne (by have := cn.len Ly.lo.ps; rw [z] at this; exact List.eq_nil_of_length_eq_zero this)) ?_ fun o qs H5 ho hop cn2 s5 => ?_
  · have h1 : r.1 ∉ keys m' := fun z => rok.no ((keys_cn cn Ly.lo.ps r.1).mp z)
    unfold get
    rw [look_none.mpr h1]
    rfl
  obtain rfl : qs = r.2 := cn_unique Ly.lo.nd Ly.lo.nd cn2 cn fun _ _ => rfl
  exact q o H5 ho hop s5
abbrev sPlanOpenings : Stmt := inClass (top 23) 6
theorem scPlanOpenings : FnScope ["self", "kind", "pairs"] ["self"] (defScope sPlanOpenings) := ⟨rfl, rfl, rfl, by decide +kernel, rfl, by decide +kernel, by decide +kernel⟩
def spPlanOps (P : Program) (w : World) (CO CP : Addr) : Sp := fun vs H Q _ => ∃ (p : Addr) (m : PL), vs = [.ref p] ∧ PlanA P w CP H p m ∧ ∀ (D : Addr) (os : List V) (rs : List Row) (H' : Hp), H D = none → H' D = some (.lst os) → Paired (OpV CO H') os rs → rs.Perm (pkeys m) → RAsc rs → Same H H' → Q (.ref D) H'
theorem ok_planOps {f : Addr} {fd : FuncData} (F : Fun K "openings" "Plan.openings" sPlanOpenings f fd) (T : Txt K mg) (L : TxP K CP) (OmT : OMk P w K mg base CX0 2 C "Lot" ["self", "pairs"] (spLotInitT K C)) (Oop : OMk P w K mg base CX0 3 CO "Opening" ["self", "kind", "contents"] (spOpInit C CO)) : FnOk P w K mg base CX0 5 f fd ["self"] (spPlanOps P w CO CP) := by
  refine F.ok scPlanOpenings (fun vs H Q E h => ?_) (fun cdv A outer s H vs Q E hr h => ?_)
  · obtain ⟨p, m, rfl, _⟩ := h
    rfl
  · obtain ⟨p, m, rfl, ⟨dx, d, L1, h1, h2, h3, pk⟩, q⟩ := h
    refine ⟨_, (pss_one (ps_ret (pe_lc (own := [("kind", 1), ("pairs", 2)]) (g := gTup _ 2 (gCons (gName 1) (gCons (gName 2) gNil))) (tt := tYes) rfl scPlanOpenings.nd (pi_list (pe_callB (cr_sortedN rfl (hu64 hr)) (by rfl) T.sorted (by decide +kernel) (pa_cons (pe_callTy (cr_setDN (hu64 hr)) (by rfl) T.set (by decide +kernel) (pa_cons (pe_fld (pv 0) rfl) pa_nil)) pa_nil))) (blkOk_by (N := ["self", "kind", "pairs"]) (sc := defScope sPlanOpenings) (by decide +kernel)) (fun _ _ _ _ _ => (pg_tup rfl (pgs_cons (pg_name (i := 1) scPlanOpenings.nd rfl (Or.inl rfl)) (pgs_cons (pg_name (i := 2) scPlanOpenings.nd rfl (Or.inl rfl)) pgs_nil)))) (fun _ _ _ _ _ => pts_nil) (fun _ _ _ _ _ => (pe_makeO Oop (hr.mono (by decide)) pass0 (pa_cons (pv 1) (pa_cons (pe_makeO OmT (hr.mono (by decide)) pass0 (pa_cons (pv 2) pa_nil)) pa_nil))))))), ?_⟩
    have l3 := Paired.len h3
    have lm := pk.ln
    walk_at "in"
    walk_at "go"
    refine ⟨_, rfl, p, CP, dx, _, _, rfl, h1, L.oc.cl, L.nc, rfl, ?_⟩
    refine r_nil ⟨d, L1, rfl, h2, en_keys h3, by omega, fun a L' ha pm nd => ?_⟩
    have hL : ∀ p ∈ L', ∃ r ∈ pkeys m, p.2 = rowD r ∧ RwV H (.ref p.1) r := fun p hp => en_rows h3 p (pm.mem_iff.mp hp)
    have lL : L'.length ≤ 28 := by
      rw [pm.length_eq]
      show (List.map _ L1).length ≤ 28
      rw [List.length_map]
      omega
    have sa : Same H (upd H a (SetNO w a L')) := fun c o e => upd_at e (ne_of_none e ha)
    have ha1 : upd H a (SetNO w a L') a = some (SetNO w a L') := upd_same
    refine r_nil ?_
    show rSortedN K w [V.ref a] (upd H a (SetNO w a L')) _
    generalize upd H a (SetNO w a L') = Hs at sa ha1 ⊢
    refine ⟨a, L', rfl, ha1, fun p hp => ?_, by omega, ?_, ?_, fun L2 pl pm2 asc hpl => ?_⟩
    · obtain ⟨r, hr2, e, hw⟩ := hL p hp
      obtain ⟨p1, p2⟩ := p
      subst e
      exact (hw.same sa).key
    · intro d hd d' hd'
      obtain ⟨p, hp, rfl⟩ := List.mem_map.mp hd
      obtain ⟨p', hp', rfl⟩ := List.mem_map.mp hd'
      obtain ⟨r, _, e, _⟩ := hL p hp
      obtain ⟨r', _, e', _⟩ := hL p' hp'
      rw [e, e']
      exact alike_row r r'
    · refine .inl fun d hd => ?_
      obtain ⟨p, hp, rfl⟩ := List.mem_map.mp hd
      obtain ⟨r, _, e, _⟩ := hL p hp
      exact ⟨_, _, e⟩
    have hL2 : ∀ p ∈ L2, ∃ r ∈ pkeys m, p.2 = rowD r ∧ RwV Hs (.ref p.1) r := fun p hp => by
      obtain ⟨r, h1, h2, h3⟩ := hL p (pm2.mem_iff.mp hp)
      exact ⟨r, h1, h2, h3.same sa⟩
    obtain ⟨rs, hrs, ers, srs⟩ := keys_rows hL2
    have nd2 : (L2.map (·.2)).Nodup := (pm2.map _).nodup_iff.mpr nd
    have ras := asc_rows ers nd2 asc
    have prs : rs.Perm (pkeys m) := by
      refine (List.perm_ext_iff_of_nodup ras.nodup pk.nd).mpr fun r => ⟨srs r, fun hr2 => ?_⟩
      have h1 : rowD r ∈ (ekeys L1).map (·.2) := by rw [en_datas h3]; exact List.mem_map.mpr ⟨r, hr2, rfl⟩
      have h2 : rowD r ∈ L2.map (·.2) := (((pm2.trans pm).map _).mem_iff).mpr h1
      rw [ers] at h2
      obtain ⟨r', h3, e'⟩ := List.mem_map.mp h2
      rw [← rowD_inj e']
      exact h3
    have lrs : rs.length ≤ 28 := by
      rw [prs.length_eq]
      show (List.map _ m).length ≤ 28
      rw [List.length_map]
      exact lm
    have s2 : Same H (upd Hs pl (.lst (L2.map fun r => V.ref r.1))) := fun c o e => upd_at (sa _ _ e) (ne_of_none (sa _ _ e) hpl)
    have h2' : upd Hs pl (.lst (L2.map fun r => V.ref r.1)) pl = some (.lst (L2.map fun r => V.ref r.1)) := upd_same
    have hrs2 := RwV.all hrs (H' := upd Hs pl (.lst (L2.map fun r => V.ref r.1))) fun c o e => upd_at e (ne_of_none e hpl)
    generalize upd Hs pl (.lst (L2.map fun r => V.ref r.1)) = H2 at s2 h2' hrs2 ⊢
    generalize L2.map (fun r => V.ref r.1) = ps at h2' hrs2
    clear hrs hpl sa hL hL2
    walk_at "go"
    intro D2 hD2
    have lps := Paired.len hrs2
    have okr : ∀ r ∈ rs, RowOk r := fun r hr2 => by
      obtain ⟨x, hx, rfl⟩ := List.mem_map.mp (prs.mem_iff.mp hr2)
      exact pk.ok x hx
    refine lc_it (walk_list (xs := ps)) (fun i H' => ∃ os2, H' D2 = some (.lst os2) ∧ Paired (OpV CO H') os2 (rs.take i) ∧ Same H2 H') ?_ ?_ ?_ ?_
    · exact ⟨[], upd_same, .nil, fun c o e => upd_at e (ne_of_none e hD2)⟩
    · rintro i H' _ ⟨_, _, _, s3⟩
      exact SqL.of (s3 _ _ h2')
    · rintro i x _ H3 hi ⟨os2, hD3, hos2, s3⟩ ⟨rfl, hx⟩
      obtain ⟨r, hr1, t, u, ts2, rfl, e1, e2, e3⟩ := Paired.at hrs2 hx
      have rok := okr r (List.mem_of_getElem? hr1)
      have e13 := s3 _ _ e1
      have e23 := s3 _ _ e2
      have e33 := PrA.all e3 s3
      walk_at "go"
      refine ⟨rfl, r_yes (iteT ?_)⟩
      refine r_mk ?_
      walk_at "go"
      refine r_mk ?_
      walk_at "go"
      have lts2 := Paired.len e33
      refine initT_end (SqT.of e23) e33 (by have := rok.ln; omega) (fun q hq => Int.le_of_lt (rok.pos q hq).1) fun y m' H4 hy Ly hg s4 => ?_
      refine r_nil ?_
      refine opRow_end rok Ly hg fun o H5 ho hop s5 => ?_
      have s35 : Same H3 H5 := fun c o e => s5 _ _ (s4 _ _ e)
      have hD5 := s35 _ _ hD3
      have los := Paired.len hos2
      rw [List.length_take] at los
      have k2 : KL H5 (upd H5 D2 (.lst (os2 ++ [V.ref o]))) := KL.lst hD5
      refine ⟨os2, hD5, szl (by omega), os2 ++ [.ref o], upd_same, ?_, fun c o e => upd_at (s35 _ _ (s3 _ _ e)) (ne_of_none e hD2)⟩
      rw [List.take_add_one, hr1]
      exact Paired.app (Paired.mapP (OpV.all hos2 s35) fun _ _ z => z.kl k2) (.cons (OpV.kl ⟨o, rfl, hop⟩ k2) .nil)
    · rintro H3 ⟨os2, hD3, hos2, s3⟩
      rw [lps, List.take_length] at hos2
      have s03 : Same H H3 := fun c o e => s3 _ _ (s2 _ _ e)
      exact q D2 os2 rs H3 (s2.free hD2) hD3 hos2 prs ras s03
end


theorem ct_push {CO : Addr} {H : Hp} {D : Addr} {ts : List V} {cs : PL} {v : V} {x : Row × Int} (hD : H D = some (.lst ts)) (h : Paired (CtV CO H) ts cs) (hv : CtV CO H v x) : Paired (CtV CO (upd H D (.lst (ts ++ [v])))) (ts ++ [v]) (cs ++ [x]) :=
  Paired.app (Paired.mapP h fun _ _ z => z.kl (KL.lst hD)) (.cons (hv.kl (KL.lst hD)) .nil)
theorem pl_self {m : PL} (nd : (pkeys m).Nodup) : (pkeys m).map (fun r => (r, pget m r)) = m := by
  unfold pkeys
  rw [List.map_map]
  refine (List.map_congr_left fun x hx => ?_).trans (List.map_id m)
  show (x.1, pget m x.1) = x
  rw [pget_mem nd hx]
section
variable {P : Program} {w : World} {K : PySem.W.Frag} {mg : Str → Option Value} {base : Heap} {C CO CP : Addr}
abbrev sPlanCounts : Stmt := inClass (top 23) 7
theorem scPlanCounts : FnScope ["self", "opening"] ["self"] (defScope sPlanCounts) := ⟨rfl, rfl, rfl, by decide +kernel, rfl, by decide +kernel, by decide +kernel⟩
def spPlanCts (P : Program) (w : World) (CO CP : Addr) : Sp := fun vs H Q _ => ∃ (p : Addr) (m : PL), vs = [.ref p] ∧ PlanA P w CP H p m ∧ ∀ (D : Addr) (ts : List V) (cs : PL) (H' : Hp), H D = none → H' D = some (.lst ts) → Paired (CtV CO H') ts cs → cs.Perm m → RAsc (pkeys cs) → Same H H' → Q (.ref D) H'
theorem ok_planCts {f : Addr} {fd : FuncData} (F : Fun K "counts" "Plan.counts" sPlanCounts f fd) (PT : TxP K CP) (Pop : OCal P w K mg base CX0 5 CP "openings" ["self"] (spPlanOps P w CO CP)) (Pg : OCal P w K mg base CX0 3 CP "__getitem__" ["self", "at"] (spPlanGet P w CO CP)) : FnOk P w K mg base CX0 6 f fd ["self"] (spPlanCts P w CO CP) := by
  refine F.ok scPlanCounts (fun vs H Q E h => ?_) (fun cdv A outer s H vs Q E hr h => ?_)
  · obtain ⟨p, m, rfl, _⟩ := h
    rfl
  · obtain ⟨p, m, rfl, hP, q⟩ := h
    obtain ⟨dx, d, L1, h1, h2, h3, pk⟩ := id hP
    refine ⟨_, (pss_one (ps_ret (pe_lc (own := [("opening", 1)]) (g := gName 1) (tt := tYes) rfl scPlanCounts.nd (pi_list (pe_methO0 Pop PT.oc.cl (hr.mono (by decide)) pass0 (pv 0))) (blkOk_by (N := ["self", "opening"]) (sc := defScope sPlanCounts) (by decide +kernel)) (fun _ _ _ _ _ => (pg_name (i := 1) scPlanCounts.nd rfl (Or.inl rfl))) (fun _ _ _ _ _ => pts_nil) (fun _ _ _ _ _ => (pe_tup (pa_cons (pv 1) (pa_cons (pe_ixO Pg (hr.mono (by decide)) pass0 (pv 0) (pv 1)) pa_nil))))))), ?_⟩
    walk_at "in"
    walk_at "go"
    refine r_meth0 ?_
    walk_at "go"
    refine ⟨p, dx, _, rfl, h1, lookP, p, m, rfl, hP, fun D os rs H1 hD hD1 hos prs asc s1 => ?_⟩
    walk_at "go"
    intro D2 hD2
    have los := Paired.len hos
    have hP1 := hP.same s1
    have lrs : rs.length ≤ 28 := by
      have := pk.ln
      rw [prs.length_eq]
      show (List.map _ m).length ≤ 28
      rw [List.length_map]
      exact this
    refine lc_it (walk_list (xs := os)) (fun i H' => ∃ ts, H' D2 = some (.lst ts) ∧ Paired (CtV CO H') ts ((rs.take i).map fun r => (r, pget m r)) ∧ Same H1 H') ?_ ?_ ?_ ?_
    · exact ⟨[], upd_same, .nil, fun c o e => upd_at e (ne_of_none e hD2)⟩
    · rintro i H' _ ⟨_, _, _, s2⟩
      exact SqL.of (s2 _ _ hD1)
    · rintro i x _ H2 hi ⟨ts, hT, hts, s2⟩ ⟨rfl, hx⟩
      obtain ⟨r, hr1, o, rfl, ho⟩ := Paired.at hos hx
      have ho2 := ho.same s2
      walk_at "go"
      refine ⟨rfl, r_yes (iteT ?_)⟩
      walk_at "go"
      refine r_ixO ?_
      walk_at "go"
      refine ⟨p, dx, _, rfl, s2 _ _ (s1 _ _ h1), p, o, m, r, rfl, hP1.same s2, ho2, fun H3 s3 => ?_⟩
      walk_at "go"
      rename_i t ht
      have s4 : Same H3 (upd H3 t (.tup [V.ref o, V.int (pget m r)])) := fun c o e => upd_at e (ne_of_none e ht)
      have ht4 : upd H3 t (.tup [V.ref o, V.int (pget m r)]) t = some (.tup [V.ref o, V.int (pget m r)]) := upd_same
      generalize upd H3 t (.tup [V.ref o, V.int (pget m r)]) = H4 at s4 ht4 ⊢
      have hT4 := s4 _ _ (s3 _ _ hT)
      have lts := Paired.len hts
      rw [List.length_map, List.length_take] at lts
      refine ⟨ts, hT4, szl (by omega), ts ++ [.ref t], upd_same, ?_, fun c o e => upd_at (s4 _ _ (s3 _ _ (s2 _ _ e))) (ne_of_none e hD2)⟩
      rw [List.take_add_one, hr1, List.map_append]
      exact ct_push hT4 (CtV.all (CtV.all hts s3) s4) ⟨t, o, rfl, ht4, (ho2.same s3).same s4⟩
    · rintro H2 ⟨ts, hT, hts, s2⟩
      rw [los, List.take_length] at hts
      refine q D2 ts _ H2 (s1.free hD2) hT hts ?_ ?_ fun c o e => s2 _ _ (s1 _ _ e)
      · have := prs.map fun r => (r, pget m r)
        rw [pl_self pk.nd] at this
        exact this
      · show RAsc ((rs.map _).map _)
        rw [List.map_map]
        exact (List.map_id rs).symm ▸ asc
abbrev sPlanAdd : Stmt := inClass (top 23) 8
theorem scPlanAdd : FnScope ["self", "other"] ["self", "other"] (defScope sPlanAdd) := ⟨rfl, rfl, rfl, by decide +kernel, rfl, by decide +kernel, by decide +kernel⟩
def spPlanAdd (P : Program) (w : World) (CP : Addr) : Sp := fun vs H Q _ => ∃ (a b : Addr) (m m2 : PL) (rows : List Row), vs = [.ref a, .ref b] ∧ PlanA P w CP H a m ∧ PlanA P w CP H b m2 ∧ esum rows ≤ 28 ∧ (∀ r ∈ pkeys m, r ∈ rows) ∧ (∀ r ∈ pkeys m2, r ∈ rows) ∧
  ∀ (x : Addr) (m' : PL) (H' : Hp), H x = none → PlanA P w CP H' x m' → (∀ f, wsum m' f = wsum m f + wsum m2 f) → (∀ r ∈ pkeys m', r ∈ rows) → Same H H' → Q (.ref x) H'
theorem ok_planAdd {f : Addr} {fd : FuncData} (F : Fun K "__add__" "Plan.__add__" sPlanAdd f fd) (PT : TxP K CP) (Pc : OCal P w K mg base CX0 6 CP "counts" ["self"] (spPlanCts P w CO CP)) (Pm : OMk P w K mg base CX0 4 CP "Plan" ["self", "counts"] (spPlanInit P w K CO CP)) : FnOk P w K mg base CX0 7 f fd ["self", "other"] (spPlanAdd P w CP) := by
  refine F.ok scPlanAdd (fun vs H Q E h => ?_) (fun cdv A outer s H vs Q E hr h => ?_)
  · obtain ⟨a, b, m, m2, rows, rfl, _⟩ := h
    rfl
  · obtain ⟨a, b, m, m2, rows, rfl, Pa, Pb, es, r1, r2, q⟩ := h
    obtain ⟨dx, d, L1, h1, _, _, pk⟩ := id Pa
    obtain ⟨dx2, d2, L2', h12, _, _, pk2⟩ := id Pb
    refine ⟨_, (pss_one (ps_ret (pe_makeO Pm (hr.mono (by decide)) pass0 (pa_cons (pe_op op_cat (pe_methO0 Pc PT.oc.cl (hr.mono (by decide)) pass0 (pv 0)) (pe_methO0 Pc PT.oc.cl (hr.mono (by decide)) pass0 (pv 1))) pa_nil)))), ?_⟩
    walk_at "in"
    walk_at "go"
    refine r_mk ?_
    walk_at "go"
    refine r_meth0 ?_
    walk_at "go"
    refine ⟨a, dx, _, rfl, h1, lookP, a, m, rfl, Pa, fun D ts cs H1 hD hD1 hts pm asc s1 => ?_⟩
    refine r_meth0 ?_
    walk_at "go"
    refine ⟨b, dx2, _, rfl, s1 _ _ h12, lookP, b, m2, rfl, Pb.same s1, fun D2 ts2 cs2 H2 hD2 hD21 hts2 pm2 asc2 s2 => ?_⟩
    have l1 := Paired.len hts
    have l2 := Paired.len hts2
    have l3 := pk.ln
    have l4 := pk2.ln
    have l5 := pm.length_eq
    have l6 := pm2.length_eq
    refine r_cat (s2 _ _ hD1) hD21 (sz (by omega)) fun c hc => ?_
    have s3 : Same H2 (upd H2 c (.lst (ts ++ ts2))) := fun z o e => upd_at e (ne_of_none e hc)
    have s03 : Same H (upd H2 c (.lst (ts ++ ts2))) := fun z o e => s3 _ _ (s2 _ _ (s1 _ _ e))
    walk_at "go"
    have pok := pk.perm pm
    have pok2 := pk2.perm pm2
    refine planInit_end (rows := rows) (.inl (SqL.of upd_same)) (Paired.app (CtV.all (CtV.all hts s2) s3) (CtV.all hts2 s3)) (by rw [List.length_append]; omega) (fun x hx => ?_) es fun x m' H' hx Px ws mk s4 => ?_
    · rcases List.mem_append.mp hx with z | z
      · exact ⟨Int.le_of_lt (pok.ps x z), pok.ok x z, r1 _ (List.mem_map.mpr ⟨x, pm.mem_iff.mp z, rfl⟩)⟩
      · exact ⟨Int.le_of_lt (pok2.ps x z), pok2.ok x z, r2 _ (List.mem_map.mpr ⟨x, pm2.mem_iff.mp z, rfl⟩)⟩
    · refine q x m' H' (s03.free hx) Px (fun f => by rw [ws, wsum_app, wsum_perm pm, wsum_perm pm2]) (fun r hr => ?_) fun z o e => s4 _ _ (s03 _ _ e)
      obtain ⟨y, hy, rfl⟩ := List.mem_map.mp (mk r hr)
      rcases List.mem_append.mp hy with z | z
      · exact r1 _ (List.mem_map.mpr ⟨y, pm.mem_iff.mp z, rfl⟩)
      · exact r2 _ (List.mem_map.mpr ⟨y, pm2.mem_iff.mp z, rfl⟩)
abbrev sPlanMul : Stmt := inClass (top 23) 10
theorem scPlanMul : FnScope ["self", "other", "opening", "many"] ["self", "other"] (defScope sPlanMul) := ⟨rfl, rfl, rfl, by decide +kernel, rfl, by decide +kernel, by decide +kernel⟩
def spPlanMul (P : Program) (w : World) (CP : Addr) : Sp := fun vs H Q _ => ∃ (a : Addr) (n : Int) (m : PL), vs = [.ref a, .int n] ∧ PlanA P w CP H a m ∧ 0 ≤ n ∧ n.natAbs < 2 ^ 300 ∧ (∀ x ∈ m, x.2.natAbs < 2 ^ 300) ∧
  ∀ (x : Addr) (m' : PL) (H' : Hp), H x = none → PlanA P w CP H' x m' → (∀ f, wsum m' f = n * wsum m f) → (∀ r ∈ pkeys m', r ∈ pkeys m) → Same H H' → Q (.ref x) H'
theorem ok_planMul {f : Addr} {fd : FuncData} (F : Fun K "__mul__" "Plan.__mul__" sPlanMul f fd) (PT : TxP K CP) (Pc : OCal P w K mg base CX0 6 CP "counts" ["self"] (spPlanCts P w CO CP)) (Pm : OMk P w K mg base CX0 4 CP "Plan" ["self", "counts"] (spPlanInit P w K CO CP)) : FnOk P w K mg base CX0 7 f fd ["self", "other"] (spPlanMul P w CP) := by
  refine F.ok scPlanMul (fun vs H Q E h => ?_) (fun cdv A outer s H vs Q E hr h => ?_)
  · obtain ⟨a, n, m, rfl, _⟩ := h
    rfl
  · obtain ⟨a, n, m, rfl, Pa, n0, nb, mb, q⟩ := h
    obtain ⟨dx, d, L1, h1, _, _, pk⟩ := id Pa
    refine ⟨_, (pss_one (ps_ret (pe_makeO Pm (hr.mono (by decide)) pass0 (pa_cons (pe_lc (own := [("opening", 2), ("many", 3)]) (g := gTup _ 2 (gCons (gName 2) (gCons (gName 3) gNil))) (tt := tYes) rfl scPlanMul.nd (pi_list (pe_methO0 Pc PT.oc.cl (hr.mono (by decide)) pass0 (pv 0))) (blkOk_by (N := ["self", "other", "opening", "many"]) (sc := defScope sPlanMul) (by decide +kernel)) (fun _ _ _ _ _ => (pg_tup rfl (pgs_cons (pg_name (i := 2) scPlanMul.nd rfl (Or.inl rfl)) (pgs_cons (pg_name (i := 3) scPlanMul.nd rfl (Or.inl rfl)) pgs_nil)))) (fun _ _ _ _ _ => pts_nil) (fun _ _ _ _ _ => (pe_tup (pa_cons (pv 2) (pa_cons (pe_op op_mulW (pv 3) (pv 1)) pa_nil))))) pa_nil)))), ?_⟩
    walk_at "in"
    walk_at "go"
    refine r_mk ?_
    walk_at "go"
    refine r_meth0 ?_
    walk_at "go"
    refine ⟨a, dx, _, rfl, h1, lookP, a, m, rfl, Pa, fun D ts cs H1 hD hD1 hts pm asc s1 => ?_⟩
    walk_at "go"
    intro D2 hD2
    have l1 := Paired.len hts
    have l3 := pk.ln
    have l5 := pm.length_eq
    have pok := pk.perm pm
    refine lc_it (walk_list (xs := ts)) (fun i H' => ∃ us, H' D2 = some (.lst us) ∧ Paired (CtV CO H') us ((cs.take i).map fun x => (x.1, x.2 * n)) ∧ Same H1 H') ?_ ?_ ?_ ?_
    · exact ⟨[], upd_same, .nil, fun c o e => upd_at e (ne_of_none e hD2)⟩
    · rintro i H' _ ⟨_, _, _, s2⟩
      exact SqL.of (s2 _ _ hD1)
    · rintro i x _ H2 hi ⟨us, hT, hus, s2⟩ ⟨rfl, hx⟩
      obtain ⟨c, hc, t, o, rfl, ht, ho⟩ := Paired.at hts hx
      have ht2 := s2 _ _ ht
      have ho2 := ho.same s2
      walk_at "go"
      refine ⟨rfl, r_yes (iteT ?_)⟩
      walk_at "go"
      refine r_I (wide_mul (mb c (pm.mem_iff.mp (List.mem_of_getElem? hc))) nb (by decide) (by decide) (by decide)) ?_
      walk_at "go"
      rename_i t2 ht2'
      have s4 : Same H2 (upd H2 t2 (.tup [V.ref o, V.int (c.2 * n)])) := fun c o e => upd_at e (ne_of_none e ht2')
      have ht4 : upd H2 t2 (.tup [V.ref o, V.int (c.2 * n)]) t2 = some (.tup [V.ref o, V.int (c.2 * n)]) := upd_same
      generalize upd H2 t2 (.tup [V.ref o, V.int (c.2 * n)]) = H4 at s4 ht4 ⊢
      have hT4 := s4 _ _ hT
      have lus := Paired.len hus
      rw [List.length_map, List.length_take] at lus
      refine ⟨us, hT4, szl (by omega), us ++ [.ref t2], upd_same, ?_, fun c o e => upd_at (s4 _ _ (s2 _ _ e)) (ne_of_none e hD2)⟩
      rw [List.take_add_one, hc, List.map_append]
      exact ct_push hT4 (CtV.all hus s4) ⟨t2, o, rfl, ht4, ho2.same s4⟩
    · rintro H2 ⟨us, hT, hus, s2⟩
      rw [l1, List.take_length] at hus
      have s02 : Same H H2 := fun c o e => s2 _ _ (s1 _ _ e)
      have ek : pkeys (cs.map fun x => (x.1, x.2 * n)) = pkeys cs := by
        unfold pkeys
        rw [List.map_map]
        rfl
      refine r_nil (planInit_end (rows := pkeys m) (.inl (SqL.of hT)) hus (by rw [List.length_map]; omega) (fun x hx => ?_) pk.es fun x m' H' hx Px ws mk s4 => ?_)
      · obtain ⟨y, hy, rfl⟩ := List.mem_map.mp hx
        exact ⟨Int.mul_nonneg (Int.le_of_lt (pok.ps y hy)) n0, pok.ok y hy, List.mem_map.mpr ⟨y, pm.mem_iff.mp hy, rfl⟩⟩
      · refine q x m' H' (s02.free hx) Px (fun f => by rw [ws, wsum_mul, wsum_perm pm]) (fun r hr => ?_) fun z o e => s4 _ _ (s02 _ _ e)
        have h4 := mk r hr
        rw [ek] at h4
        obtain ⟨y, hy, rfl⟩ := List.mem_map.mp h4
        exact List.mem_map.mpr ⟨y, pm.mem_iff.mp hy, rfl⟩
end


theorem tot_gone (k : Str) : ∀ cs : PL, tot (cs.map fun x => (x.1.1, x.2)) k = wsum cs fun r => if r.1 = k then 1 else 0
  | [] => rfl
  | x :: cs => by
    rw [List.map_cons, wsum_cons]
    show (if x.1.1 = k then x.2 else 0) + tot _ k = _
    rw [tot_gone k cs]
    split <;> simp
def comeL (cs : PL) : AL := (cs.map fun x => x.1.2.map fun p => (p.1, p.2 * x.2)).flatten
theorem comeL_take {cs : PL} {i : Nat} {x : Row × Int} (h : cs[i]? = some x) : comeL (cs.take (i + 1)) = comeL (cs.take i) ++ x.1.2.map fun p => (p.1, p.2 * x.2) := by
  unfold comeL
  rw [List.take_add_one, h, List.map_append, List.flatten_append]
  simp
theorem tot_mulr (k : Str) (n : Int) : ∀ m : AL, tot (m.map fun p => (p.1, p.2 * n)) k = n * tot m k
  | [] => (Int.mul_zero n).symm
  | p :: m => by
    rw [List.map_cons]
    show (if p.1 = k then p.2 * n else 0) + tot _ k = n * ((if p.1 = k then p.2 else 0) + tot m k)
    rw [tot_mulr k n m, Int.mul_add]
    split
    · rw [Int.mul_comm]
    · rw [Int.mul_zero]
theorem tot_come (k : Str) : ∀ cs : PL, tot (comeL cs) k = wsum cs fun r => tot r.2 k
  | [] => rfl
  | x :: cs => by
    show tot ((x.1.2.map fun p => (p.1, p.2 * x.2)) ++ comeL cs) k = _
    rw [tot_app, tot_mulr, tot_come k cs, wsum_cons]
theorem comeL_len : ∀ cs : PL, (comeL cs).length = esum (pkeys cs)
  | [] => rfl
  | x :: cs => by
    show ((x.1.2.map fun p => (p.1, p.2 * x.2)) ++ comeL cs).length = esum (x.1 :: pkeys cs)
    rw [List.length_append, List.length_map, comeL_len cs, esum_cons]
theorem comeL_nn {cs : PL} (h : ∀ x ∈ cs, 0 ≤ x.2 ∧ RowOk x.1) : ∀ p ∈ comeL cs, 0 ≤ p.2 := fun p hp => by
  obtain ⟨l, hl, hp⟩ := List.mem_flatten.mp hp
  obtain ⟨x, hx, rfl⟩ := List.mem_map.mp hl
  obtain ⟨q, hq, rfl⟩ := List.mem_map.mp hp
  exact Int.mul_nonneg (Int.le_of_lt ((h x hx).2.pos q hq).1) (h x hx).1
section
variable {P : Program} {w : World} {K : PySem.W.Frag} {mg : Str → Option Value} {base : Heap} {C CO CP : Addr}
abbrev sPlanGone : Stmt := inClass (top 23) 14
theorem scPlanGone : FnScope ["self", "opening", "many"] ["self"] (defScope sPlanGone) := ⟨rfl, rfl, rfl, by decide +kernel, rfl, by decide +kernel, by decide +kernel⟩
def spPlanGone (P : Program) (w : World) (C CP : Addr) : Sp := fun vs H Q _ => ∃ (p : Addr) (m : PL), vs = [.ref p] ∧ PlanA P w CP H p m ∧ ∀ (x : Addr) (m' : AL) (H' : Hp), H x = none → LoN C H H' x m' → (∀ k, get m' k = wsum m fun r => if r.1 = k then 1 else 0) → Same H H' → Q (.ref x) H'
theorem ok_planGone {f : Addr} {fd : FuncData} (F : Fun K "gone" "Plan.gone" sPlanGone f fd) (PT : TxP K CP) (O : TxO K CO) (Pc : OCal P w K mg base CX0 6 CP "counts" ["self"] (spPlanCts P w CO CP)) (Om : OMk P w K mg base CX0 2 C "Lot" ["self", "pairs"] (spLotInit K C)) : FnOk P w K mg base CX0 7 f fd ["self"] (spPlanGone P w C CP) := by
  refine F.ok scPlanGone (fun vs H Q E h => ?_) (fun cdv A outer s H vs Q E hr h => ?_)
  · obtain ⟨p, m, rfl, _⟩ := h
    rfl
  · obtain ⟨p, m, rfl, hP, q⟩ := h
    obtain ⟨dx, d, L1, h1, _, _, pk⟩ := id hP
    refine ⟨_, (pss_one (ps_ret (pe_makeO Om (hr.mono (by decide)) pass0 (pa_cons (pe_lc (own := [("opening", 1), ("many", 2)]) (g := gTup _ 2 (gCons (gName 1) (gCons (gName 2) gNil))) (tt := tYes) rfl scPlanGone.nd (pi_list (pe_methO0 Pc PT.oc.cl (hr.mono (by decide)) pass0 (pv 0))) (blkOk_by (N := ["self", "opening", "many"]) (sc := defScope sPlanGone) (by decide +kernel)) (fun _ _ _ _ _ => (pg_tup rfl (pgs_cons (pg_name (i := 1) scPlanGone.nd rfl (Or.inl rfl)) (pgs_cons (pg_name (i := 2) scPlanGone.nd rfl (Or.inl rfl)) pgs_nil)))) (fun _ _ _ _ _ => pts_nil) (fun _ _ _ _ _ => (pe_tup (pa_cons (fldK K (pv 1) rfl) (pa_cons (pv 2) pa_nil))))) pa_nil)))), ?_⟩
    walk_at "in"
    walk_at "go"
    refine r_mk ?_
    walk_at "go"
    refine r_meth0 ?_
    walk_at "go"
    refine ⟨p, dx, _, rfl, h1, lookP, p, m, rfl, hP, fun D ts cs H1 hD hD1 hts pm asc s1 => ?_⟩
    walk_at "go"
    intro D2 hD2
    have l1 := Paired.len hts
    have l3 := pk.ln
    have l5 := pm.length_eq
    have pok := pk.perm pm
    refine lc_it (walk_list (xs := ts)) (fun i H' => ∃ us, H' D2 = some (.lst us) ∧ Paired (PrA H') us ((cs.take i).map fun x => (x.1.1, x.2)) ∧ Same H1 H') ?_ ?_ ?_ ?_
    · exact ⟨[], upd_same, .nil, fun c o e => upd_at e (ne_of_none e hD2)⟩
    · rintro i H' _ ⟨_, _, _, s2⟩
      exact SqL.of (s2 _ _ hD1)
    · rintro i x _ H2 hi ⟨us, hT, hus, s2⟩ ⟨rfl, hx⟩
      obtain ⟨c, hc, t, o, rfl, ht, ho⟩ := Paired.at hts hx
      have ht2 := s2 _ _ ht
      obtain ⟨dxo, to, tso, eo, _, _⟩ := id (ho.same s2)
      walk_at "go"
      refine ⟨rfl, r_yes (iteT ?_)⟩
      walk_at "go"
      refine ⟨_, rfl, o, CO, dxo, _, _, rfl, eo, O.oc.cl, O.nk, rfl, ?_⟩
      walk_at "go"
      rename_i t2 ht2'
      have s4 : Same H2 (upd H2 t2 (.tup [V.str c.1.1, V.int c.2])) := fun c o e => upd_at e (ne_of_none e ht2')
      have ht4 : upd H2 t2 (.tup [V.str c.1.1, V.int c.2]) t2 = some (.tup [V.str c.1.1, V.int c.2]) := upd_same
      generalize upd H2 t2 (.tup [V.str c.1.1, V.int c.2]) = H4 at s4 ht4 ⊢
      have hT4 := s4 _ _ hT
      have lus := Paired.len hus
      rw [List.length_map, List.length_take] at lus
      refine ⟨us, hT4, szl (by omega), us ++ [.ref t2], upd_same, ?_, fun c o e => upd_at (s4 _ _ (s2 _ _ e)) (ne_of_none e hD2)⟩
      rw [List.take_add_one, hc, List.map_append]
      exact pr_push hT4 (PrA.all hus s4) ⟨t2, rfl, ht4⟩
    · rintro H2 ⟨us, hT, hus, s2⟩
      rw [l1, List.take_length] at hus
      have lus := Paired.len hus
      rw [List.length_map] at lus
      have s02 : Same H H2 := fun c o e => s2 _ _ (s1 _ _ e)
      refine r_nil (init_end hT hus (by omega) (fun x hx => ?_) fun x m' H' hx La hg s3 => ?_)
      · obtain ⟨y, hy, rfl⟩ := List.mem_map.mp hx
        exact Int.le_of_lt (pok.ps y hy)
      · exact q x m' H' (s02.free hx) (La.mono s02) (fun k => by rw [hg, tot_gone, wsum_perm pm]) fun z o e => s3 _ _ (s02 _ _ e)
theorem pi_tupK {X : Cx} {tg l : Expr} {tl : TE} (K : PySem.W.Frag) (hl : PE X l tl) (e : X.K = K := by rfl) : PI X tg l (iTup K tl) := by
  subst e
  exact pi_tup hl
abbrev sPlanCome : Stmt := inClass (top 23) 15
theorem scPlanCome : FnScope ["self", "rows", "opening", "many", "kind", "each"] ["self"] (defScope sPlanCome) := ⟨rfl, rfl, rfl, by decide +kernel, rfl, by decide +kernel, by decide +kernel⟩
def spPlanCome (P : Program) (w : World) (C CP : Addr) : Sp := fun vs H Q _ => ∃ (p : Addr) (m : PL), vs = [.ref p] ∧ PlanA P w CP H p m ∧ (∀ x ∈ m, x.2.natAbs < 2 ^ 300 ∧ ∀ p ∈ x.1.2, p.2.natAbs < 2 ^ 300) ∧ ∀ (x : Addr) (m' : AL) (H' : Hp), H x = none → LoN C H H' x m' → (∀ k, get m' k = wsum m fun r => tot r.2 k) → Same H H' → Q (.ref x) H'
theorem ok_planCome {f : Addr} {fd : FuncData} (F : Fun K "come" "Plan.come" sPlanCome f fd) (PT : TxP K CP) (L : TxL K C) (O : TxO K CO) (Pc : OCal P w K mg base CX0 6 CP "counts" ["self"] (spPlanCts P w CO CP)) (Ocn : OPr P w K mg base CX0 4 CO "contents" (spOpContents C CO)) (Op : OCal P w K mg base CX0 2 C "pairs" ["self"] (spLotPairs C)) (Om : OMk P w K mg base CX0 2 C "Lot" ["self", "pairs"] (spLotInit K C)) : FnOk P w K mg base CX0 7 f fd ["self"] (spPlanCome P w C CP) := by
  refine F.ok scPlanCome (fun vs H Q E h => ?_) (fun cdv A outer s H vs Q E hr h => ?_)
  · obtain ⟨p, m, rfl, _⟩ := h
    rfl
  · obtain ⟨p, m, rfl, hP, mb, q⟩ := h
    obtain ⟨dx, d, L1, h1, _, _, pk⟩ := id hP
    refine ⟨_, (pss_cons (ps_set (i := 1) scPlanCome.nd rfl (Or.inl rfl) (pe_methO0 Pc PT.oc.cl (hr.mono (by decide)) pass0 (pv 0)))
  (pss_one (ps_ret (pe_makeO Om (hr.mono (by decide)) pass0 (pa_cons (pe_lc2 (own := [("opening", 2), ("many", 3), ("kind", 4), ("each", 5)]) (vs1 := [4, 5]) (g := gTup _ 2 (gCons (gName 2) (gCons (gName 3) gNil))) (g1 := gTup _ 2 (gCons (gName 4) (gCons (gName 5) gNil))) (tt := tYes) (tt1 := tYes) rfl scPlanCome.nd (pi_list (pv 1)) (blkOk_by (N := ["self", "rows", "opening", "many", "kind", "each"]) (sc := defScope sPlanCome) (by decide +kernel)) (by decide) (fun _ _ _ _ _ => (pg_tup rfl (pgs_cons (pg_name (i := 2) scPlanCome.nd rfl (Or.inl rfl)) (pgs_cons (pg_name (i := 3) scPlanCome.nd rfl (Or.inl rfl)) pgs_nil)))) (fun _ _ _ _ _ => pts_nil) (fun _ _ _ _ _ => (pi_tupK K (pe_methO0 Op L.oc.cl (hr.mono (by decide)) pass0 (pe_propO Ocn O.oc.cl (hr.mono (by decide)) pass0 (pv 2) rfl)))) (fun _ _ _ _ _ => (pg_tup rfl (pgs_cons (pg_name (i := 4) scPlanCome.nd rfl (Or.inl rfl)) (pgs_cons (pg_name (i := 5) scPlanCome.nd rfl (Or.inl rfl)) pgs_nil)))) (fun _ _ _ _ _ => pts_nil) (fun _ _ _ _ _ => (pe_tup (pa_cons (pv 4) (pa_cons (pe_op op_mulW (pv 5) (pv 3)) pa_nil))))) pa_nil))))), ?_⟩
    walk_at "in"
    walk_at "go"
    refine r_meth0 ?_
    walk_at "go"
    refine ⟨p, dx, _, rfl, h1, lookP, p, m, rfl, hP, fun D ts cs H1 hD hD1 hts pm asc s1 => ?_⟩
    walk_at "go"
    refine r_mk ?_
    walk_at "go"
    refine r_lc2 ?_
    walk_at "go"
    intro D2 hD2
    have l1 := Paired.len hts
    have l3 := pk.ln
    have l5 := pm.length_eq
    have pok := pk.perm pm
    have ecs := pok.es
    refine lc2_it (walk_list (xs := ts)) (fun i H' => ∃ us, H' D2 = some (.lst us) ∧ Paired (PrA H') us (comeL (cs.take i)) ∧ Same H1 H') ?_ ?_ ?_ ?_
    · exact ⟨[], upd_same, .nil, fun c o e => upd_at e (ne_of_none e hD2)⟩
    · rintro i H' _ ⟨_, _, _, s2⟩
      exact SqL.of (s2 _ _ hD1)
    · rintro i x _ H2 hi ⟨us, hT, hus, s2⟩ ⟨rfl, hx⟩
      obtain ⟨c, hc, t, o, rfl, ht, ho⟩ := Paired.at hts hx
      have hcm := List.mem_of_getElem? hc
      have rok := pok.ok c hcm
      obtain ⟨mb1, mb2⟩ := mb c (pm.mem_iff.mp hcm)
      have ht2 := s2 _ _ ht
      have ho2 := ho.same s2
      obtain ⟨dxo, to, tso, eo, _, _⟩ := id ho2
      walk_at "go"
      refine ⟨rfl, r_yes (iteT ?_)⟩
      walk_at "go"
      refine r_meth0 (r_prop (r_var rfl ⟨o, dxo, _, rfl, eo, o, c.1.1, c.1.2, rfl, ho2, by have := rok.ln; omega, fun z hz => Int.le_of_lt (rok.pos z hz).1, fun y m' H3 hy Ly hg s3 => ?_⟩))
      have cn : My.Cn m' c.1.2 := cn_tot Ly.lo.nd rok.nd (fun p hp => (rok.pos p hp).1) (up_ple rok.up) hg
      obtain ⟨⟨dl, dxl, hxl, _⟩, _, _, _⟩ := id Ly.lo
      refine ⟨y, dxl, _, rfl, hxl, look1, y, m', rfl, Ly.lo, fun pt vs qs H4 hpt hpt4 hvs cn2 s4 => ?_⟩
      obtain rfl : qs = c.1.2 := cn_unique Ly.lo.nd Ly.lo.nd cn2 cn fun _ _ => rfl
      have s14 : Same H1 H4 := fun z o e => s4 _ _ (s3 _ _ (s2 _ _ e))
      have hT4 := s4 _ _ (s3 _ _ hT)
      have hus4 := PrA.all (PrA.all hus s3) s4
      have nptD : pt ≠ D2 := fun z => by rw [z, hT4] at hpt4; cases hpt4
      have lvs := Paired.len hvs
      have hesum : (comeL (cs.take i)).length + c.1.2.length ≤ 28 := by
        have h5 := congrArg List.length (comeL_take hc)
        rw [List.length_append, List.length_map, comeL_len] at h5
        have h6 : esum (pkeys (cs.take (i + 1))) ≤ esum (pkeys cs) := esum_sub ((List.take_sublist _ _).map _)
        omega
      refine ⟨pt, rfl, ⟨_, SqT.of hpt4⟩, in_it (walk_tup (xs := vs)) (fun j H' => ∃ us2, H' D2 = some (.lst us2) ∧ Paired (PrA H') us2 (comeL (cs.take i) ++ (c.1.2.take j).map fun p => (p.1, p.2 * c.2)) ∧ Kp D2 H4 H') ?_ ?_ ?_ ?_⟩
      · exact ⟨us, hT4, by rw [List.take_zero, List.map_nil, List.append_nil]; exact hus4, fun _ _ e _ => e⟩
      · rintro j H' _ ⟨_, _, _, k5⟩
        exact SqT.of (k5 _ _ hpt4 nptD)
      · rintro j x _ H5 hj ⟨us2, hT5, hus5, k5⟩ ⟨rfl, hx2⟩
        obtain ⟨pr, hpr, u, rfl, hu4⟩ := Paired.at hvs hx2
        have hu5 := k5 _ _ hu4 fun z => by rw [z, hT4] at hu4; cases hu4
        walk_at "go"
        refine ⟨rfl, r_yes (iteT ?_)⟩
        walk_at "go"
        refine r_I (wide_mul (mb2 pr (List.mem_of_getElem? hpr)) mb1 (by decide) (by decide) (by decide)) ?_
        walk_at "go"
        rename_i t2 ht2'
        have s6 : Same H5 (upd H5 t2 (.tup [V.str pr.1, V.int (pr.2 * c.2)])) := fun z o e => upd_at e (ne_of_none e ht2')
        have ht6 : upd H5 t2 (.tup [V.str pr.1, V.int (pr.2 * c.2)]) t2 = some (.tup [V.str pr.1, V.int (pr.2 * c.2)]) := upd_same
        generalize upd H5 t2 (.tup [V.str pr.1, V.int (pr.2 * c.2)]) = H6 at s6 ht6 ⊢
        have hT6 := s6 _ _ hT5
        have lus := Paired.len hus5
        rw [List.length_append, List.length_map, List.length_take] at lus
        refine ⟨us2, hT6, szl (by omega), us2 ++ [.ref t2], upd_same, ?_, fun z o e n => by rw [upd_ne n]; exact s6 _ _ (k5 _ _ e n)⟩
        rw [List.take_add_one, hpr, List.map_append, ← List.append_assoc]
        exact pr_push hT6 (PrA.all hus5 s6) ⟨t2, rfl, ht6⟩
      · rintro H5 ⟨us2, hT5, hus5, k5⟩
        rw [lvs, List.take_length] at hus5
        exact ⟨us2, hT5, by rw [comeL_take hc]; exact hus5, fun z o e => k5 _ _ (s14 _ _ e) (ne_of_none e hD2)⟩
    · rintro H2 ⟨us, hT, hus, s2⟩
      rw [l1, List.take_length] at hus
      have lus := Paired.len hus
      rw [comeL_len] at lus
      have s02 : Same H H2 := fun c o e => s2 _ _ (s1 _ _ e)
      refine r_nil (init_end hT hus (by omega) (comeL_nn fun x hx => ⟨Int.le_of_lt (pok.ps x hx), pok.ok x hx⟩) fun x m' H' hx La hg s3 => ?_)
      exact q x m' H' (s02.free hx) (La.mono s02) (fun k => by rw [hg, tot_come, wsum_perm pm]) fun z o e => s3 _ _ (s02 _ _ e)
end


def Lk (m m2 : AL) (k0 : Str) : Prop := get m k0 < get m2 k0 ∧ ∀ k, get m k < get m2 k → sle k0 k = true
theorem lk_mem {m m2 : AL} (m0 : ∀ k, 0 ≤ get m k) {k : Str} (h : get m k < get m2 k) : k ∈ keys m2 := by
  by_cases c : k ∈ keys m2
  · exact c
  · rw [get_none c] at h
    have := m0 k
    omega
theorem lk_at {m m2 qs : AL} {k0 : Str} (nd2 : (keys m2).Nodup) (mp2 : ∀ p ∈ m2, 0 < p.2) (m0 : ∀ k, 0 ≤ get m k) (h : Lk m m2 k0) (cn : Cn m2 qs) : ∃ j : Nat, qs[j]? = some (k0, get m2 k0) ∧ ∀ (i : Nat) p, i < j → qs[i]? = some p → p.2 ≤ get m p.1 := by
  obtain ⟨r, hr, rfl⟩ := List.mem_map.mp (lk_mem m0 h.1)
  have e1 : get m2 r.1 = r.2 := by unfold get; rw [(look_mem nd2).mpr (show (r.1, r.2) ∈ m2 from hr)]; rfl
  have hq : r ∈ qs := (cn.mem mp2 r).mpr hr
  obtain ⟨j, hj⟩ := List.getElem?_of_mem hq
  refine ⟨j, by rw [e1]; exact hj, fun i p hi hp => ?_⟩
  have hp2 := (cn.mem mp2 p).mp (List.mem_of_getElem? hp)
  have e2 : get m2 p.1 = p.2 := by unfold get; rw [(look_mem nd2).mpr (show (p.1, p.2) ∈ m2 from hp2)]; rfl
  by_cases c : get m p.1 < get m2 p.1
  · exfalso
    have h1 := h.2 p.1 c
    obtain ⟨li, ei⟩ := List.getElem?_eq_some_iff.mp hp
    obtain ⟨lj, ej⟩ := List.getElem?_eq_some_iff.mp hj
    have h2 : ple p r = true := by
      have := List.pairwise_iff_getElem.mp cn.2 i j li lj hi
      rw [ei, ej] at this
      exact this
    have h3 : sle p.1 r.1 = true := by
      unfold ple at h2
      split at h2
      · rename_i z; rw [z]; exact sle_refl _
      · exact h2
    have e3 := sle_anti h1 h3
    have e4 : p = r := by
      have : p.2 = r.2 := by rw [← e1, ← e2, e3]
      cases p; cases r; simp_all
    have nq : qs.Nodup := cn.1.nodup_iff.mpr ((nodup_of_keys nd2).sublist List.filter_sublist)
    have := (List.getElem?_inj li nq).mp (show qs[i]? = qs[j]? by rw [hp, hj, e4])
    omega
  · rw [e2] at c
    omega
/-- what one opening of a row does to a kind's number -/
def dlt (k : Str) (r : Row) : Int := tot r.2 k - (if r.1 = k then 1 else 0)
/-- the numbers behind a plan -/
def aft (g : Str → Int) (m : PL) (k : Str) : Int := g k + wsum m (dlt k)
theorem aft_eq (g : Str → Int) (m : PL) (k : Str) : aft g m k = g k + wsum m (fun r => tot r.2 k) - wsum m (fun r => if r.1 = k then 1 else 0) := by
  have := wsum_sub m (fun r => tot r.2 k) (fun r => if r.1 = k then 1 else 0)
  unfold aft dlt
  rw [this]
  omega
theorem tot_out {m : AL} {k : Str} (h : k ∉ keys m) : tot m k = 0 := by
  induction m with
  | nil => rfl
  | cons p m ih =>
    have h1 : ¬ p.1 = k := fun e => h (by rw [← e]; exact List.mem_cons_self)
    show (if p.1 = k then p.2 else 0) + tot m k = 0
    rw [if_neg h1, ih fun z => h (List.mem_cons_of_mem _ z)]
    rfl
theorem wsum_zero {m : PL} {f : Row → Int} (h : ∀ r ∈ pkeys m, f r = 0) : wsum m f = 0 := by
  induction m with
  | nil => rfl
  | cons x m ih =>
    rw [wsum_cons, h x.1 List.mem_cons_self, ih fun r hr => h r (List.mem_cons_of_mem _ hr)]
    simp
theorem len_ns {m : AL} {ns : List Str} (nd : (keys m).Nodup) (mp : ∀ p ∈ m, 0 < p.2) (h : ∀ k, k ∉ ns → get m k = 0) : m.length ≤ ns.length := by
  have e : (keys m).length = m.length := List.length_map _
  rw [← e]
  refine nodup_sub_len nd fun k hk => Classical.byContradiction fun c => ?_
  obtain ⟨p, hp, rfl⟩ := List.mem_map.mp hk
  have h1 := h p.1 c
  have h2 : get m p.1 = p.2 := by unfold get; rw [(look_mem nd).mpr (show (p.1, p.2) ∈ m from hp)]; rfl
  have := mp p hp
  omega
/-- all kinds of a plan are among ns -/
def InNs (ns : List Str) (m : PL) : Prop := ∀ r ∈ pkeys m, r.1 ∈ ns ∧ ∀ k ∈ keys r.2, k ∈ ns
def SmallP (m : PL) : Prop := ∀ x ∈ m, x.2.natAbs < 2 ^ 300 ∧ ∀ p ∈ x.1.2, p.2.natAbs < 2 ^ 300
section
variable {P : Program} {w : World} {K : PySem.W.Frag} {mg : Str → Option Value} {base : Heap} {C CO CP CS t0 : Addr}
abbrev sPlanLeft : Stmt := inClass (top 23) 13
theorem scPlanLeft : FnScope ["self", "stock", "ask"] ["self", "stock", "ask"] (defScope sPlanLeft) := ⟨rfl, rfl, rfl, by decide +kernel, rfl, by decide +kernel, by decide +kernel⟩
def LeftIn (P : Program) (w : World) (C CP : Addr) (H : Hp) (p s a : Addr) (m : PL) (ms ma : AL) : Prop := PlanA P w CP H p m ∧ LoA C H s ms ∧ LoA C H a ma ∧ SmallP m ∧ ∃ ns : List Str, ns.length ≤ 13 ∧ InNs ns m ∧ (∀ k ∈ keys ms, k ∈ ns) ∧ ∀ k ∈ keys ma, k ∈ ns
def spPlanLeft (P : Program) (w : World) (C CP : Addr) : Sp := fun vs H Q _ => ∃ (p s a : Addr) (m : PL) (ms ma : AL), vs = [.ref p, .ref s, .ref a] ∧ LeftIn P w C CP H p s a m ms ma ∧ (∀ k, get ma k ≤ aft (get ms) m k) ∧
  ∀ (x : Addr) (m' : AL) (H' : Hp), H x = none → LoN C H H' x m' → (∀ k, get m' k = aft (get ms) m k - get ma k) → Same H H' → Q (.ref x) H'
theorem ok_planLeft {f : Addr} {fd : FuncData} (F : Fun K "left" "Plan.left" sPlanLeft f fd) (PT : TxP K CP) (L : TxL K C) (Pgn : OCal P w K mg base CX0 7 CP "gone" ["self"] (spPlanGone P w C CP)) (Pcm : OCal P w K mg base CX0 7 CP "come" ["self"] (spPlanCome P w C CP)) (Oa : OCal P w K mg base CX0 4 C (PySem.dunder Operator.Add.info.2) ["self", "other"] (spLotAdd C)) (Os : OCal P w K mg base CX0 4 C (PySem.dunder Operator.Sub.info.2) ["self", "other"] (spLotSub C)) : FnOk P w K mg base CX0 8 f fd ["self", "stock", "ask"] (spPlanLeft P w C CP) := by
  refine F.ok scPlanLeft (fun vs H Q E h => ?_) (fun cdv A outer s H vs Q E hr h => ?_)
  · obtain ⟨p, s, a, m, ms, ma, rfl, _⟩ := h
    rfl
  · obtain ⟨p, s, a, m, ms, ma, rfl, ⟨hP, Ls, La, sm, ns, lns, ins, kms, kma⟩, le, q⟩ := h
    obtain ⟨dx, d, L1, h1, _, _, pk⟩ := id hP
    obtain ⟨⟨ds, dxs, hs1, hs2⟩, nds, mps, mls⟩ := id Ls
    obtain ⟨⟨da, dxa, ha1, ha2⟩, nda, mpa, mla⟩ := id La
    refine ⟨_, (pss_one (ps_ret (pe_bin Os L.oc (hr.mono (by decide)) passE0 (pe_bin Oa L.oc (hr.mono (by decide)) passE0 (pv 1) (pe_methO0 Pcm PT.oc.cl (hr.mono (by decide)) pass0 (pv 0))) (pe_bin Oa L.oc (hr.mono (by decide)) passE0 (pe_methO0 Pgn PT.oc.cl (hr.mono (by decide)) pass0 (pv 0)) (pv 2))))), ?_⟩
    walk_at "in"
    walk_at "go"
    refine r_opS ?_
    refine r_opS ?_
    walk_at "go"
    refine r_meth0 ?_
    walk_at "go"
    refine ⟨p, dx, _, rfl, h1, lookP, p, m, rfl, hP, sm, fun xc mc H1 hxc Lcn gc s1 => ?_⟩
    have Lc := Lcn.lo
    obtain ⟨⟨dc, dxc, hc1, hc2⟩, ndc, mpc, mlc⟩ := id Lc
    have lc := len_ns ndc mpc (ns := ns) fun k hk => by
      rw [gc]
      exact wsum_zero fun r hr => tot_out fun z => hk ((ins r hr).2 k z)
    have ls := len_ns nds mps (ns := ns) fun k hk => get_none fun z => hk (kms k z)
    have la := len_ns nda mpa (ns := ns) fun k hk => get_none fun z => hk (kma k z)
    refine ⟨s, xc, dxs, dxc, _, _, rfl, rfl, s1 _ _ hs1, hc1, s, xc, ms, mc, rfl, Ls.same s1, Lc, by omega, fun x2 m2 H2 hx2 L2n g2 s2 => ?_⟩
    have L2 := L2n.lo
    obtain ⟨⟨d2, dx2, h21, h22⟩, nd2, mp2, ml2⟩ := id L2
    have s12 : Same H H2 := fun c o e => s2 _ _ (s1 _ _ e)
    refine r_opS ?_
    refine r_meth0 ?_
    walk_at "go"
    refine ⟨p, dx, _, rfl, s12 _ _ h1, lookP, p, m, rfl, hP.same s12, fun xg mgn H3 hxg Lgn gg s3 => ?_⟩
    have Lg := Lgn.lo
    obtain ⟨⟨dg, dxg, hg1, hg2⟩, ndg, mpg, mlg⟩ := id Lg
    have lg := len_ns ndg mpg (ns := ns) fun k hk => by
      rw [gg]
      refine wsum_zero fun r hr => if_neg fun z => hk ?_
      rw [← z]
      exact (ins r hr).1
    have s13 : Same H H3 := fun c o e => s3 _ _ (s12 _ _ e)
    walk_at "go"
    refine ⟨xg, a, dxg, dxa, _, _, rfl, rfl, hg1, s13 _ _ ha1, xg, a, mgn, ma, rfl, Lg, La.same s13, by omega, fun x4 m4 H4 hx4 L4n g4 s4 => ?_⟩
    have L4 := L4n.lo
    obtain ⟨⟨d4, dx4, h41, h42⟩, nd4, mp4, ml4⟩ := id L4
    have s24 : Same H2 H4 := fun c o e => s4 _ _ (s3 _ _ e)
    have s14 : Same H H4 := fun c o e => s24 _ _ (s12 _ _ e)
    have ea : ∀ k, aft (get ms) m k = get m2 k - get mgn k := fun k => by rw [aft_eq, g2, gc, gg]
    refine ⟨x2, x4, dx2, dx4, _, _, rfl, rfl, s24 _ _ h21, h41, x2, x4, m2, m4, rfl, L2.same s24, L4, fun k => ?_, fun x m' H' hx L5 g5 s5 => ?_⟩
    · have := le k
      rw [ea] at this
      rw [g4]
      omega
    · exact q x m' H' (s14.free hx) (L5.mono s14) (fun k => by rw [g5, g4, ea]; omega) fun c o e => s5 _ _ (s14 _ _ e)
abbrev sPlanLeftX : Stmt := inClass (top 23) 13
theorem scPlanLeftX : FnScope ["self", "stock", "ask"] ["self", "stock", "ask"] (defScope sPlanLeftX) := ⟨rfl, rfl, rfl, by decide +kernel, rfl, by decide +kernel, by decide +kernel⟩
def spPlanLeftX (P : Program) (w : World) (C CP CS : Addr) : Sp := fun vs H Q E => ∃ (p s a : Addr) (m : PL) (ms ma : AL) (k0 : Str), vs = [.ref p, .ref s, .ref a] ∧ LeftIn P w C CP H p s a m ms ma ∧ aft (get ms) m k0 < get ma k0 ∧ (∀ k, aft (get ms) m k < get ma k → sle k0 k = true) ∧
  ∀ (d : Addr) (H' : Hp), H d = none → Same H H' → H' d = some (.xd [("lacking", .int (get ma k0 - aft (get ms) m k0)), ("kind", .str k0)]) → E (.ref CS) (some d) H'
theorem ok_planLeftX {f : Addr} {fd : FuncData} (F : Fun K "left" "Plan.left" sPlanLeftX f fd) (PT : TxP K CP) (L : TxL K C) (Pgn : OCal P w K mg base CX0 7 CP "gone" ["self"] (spPlanGone P w C CP)) (Pcm : OCal P w K mg base CX0 7 CP "come" ["self"] (spPlanCome P w C CP)) (Oa : OCal P w K mg base CX0 4 C (PySem.dunder Operator.Add.info.2) ["self", "other"] (spLotAdd C)) (Os : OCal P w K mg base (CX P w) 4 C (PySem.dunder Operator.Sub.info.2) ["self", "other"] (spLotSubX C CS)) : FnOk P w K mg base (CX P w) 8 f fd ["self", "stock", "ask"] (spPlanLeftX P w C CP CS) := by
  refine F.okX scPlanLeftX (fun vs H Q E h => ?_) (fun cdv A outer s H vs Q E hr h => ?_)
  · obtain ⟨p, s, a, m, ms, ma, k0, rfl, _⟩ := h
    rfl
  · obtain ⟨p, s, a, m, ms, ma, k0, rfl, ⟨hP, Ls, La, sm, ns, lns, ins, kms, kma⟩, lt, mn, q⟩ := h
    obtain ⟨dx, d, L1, h1, _, _, pk⟩ := id hP
    obtain ⟨⟨ds, dxs, hs1, hs2⟩, nds, mps, mls⟩ := id Ls
    obtain ⟨⟨da, dxa, ha1, ha2⟩, nda, mpa, mla⟩ := id La
    refine ⟨_, (pss_one (ps_ret (pe_bin Os L.oc (hr.mono (by decide)) (passTk (takes_of rfl rfl rfl rfl)) (pe_bin Oa L.oc (hr.mono (by decide)) passE0 (pv 1) (pe_methO0 Pcm PT.oc.cl (hr.mono (by decide)) pass0 (pv 0))) (pe_bin Oa L.oc (hr.mono (by decide)) passE0 (pe_methO0 Pgn PT.oc.cl (hr.mono (by decide)) pass0 (pv 0)) (pv 2))))), ?_⟩
    walk_at "in"
    walk_at "go"
    refine r_opS ?_
    refine r_opS ?_
    walk_at "go"
    refine r_meth0 ?_
    walk_at "go"
    refine ⟨p, dx, _, rfl, h1, lookP, p, m, rfl, hP, sm, fun xc mc H1 hxc Lcn gc s1 => ?_⟩
    have Lc := Lcn.lo
    obtain ⟨⟨dc, dxc, hc1, hc2⟩, ndc, mpc, mlc⟩ := id Lc
    have lc := len_ns ndc mpc (ns := ns) fun k hk => by
      rw [gc]
      exact wsum_zero fun r hr => tot_out fun z => hk ((ins r hr).2 k z)
    have ls := len_ns nds mps (ns := ns) fun k hk => get_none fun z => hk (kms k z)
    have la := len_ns nda mpa (ns := ns) fun k hk => get_none fun z => hk (kma k z)
    refine ⟨s, xc, dxs, dxc, _, _, rfl, rfl, s1 _ _ hs1, hc1, s, xc, ms, mc, rfl, Ls.same s1, Lc, by omega, fun x2 m2 H2 hx2 L2n g2 s2 => ?_⟩
    have L2 := L2n.lo
    obtain ⟨⟨d2, dx2, h21, h22⟩, nd2, mp2, ml2⟩ := id L2
    have s12 : Same H H2 := fun c o e => s2 _ _ (s1 _ _ e)
    refine r_opS ?_
    refine r_meth0 ?_
    walk_at "go"
    refine ⟨p, dx, _, rfl, s12 _ _ h1, lookP, p, m, rfl, hP.same s12, fun xg mgn H3 hxg Lgn gg s3 => ?_⟩
    have Lg := Lgn.lo
    obtain ⟨⟨dg, dxg, hg1, hg2⟩, ndg, mpg, mlg⟩ := id Lg
    have lg := len_ns ndg mpg (ns := ns) fun k hk => by
      rw [gg]
      refine wsum_zero fun r hr => if_neg fun z => hk ?_
      rw [← z]
      exact (ins r hr).1
    have s13 : Same H H3 := fun c o e => s3 _ _ (s12 _ _ e)
    walk_at "go"
    refine ⟨xg, a, dxg, dxa, _, _, rfl, rfl, hg1, s13 _ _ ha1, xg, a, mgn, ma, rfl, Lg, La.same s13, by omega, fun x4 m4 H4 hx4 L4n g4 s4 => ?_⟩
    have L4 := L4n.lo
    obtain ⟨⟨d4, dx4, h41, h42⟩, nd4, mp4, ml4⟩ := id L4
    have s24 : Same H2 H4 := fun c o e => s4 _ _ (s3 _ _ e)
    have s14 : Same H H4 := fun c o e => s24 _ _ (s12 _ _ e)
    have ea : ∀ k, aft (get ms) m k = get m2 k - get mgn k := fun k => by rw [aft_eq, g2, gc, gg]
    have lk : Lk m2 m4 k0 := ⟨by rw [ea] at lt; rw [g4]; omega, fun k hk => mn k (by rw [g4] at hk; rw [ea]; omega)⟩
    obtain ⟨qs, cn⟩ := cn_ex m4
    obtain ⟨j, hj, bef⟩ := lk_at nd4 mp4 (get_nn mp2 nd2) lk cn
    refine ⟨x2, x4, dx2, dx4, _, _, rfl, rfl, s24 _ _ h21, h41, x2, x4, m2, m4, qs, j, (k0, get m4 k0), rfl, L2.same s24, L4, cn, hj, lk.1, bef, fun d' H' hd' s5 hx' => ?_⟩
    refine q d' H' (s14.free hd') (fun c o e => s5 _ _ (s14 _ _ e)) ?_
    rw [hx']
    have e5 : get m4 k0 - get m2 k0 = get ma k0 - aft (get ms) m k0 := by rw [g4, ea]; omega
    show some (HO.xd [("lacking", .int (get m4 k0 - get m2 k0)), ("kind", .str k0)]) = _
    rw [e5]
abbrev sPlanAfter : Stmt := inClass (top 23) 12
theorem scPlanAfter : FnScope ["self", "stock"] ["self", "stock"] (defScope sPlanAfter) := ⟨rfl, rfl, rfl, by decide +kernel, rfl, by decide +kernel, by decide +kernel⟩
def spPlanAft (P : Program) (w : World) (C CP : Addr) : Sp := fun vs H Q _ => ∃ (p s : Addr) (m : PL) (ms : AL) (ns : List Str), vs = [.ref p, .ref s] ∧ PlanA P w CP H p m ∧ LoA C H s ms ∧ SmallP m ∧ ns.length ≤ 13 ∧ InNs ns m ∧ (∀ k ∈ keys ms, k ∈ ns) ∧ (∀ k, 0 ≤ aft (get ms) m k) ∧
  ∀ (x : Addr) (m' : AL) (H' : Hp), H x = none → LoN C H H' x m' → (∀ k, get m' k = aft (get ms) m k) → Same H H' → Q (.ref x) H'
theorem ok_planAft {f : Addr} {fd : FuncData} (F : Fun K "after" "Plan.after" sPlanAfter f fd) (PT : TxP K CP) (OmD : OMkK P w K mg base CX0 2 C "Lot" ["self", "pairs"] [] (fun vs _ => vs ++ [.ref t0]) (spLotInitT K C)) (e0 : ∀ H, SqT K H t0 []) (Plf : OCal P w K mg base CX0 8 CP "left" ["self", "stock", "ask"] (spPlanLeft P w C CP)) : FnOk P w K mg base CX0 9 f fd ["self", "stock"] (spPlanAft P w C CP) := by
  refine F.ok scPlanAfter (fun vs H Q E h => ?_) (fun cdv A outer s H vs Q E hr h => ?_)
  · obtain ⟨p, s, m, ms, ns, rfl, _⟩ := h
    rfl
  · obtain ⟨p, s, m, ms, ns, rfl, hP, Ls, sm, lns, ins, kms, le, q⟩ := h
    obtain ⟨dx, d, L1, h1, _, _, pk⟩ := id hP
    refine ⟨_, (pss_one (ps_ret (pe_methO Plf PT.oc.cl (hr.mono (by decide)) pass0 (pv 0) (pa_cons (pv 1) (pa_cons (pe_makeOK OmD (hr.mono (by decide)) pass0 pk_nil) pa_nil))))), ?_⟩
    walk_at "in"
    walk_at "go"
    refine r_var rfl ⟨p, dx, _, rfl, h1, lookP, ?_⟩
    walk_at "go"
    refine r_makeK ?_
    walk_at "go"
    refine ⟨rfl, rfl, ?_⟩
    refine initT_end (ps := []) (e0 _) .nil (by decide) (fun q hq => (nomatch hq)) fun y m' Ha hy4 Ly hg sa => ?_
    have m0 : m' = [] := nil_of Ly.lo.nd Ly.lo.ps fun k => by rw [hg]; rfl
    subst m0
    walk_at "go"
    refine ⟨p, s, y, m, ms, [], rfl, ⟨hP.same sa, Ls.same sa, Ly.lo, sm, ns, lns, ins, kms, fun _ h => (nomatch h)⟩, le, fun x m' H' hx Lx g s2 => ?_⟩
    exact q x m' H' (sa.free hx) (Lx.mono sa) (fun k => by rw [g]; exact Int.sub_zero _) fun c o e => s2 _ _ (sa _ _ e)
abbrev sPlanAfterX : Stmt := inClass (top 23) 12
theorem scPlanAfterX : FnScope ["self", "stock"] ["self", "stock"] (defScope sPlanAfterX) := ⟨rfl, rfl, rfl, by decide +kernel, rfl, by decide +kernel, by decide +kernel⟩
def spPlanAftX (P : Program) (w : World) (C CP CS : Addr) : Sp := fun vs H Q E => ∃ (p s : Addr) (m : PL) (ms : AL) (ns : List Str) (k0 : Str), vs = [.ref p, .ref s] ∧ PlanA P w CP H p m ∧ LoA C H s ms ∧ SmallP m ∧ ns.length ≤ 13 ∧ InNs ns m ∧ (∀ k ∈ keys ms, k ∈ ns) ∧ aft (get ms) m k0 < 0 ∧ (∀ k, aft (get ms) m k < 0 → sle k0 k = true) ∧
  ∀ (d : Addr) (H' : Hp), H d = none → Same H H' → H' d = some (.xd [("lacking", .int (- aft (get ms) m k0)), ("kind", .str k0)]) → E (.ref CS) (some d) H'
theorem ok_planAftX {f : Addr} {fd : FuncData} (F : Fun K "after" "Plan.after" sPlanAfterX f fd) (PT : TxP K CP) (OmD : OMkK P w K mg base CX0 2 C "Lot" ["self", "pairs"] [] (fun vs _ => vs ++ [.ref t0]) (spLotInitT K C)) (e0 : ∀ H, SqT K H t0 []) (Plf : OCal P w K mg base (CX P w) 8 CP "left" ["self", "stock", "ask"] (spPlanLeftX P w C CP CS)) : FnOk P w K mg base (CX P w) 9 f fd ["self", "stock"] (spPlanAftX P w C CP CS) := by
  refine F.okX scPlanAfterX (fun vs H Q E h => ?_) (fun cdv A outer s H vs Q E hr h => ?_)
  · obtain ⟨p, s, m, ms, ns, k0, rfl, _⟩ := h
    rfl
  · obtain ⟨p, s, m, ms, ns, k0, rfl, hP, Ls, sm, lns, ins, kms, lt, mn, q⟩ := h
    obtain ⟨dx, d, L1, h1, _, _, pk⟩ := id hP
    refine ⟨_, (pss_one (ps_ret (pe_meR Plf PT.oc.cl (hr.mono (by decide)) (fun σ => passAt (takes_of rfl rfl rfl rfl) σ) (pv 0) (pa_cons (pv 1) (pa_cons (pe_makeOK OmD (hr.mono (by decide)) pass0 pk_nil) pa_nil))))), ?_⟩
    walk_at "in"
    walk_at "go"
    refine r_var rfl ⟨p, dx, _, rfl, h1, lookP, ?_⟩
    walk_at "go"
    refine r_makeK ?_
    walk_at "go"
    refine ⟨rfl, rfl, ?_⟩
    refine initT_end (ps := []) (e0 _) .nil (by decide) (fun q hq => (nomatch hq)) fun y m' Ha hy4 Ly hg sa => ?_
    have m0 : m' = [] := nil_of Ly.lo.nd Ly.lo.ps fun k => by rw [hg]; rfl
    subst m0
    walk_at "go"
    refine ⟨p, s, y, m, ms, [], k0, rfl, ⟨hP.same sa, Ls.same sa, Ly.lo, sm, ns, lns, ins, kms, fun _ h => (nomatch h)⟩, lt, mn, fun d' H' hd' s2 hx' => ?_⟩
    refine q d' H' (sa.free hd') (fun c o e => s2 _ _ (sa _ _ e)) ?_
    rw [hx']
    have e5 : get [] k0 - aft (get ms) m k0 = - aft (get ms) m k0 := Int.zero_sub _
    rw [e5]
end


section
variable {P : Program} {w : World} {K : PySem.W.Frag} {mg : Str → Option Value} {base : Heap} {C CO CB : Addr}
abbrev sAny : Stmt := top 37
theorem scAny : FnScope ["_law_box_here", "_law_names_here", "_law_far", "_law_sort"] ["_law_box_here", "_law_names_here", "_law_far"] (defScope sAny) := ⟨rfl, rfl, rfl, by decide +kernel, rfl, by decide +kernel, by decide +kernel⟩
def spAny : Sp := fun vs H Q _ => ∃ (a l : Addr) (ns : List Str) (far : Int) (b : Nat), vs = [.ref a, .ref l, .int far] ∧ 0 < far ∧ far < 2 ^ 100 ∧ Bx H a (b + 101) ∧ H l = some (.lst (ns.map V.str)) ∧ l ≠ a ∧ ns.Nodup ∧ (∀ k ∈ ns, KindS k) ∧ ns.length ≤ 8 ∧
  ∀ (p : Addr) (ts : List V) (rows : List Row) (H' : Hp), H p = none → H' p = some (.lst ts) → Paired (RwV H') ts rows → Drawn ns far rows → Bx H' a b → Kp a H H' → Q (.ref p) H'
theorem ok_any {f : Addr} {fd : FuncData} (F : Fun K "_law_any" "_law_any" sAny f fd) (T : Txt K mg) (Ct : Cal P w K mg base CX0 1 "_law_take" ["_law_box_here", "_law_below"] spTake) (C1 : Cal P w K mg base CX0 2 "_law_tree" ["_law_box_here", "_law_names_here", "_law_far"] (spDraw id)) (C2 : Cal P w K mg base CX0 2 "_law_ways" ["_law_box_here", "_law_names_here", "_law_far"] (spDraw id)) (C3 : Cal P w K mg base CX0 2 "_law_single" ["_law_box_here", "_law_names_here", "_law_far"] (spDraw id)) : FnOk P w K mg base CX0 3 f fd ["_law_box_here", "_law_names_here", "_law_far"] spAny := by
  refine F.ok scAny (fun vs H Q E h => ?_) (fun cdv A outer s H vs Q E hr h => ?_)
  · obtain ⟨a, l, ns, far, b, rfl, _⟩ := h
    rfl
  · obtain ⟨a, l, ns, far, b, rfl, f0, f1, hb, hl, nla, nd, ks, ln, q⟩ := h
    refine ⟨_, (pss_cons (ps_set (i := 3) scAny.nd rfl (Or.inl rfl) (pe_cal Ct (hr.mono (by decide)) pass0 (pa_cons (pv 0) (pa_cons pe_int pa_nil))))
  (pss_cons (ps_if (pt_cmpR op_eq (pv 3) pe_int (nomark _))
  (pss_one (ps_ret (pe_cal C1 (hr.mono (by decide)) pass0 (pa_cons (pv 0) (pa_cons (pv 1) (pa_cons (pv 2) pa_nil))))))
  pss_nil)
  (pss_one (ps_ret (pe_ifExp (pt_cmpR op_eq (pv 3) pe_int (nomark _)) (pe_cal C2 (hr.mono (by decide)) pass0 (pa_cons (pv 0) (pa_cons (pv 1) (pa_cons (pv 2) pa_nil)))) (pe_cal C3 (hr.mono (by decide)) pass0 (pa_cons (pv 0) (pa_cons (pv 1) (pa_cons (pv 2) pa_nil))))))))), ?_⟩
    walk_at "in"
    walk_at "go"
    refine ⟨a, b + 100, 3, rfl, hb, by omega, by omega, fun d H1 d0 d1 bx1 kp1 => ?_⟩
    have hl1 := kp1 _ _ hl nla
    have fin : ∀ (p : Addr) (ts : List V) (rows : List Row) (H' : Hp), H1 p = none → H' p = some (.lst ts) → Paired (RwV H') ts rows → Drawn ns far rows → Bx H' a b → Kp a H1 H' → Q (.ref p) H' :=
      fun p ts rows H' hp hp' hts dr bx kp => q p ts rows H' (kp_free kp1 bx1 hp) hp' hts dr bx fun c o e n => kp _ _ (kp1 _ _ e n) n
    walk_at "go"
    refine ite_d (fun _ => ?_) fun _ => ?_
    · walk_at "go"
      exact ⟨a, l, ns, far, b, rfl, f0, f1, bx1, hl1, nla, nd, ks, ln, fin⟩
    · walk_at "go"
      refine ite_d (fun _ => ?_) fun _ => ?_
      · walk_at "go"
        exact ⟨a, l, ns, far, b, rfl, f0, f1, bx1, hl1, nla, nd, ks, ln, fin⟩
      · walk_at "go"
        exact ⟨a, l, ns, far, b, rfl, f0, f1, bx1, hl1, nla, nd, ks, ln, fin⟩
end


section
variable {P : Program} {w : World} {K : PySem.W.Frag} {mg : Str → Option Value} {base : Heap}
abbrev sCounted : Stmt := top 33
theorem scCounted : FnScope ["_law_pairs_so", "_law_done", "_law_own", "_law_far"] ["_law_pairs_so"] (defScope sCounted) := ⟨rfl, rfl, rfl, by decide +kernel, rfl, by decide +kernel, by decide +kernel⟩
def spCounted (K : PySem.W.Frag) : Sp := fun vs H Q _ => ∃ (l : Addr) (xs : List V) (ps : AL), vs = [.ref l] ∧ SqL K H l xs ∧ Paired (PrA H) xs ps ∧ xs.length ≤ 1000 ∧
  ∀ (d : Addr) (m : AL) (H' : Hp), H d = none → H' d = some (.dK (enc m)) → (keys m).Nodup → (∀ k, get m k = tot ps k) → (∀ k ∈ keys m, k ∈ keys ps) → m.length ≤ xs.length → Same H H' → Q (.ref d) H'
theorem ok_counted {f : Addr} {fd : FuncData} (F : Fun K "_law_counted" "_law_counted" sCounted f fd) (T : Txt K mg) : FnOk P w K mg base CX0 1 f fd ["_law_pairs_so"] (spCounted K) := by
  refine F.ok scCounted (fun vs H Q E h => ?_) (fun cdv A outer s H vs Q E hr h => ?_)
  · obtain ⟨l, xs, ps, rfl, _⟩ := h
    rfl
  · obtain ⟨l, xs, ps, rfl, hl, hps, h1000, q⟩ := h
    have hu := hu_of hr
    refine ⟨_, (pss_cons (ps_set (i := 1) scCounted.nd rfl (Or.inl rfl) pe_dnewK)
  (pss_cons (ps_for PassesOwn.never rfl (pi_list (pv 0)) (pg_tup rfl (pgs_cons (pg_name (i := 2) scCounted.nd rfl (Or.inl rfl)) (pgs_cons (pg_name (i := 3) scCounted.nd rfl (Or.inl rfl)) pgs_nil)))
  (pss_one (ps_dput hu (pv 1) (pv 2) (pe_op op_add (pe_dget2 hu (pv 1) (pv 2) pe_int ⟨rfl, rfl, rfl, rfl⟩) (pv 3)) rfl)))
  (pss_one (ps_ret (pv 1))))), ?_⟩
    walk_at "in"
    walk_at "go"
    rename_i d hd
    have lps := Paired.len hps
    refine for_it (walk_list (xs := xs)) (fun i σ H' => ∃ (m : AL) (x2 x3 : Option V), σ = [some (.ref l), some (.ref d), x2, x3] ∧ H' d = some (.dK (enc m)) ∧ (keys m).Nodup ∧ (∀ k, get m k = tot (ps.take i) k) ∧ (∀ k ∈ keys m, k ∈ keys ps) ∧ m.length ≤ i ∧ Same H H') ?_ ?_ ?_ ?_
    · exact ⟨[], none, none, rfl, upd_same, List.nodup_nil, fun k => rfl, fun k h => by simp [keys] at h, Nat.le_refl _, fun c o e => by walk_at "hp"⟩
    · rintro i σ H' _ ⟨_, _, _, _, _, _, _, _, _, s1⟩
      exact s1.seq hl
    · rintro i x σ _ H1 hi ⟨m, x2, x3, rfl, hm, nd, hg, hk, lm, s1⟩ ⟨rfl, hx⟩
      obtain ⟨p, hp, t, rfl, ht⟩ := Paired.at hps hx
      walk_at "go"
      refine ⟨Or.inl ⟨enc m, Or.inl hm⟩, ?_⟩
      walk_at "go"
      refine ⟨_, DGet_enc (r := look m p.1) (Or.inl hm) rfl, ?_⟩
      rw [get_look]
      walk_at "go"
      refine ⟨d, _, rfl, DPut_enc hm (szl (by omega)), put m p.1 (get m p.1 + p.2), _, _, rfl, upd_same, put_nodup nd, fun k => ?_, fun k h => ?_, ?_, fun c o e => ?_⟩
      · rw [get_put, tot_take hp, ← hg k]
        by_cases c : k = p.1
        · rw [if_pos c, if_pos c.symm, c]
        · rw [if_neg c, if_neg (Ne.symm c), Int.add_zero]
      · rw [keys_put] at h
        have hpk : p.1 ∈ keys ps := List.mem_map.mpr ⟨p, List.mem_of_getElem? hp, rfl⟩
        split at h
        · exact hk k h
        · rcases List.mem_append.mp h with h | h
          · exact hk k h
          · have : k = p.1 := by simpa using h
            rw [this]
            exact hpk
      · have := put_len m p.1 (get m p.1 + p.2)
        omega
      · have n1 : c ≠ d := ne_of_none e hd
        walk_at "hp"
    · rintro σ H1 ⟨m, x2, x3, rfl, hm, nd, hg, hk, lm, s1⟩
      walk_at "go"
      refine q d m H1 hd hm nd (fun k => ?_) hk lm s1
      have e := hg k
      rw [lps, List.take_length] at e
      exact e
end


section
variable {P : Program} {w : World} {K : PySem.W.Frag} {mg : Str → Option Value} {base : Heap}
def spCountedT (K : PySem.W.Frag) : Sp := fun vs H Q _ => ∃ (l : Addr) (xs : List V) (ps : AL), vs = [.ref l] ∧ SqT K H l xs ∧ Paired (PrA H) xs ps ∧ xs.length ≤ 1000 ∧
  ∀ (d : Addr) (m : AL) (H' : Hp), H d = none → H' d = some (.dK (enc m)) → (keys m).Nodup → (∀ k, get m k = tot ps k) → (∀ k ∈ keys m, k ∈ keys ps) → m.length ≤ xs.length → Same H H' → Q (.ref d) H'
theorem ok_countedT {f : Addr} {fd : FuncData} (F : Fun K "_law_counted" "_law_counted" sCounted f fd) (T : Txt K mg) : FnOk P w K mg base CX0 1 f fd ["_law_pairs_so"] (spCountedT K) := by
  refine F.ok scCounted (fun vs H Q E h => ?_) (fun cdv A outer s H vs Q E hr h => ?_)
  · obtain ⟨l, xs, ps, rfl, _⟩ := h
    rfl
  · obtain ⟨l, xs, ps, rfl, hl, hps, h1000, q⟩ := h
    have hu := hu_of hr
    refine ⟨_, (pss_cons (ps_set (i := 1) scCounted.nd rfl (Or.inl rfl) pe_dnewK)
  (pss_cons (ps_for PassesOwn.never rfl (pi_tup (pv 0)) (pg_tup rfl (pgs_cons (pg_name (i := 2) scCounted.nd rfl (Or.inl rfl)) (pgs_cons (pg_name (i := 3) scCounted.nd rfl (Or.inl rfl)) pgs_nil)))
  (pss_one (ps_dput hu (pv 1) (pv 2) (pe_op op_add (pe_dget2 hu (pv 1) (pv 2) pe_int ⟨rfl, rfl, rfl, rfl⟩) (pv 3)) rfl)))
  (pss_one (ps_ret (pv 1))))), ?_⟩
    walk_at "in"
    walk_at "go"
    rename_i d hd
    have lps := Paired.len hps
    refine for_it (walk_tup (xs := xs)) (fun i σ H' => ∃ (m : AL) (x2 x3 : Option V), σ = [some (.ref l), some (.ref d), x2, x3] ∧ H' d = some (.dK (enc m)) ∧ (keys m).Nodup ∧ (∀ k, get m k = tot (ps.take i) k) ∧ (∀ k ∈ keys m, k ∈ keys ps) ∧ m.length ≤ i ∧ Same H H') ?_ ?_ ?_ ?_
    · exact ⟨[], none, none, rfl, upd_same, List.nodup_nil, fun k => rfl, fun k h => by simp [keys] at h, Nat.le_refl _, fun c o e => by walk_at "hp"⟩
    · rintro i σ H' _ ⟨_, _, _, _, _, _, _, _, _, s1⟩
      exact SqT.same hl s1
    · rintro i x σ _ H1 hi ⟨m, x2, x3, rfl, hm, nd, hg, hk, lm, s1⟩ ⟨rfl, hx⟩
      obtain ⟨p, hp, t, rfl, ht⟩ := Paired.at hps hx
      walk_at "go"
      refine ⟨Or.inl ⟨enc m, Or.inl hm⟩, ?_⟩
      walk_at "go"
      refine ⟨_, DGet_enc (r := look m p.1) (Or.inl hm) rfl, ?_⟩
      rw [get_look]
      walk_at "go"
      refine ⟨d, _, rfl, DPut_enc hm (szl (by omega)), put m p.1 (get m p.1 + p.2), _, _, rfl, upd_same, put_nodup nd, fun k => ?_, fun k h => ?_, ?_, fun c o e => ?_⟩
      · rw [get_put, tot_take hp, ← hg k]
        by_cases c : k = p.1
        · rw [if_pos c, if_pos c.symm, c]
        · rw [if_neg c, if_neg (Ne.symm c), Int.add_zero]
      · rw [keys_put] at h
        have hpk : p.1 ∈ keys ps := List.mem_map.mpr ⟨p, List.mem_of_getElem? hp, rfl⟩
        split at h
        · exact hk k h
        · rcases List.mem_append.mp h with h | h
          · exact hk k h
          · have : k = p.1 := by simpa using h
            rw [this]
            exact hpk
      · have := put_len m p.1 (get m p.1 + p.2)
        omega
      · have n1 : c ≠ d := ne_of_none e hd
        walk_at "hp"
    · rintro σ H1 ⟨m, x2, x3, rfl, hm, nd, hg, hk, lm, s1⟩
      walk_at "go"
      refine q d m H1 hd hm nd (fun k => ?_) hk lm s1
      have e := hg k
      rw [lps, List.take_length] at e
      exact e
end


/-- the numbers behind d openings r -/
def endS (g : Str → Int) (x : Row × Int) : Str → Int := fun k => g k - (if x.1.1 = k then x.2 else 0) + x.2 * tot x.1.2 k
def endG (g : Str → Int) (xs : List (Row × Int)) : Str → Int := xs.foldl endS g
theorem endG_take {g : Str → Int} {xs : List (Row × Int)} {i : Nat} {x : Row × Int} (h : xs[i]? = some x) : endG g (xs.take (i + 1)) = endS (endG g (xs.take i)) x := by
  unfold endG
  rw [List.take_add_one, h, List.foldl_append]
  rfl
theorem get_mem {m : AL} (nd : (keys m).Nodup) {p : Str × Int} (h : p ∈ m) : get m p.1 = p.2 := by
  unfold get
  rw [(look_mem nd).mpr h]
  rfl
section
variable {P : Program} {w : World} {K : PySem.W.Frag} {mg : Str → Option Value} {base : Heap} {C CO CB : Addr}
abbrev sEnd : Stmt := top 40
theorem scEnd : FnScope ["_law_rows_so", "_law_done", "_law_numbers_so", "_law_left", "_law_row", "_law_far", "_law_own", "_law_each"] ["_law_rows_so", "_law_done", "_law_numbers_so"] (defScope sEnd) := ⟨rfl, rfl, rfl, by decide +kernel, rfl, by decide +kernel, by decide +kernel⟩
def spLEnd : Sp := fun vs H Q _ => ∃ (l n d : Addr) (ts : List V) (rows : List Row) (ds : List Int) (m : AL) (ns : List Str), vs = [.ref l, .ref n, .ref d] ∧ (∀ k ∈ keys m, k ∈ ns) ∧ (∀ r ∈ rows, r.1 ∈ ns ∧ ∀ k ∈ keys r.2, k ∈ ns) ∧ H l = some (.lst ts) ∧ Paired (RwV H) ts rows ∧ H n = some (.lst (ds.map V.int)) ∧ ds.length = rows.length ∧ H d = some (.dK (enc m)) ∧ (keys m).Nodup ∧ m.length ≤ 100 ∧ (∀ p ∈ m, 0 ≤ p.2) ∧ rows.length ≤ 60 ∧ esum rows ≤ 60 ∧ (∀ r ∈ rows, ∀ p ∈ r.2, 0 < p.2 ∧ p.2 < 2 ^ 64) ∧
  ∀ (c : Addr) (m' : AL) (H' : Hp), H c = none → H' c = some (.dK (enc m')) → (keys m').Nodup → (∀ k, get m' k = endG (get m) (rows.zip ds) k) → (∀ r ∈ rows, r.1 ∈ keys m') → (∀ k ∈ keys m', k ∈ ns) → Same H H' → Q (.ref c) H'
theorem ok_lend {f : Addr} {fd : FuncData} (F : Fun K "_law_end" "_law_end" sEnd f fd) (T : Txt K mg) (Cp : Cal P w K mg base CX0 2 "_law_pairs" ["_law_numbers_so"] spPairs) (Cc : Cal P w K mg base CX0 1 "_law_counted" ["_law_pairs_so"] (spCountedT K)) : FnOk P w K mg base CX0 3 f fd ["_law_rows_so", "_law_done", "_law_numbers_so"] spLEnd := by
  refine F.ok scEnd (fun vs H Q E h => ?_) (fun cdv A outer s H vs Q E hr h => ?_)
  · obtain ⟨l, n, d, ts, rows, ds, m, ns, rfl, _⟩ := h
    rfl
  · obtain ⟨l, n, d, ts, rows, ds, m, ns, rfl, kin, rin, hl, hts, hn, lds, hd, nd, lm, mp, lr, es, l60, q⟩ := h
    have hu := hu_of hr
    refine ⟨_, (pss_cons (ps_set (i := 3) scEnd.nd rfl (Or.inl rfl) (pe_cal Cc (hr.mono (by decide)) pass0 (pa_cons (pe_cal Cp (hr.mono (by decide)) pass0 (pa_cons (pv 2) pa_nil)) pa_nil)))
  (pss_cons (ps_for PassesOwn.never rfl (RZ.pi_zipA (by rfl) T.zip (pa_cons (pv 0) (pa_cons (pv 1) pa_nil))) (pg_tup rfl (pgs_cons (pg_name (i := 4) scEnd.nd rfl (Or.inl rfl)) (pgs_cons (pg_name (i := 5) scEnd.nd rfl (Or.inl rfl)) pgs_nil)))
  (pss_cons (ps_dput hu (pv 3) (pe_ix ix_tup (pv 4) pe_int (fun _ _ => rfl)) (pe_op op_sub (pe_dget2 hu (pv 3) (pe_ix ix_tup (pv 4) pe_int (fun _ _ => rfl)) pe_int ⟨rfl, rfl, rfl, rfl⟩) (pv 5)) rfl)
  (pss_one (ps_for PassesOwn.never rfl (pi_tup (pe_ix ix_tup (pv 4) pe_int (fun _ _ => rfl))) (pg_tup rfl (pgs_cons (pg_name (i := 6) scEnd.nd rfl (Or.inl rfl)) (pgs_cons (pg_name (i := 7) scEnd.nd rfl (Or.inl rfl)) pgs_nil)))
  (pss_one (ps_dput hu (pv 3) (pv 6) (pe_op op_add (pe_dget2 hu (pv 3) (pv 6) pe_int ⟨rfl, rfl, rfl, rfl⟩) (pe_op op_mul (pv 5) (pv 7))) rfl))))))
  (pss_one (ps_ret (pv 3))))), ?_⟩
    have lts := Paired.len hts
    walk_at "in"
    walk_at "go"
    refine ⟨d, m, rfl, hd, nd, by omega, fun p ps qs H1 hp hp1 hps cn s1 => ?_⟩
    walk_at "go"
    have lps := Paired.len hps
    have lq := lq_of cn
    refine ⟨p, ps, qs, rfl, SqT.of hp1, hps, by omega, fun c m1 H2 hc hc2 nd1 hg hk lm1 s2 => ?_⟩
    have kn1 : ∀ k ∈ keys m1, k ∈ ns := fun k z => by
      obtain ⟨y, hy, rfl⟩ := List.mem_map.mp (hk k z)
      exact kin _ (List.mem_map.mpr ⟨y, (List.mem_filter.mp (cn.1.mem_iff.mp hy)).1, rfl⟩)
    have hg1 : ∀ k, get m1 k = get m k := fun k => by
      rw [hg, tot_perm cn.1, tot_pos nd fun k => ?_]
      unfold get
      cases e : look m k with
      | none => exact Int.le_refl _
      | some v => exact mp _ ((look_mem nd).mp e)
    have s02 : Same H H2 := fun c o e => s2 _ _ (s1 _ _ e)
    have hc0 : H c = none := by
      cases z : H c with
      | none => rfl
      | some o => rw [s1 _ _ z] at hc; cases hc
    have hl2 := s02 _ _ hl
    have hn2 := s02 _ _ hn
    walk_at "go"
    refine ⟨l, n, ts, ds.map V.int, rfl, .inl ⟨SqL.of hl2, SqL.of hn2, ?_⟩⟩
    refine for_it (walk_zip (n := rows.length) (xs := ts) (ys := ds.map V.int) (by rw [List.length_map]; omega)) (fun i σ H' => ∃ (m' : AL) (x4 x5 x6 x7 : Option V), σ = [some (.ref l), some (.ref n), some (.ref d), some (.ref c), x4, x5, x6, x7] ∧ H' c = some (.dK (enc m')) ∧ (keys m').Nodup ∧ (∀ k, get m' k = endG (get m) ((rows.zip ds).take i) k) ∧ (∀ r ∈ rows.take i, r.1 ∈ keys m') ∧ m'.length ≤ m.length + i + esum (rows.take i) ∧ (∀ k ∈ keys m', k ∈ ns) ∧ Same H H') ?_ ?_ ?_ ?_
    · exact ⟨m1, _, _, _, _, rfl, hc2, nd1, hg1, fun r h => (nomatch h), by omega, kn1, s02⟩
    · rintro i σ H' _ ⟨_, _, _, _, _, _, _, _, _, _, _, _, s3⟩
      exact ⟨SqL.of (s3 _ _ hl), SqL.of (s3 _ _ hn)⟩
    · rintro i x σ H3 H4 hi ⟨m', x4, x5, x6, x7, rfl, hm, nd', hg', hkk, lm', kn', s3⟩ ⟨t, u, v, rfl, ht, rfl, hu1, hv1⟩
      obtain ⟨r, hr1, hrv⟩ := Paired.at hts hu1
      have hv1 : (ds.map V.int)[i]? = some v := hv1
      rw [List.getElem?_map] at hv1
      obtain ⟨dn, hdn, rfl⟩ := Option.map_eq_some_iff.mp hv1
      have hz : (rows.zip ds)[i]? = some (r, dn) := List.getElem?_zip_eq_some.mpr ⟨hr1, hdn⟩
      have et := endG_take (g := get m) hz
      have ee := esum_take hr1
      have ee2 := esum_sub (List.take_sublist (i + 1) rows)
      have lrr := l60 r (List.mem_of_getElem? hr1)
      have hrv3 := RwV.same hrv s3
      have s4 : Same H3 (upd H3 t (.tup [u, V.int dn])) := fun c o e => upd_at e (ne_of_none e ht)
      have ht4 : upd H3 t (.tup [u, V.int dn]) t = some (.tup [u, V.int dn]) := upd_same
      generalize upd H3 t (.tup [u, V.int dn]) = H4 at s4 ht4 ⊢
      have hm4 := s4 _ _ hm
      obtain ⟨t1, u1, xs1, rfl, e1, e2, e3⟩ := RwV.same hrv3 s4
      have lxs := Paired.len e3
      have s04 : Same H H4 := fun c o e => s4 _ _ (s3 _ _ e)
      clear s4 s3 hm hrv3 ht
      walk_at "go"
      refine ⟨Or.inl ⟨enc m', Or.inl hm4⟩, ?_⟩
      walk_at "go"
      refine r_ixT (SqT.of e1) (atI_nat (j := 0) rfl) ?_
      walk_at "go"
      refine ⟨_, DGet_enc (r := look m' r.1) (Or.inl hm4) rfl, ?_⟩
      rw [get_look]
      walk_at "go"
      refine r_ixT (SqT.of e1) (atI_nat (j := 0) rfl) ?_
      refine ⟨c, _, rfl, DPut_enc hm4 (szl (by omega)), ?_⟩
      have lp := put_len m' r.1 (get m' r.1 - dn)
      have hk5 : ∀ k, k = r.1 ∨ k ∈ keys m' → k ∈ keys (put m' r.1 (get m' r.1 - dn)) := fun k z => by
        rw [keys_put]
        split
        · rename_i c
          rcases z with z | z
          · rw [z]; exact c
          · exact z
        · rcases z with z | z
          · rw [z]; simp
          · exact List.mem_append_left _ z
      obtain ⟨rin1, rin2⟩ := rin r (List.mem_of_getElem? hr1)
      have kn5 : ∀ k ∈ keys (put m' r.1 (get m' r.1 - dn)), k ∈ ns := fun k z => by
        rw [keys_put] at z
        split at z
        · exact kn' k z
        · rcases List.mem_append.mp z with z | z
          · exact kn' k z
          · rw [List.mem_singleton.mp z]; exact rin1
      have nd5 := put_nodup (k := r.1) (n := get m' r.1 - dn) nd'
      have hg5 := fun k => get_put m' r.1 k (get m' r.1 - dn)
      have k5 : Kp c H4 (upd H4 c (.dK (enc (put m' r.1 (get m' r.1 - dn))))) := fun z o e n => upd_at e n
      have hc5 : upd H4 c (.dK (enc (put m' r.1 (get m' r.1 - dn)))) c = some (.dK (enc (put m' r.1 (get m' r.1 - dn)))) := upd_same
      have ntc : t1 ≠ c := fun z => by rw [z, hm4] at e1; cases e1
      have nuc : u1 ≠ c := fun z => by rw [z, hm4] at e2; cases e2
      have e15 := k5 _ _ e1 ntc
      have e25 := k5 _ _ e2 nuc
      have e35 : Paired (PrA (upd H4 c (.dK (enc (put m' r.1 (get m' r.1 - dn)))))) xs1 r.2 := PrA.kpdAll e3 k5 hm4 (fun _ z => by cases z)
      have s05 : Same H (upd H4 c (.dK (enc (put m' r.1 (get m' r.1 - dn))))) := fun z o e => k5 _ _ (s04 _ _ e) (ne_of_none e hc0)
      generalize upd H4 c (.dK (enc (put m' r.1 (get m' r.1 - dn)))) = H5 at hc5 e15 e25 e35 s05 ⊢
      generalize put m' r.1 (get m' r.1 - dn) = m5 at lp nd5 hg5 hc5 hk5 kn5
      clear k5 hm4 e1 e2 e3 s04
      walk_at "go"
      refine r_ixT (SqT.of e15) (atI_nat (j := 1) rfl) ?_
      refine ⟨u1, rfl, ⟨_, SqT.of e25⟩, ?_⟩
      refine for_it (walk_tup (xs := xs1)) (fun j σ H' => ∃ (m6 : AL) (y6 y7 : Option V), σ = [some (.ref l), some (.ref n), some (.ref d), some (.ref c), some (.ref t1), some (.int dn), y6, y7] ∧ H' c = some (.dK (enc m6)) ∧ (keys m6).Nodup ∧ (∀ k, get m6 k = get m5 k + dn * tot (r.2.take j) k) ∧ (∀ k ∈ keys m5, k ∈ keys m6) ∧ m6.length ≤ m5.length + j ∧ (∀ k ∈ keys m6, k ∈ ns) ∧ Kp c H5 H') ?_ ?_ ?_ ?_
      · exact ⟨m5, _, _, rfl, hc5, nd5, fun k => by rw [List.take_zero]; show _ = _ + dn * 0; omega, fun _ h => h, Nat.le_refl _, kn5, fun _ _ e _ => e⟩
      · rintro j σ H' _ ⟨_, _, _, _, _, _, _, _, _, _, k6⟩
        exact SqT.of (k6 _ _ e25 nuc)
      · rintro j y σ _ H6 hj ⟨m6, y6, y7, rfl, hc6, nd6, hg6, hk6, lm6, kn6, k6⟩ ⟨rfl, hy⟩
        obtain ⟨p1, hp1', t2, rfl, ht2⟩ := Paired.at e35 hy
        have nt2 : t2 ≠ c := fun z => by rw [z, hc5] at ht2; cases ht2
        have ht6 := k6 _ _ ht2 nt2
        have pb := lrr p1 (List.mem_of_getElem? hp1')
        walk_at "go"
        refine ⟨Or.inl ⟨enc m6, Or.inl hc6⟩, ?_⟩
        walk_at "go"
        refine ⟨_, DGet_enc (r := look m6 p1.1) (Or.inl hc6) rfl, ?_⟩
        rw [get_look]
        walk_at "go"
        have lp6 := put_len m6 p1.1 (get m6 p1.1 + dn * p1.2)
        refine ⟨c, _, rfl, DPut_enc hc6 (szl (by omega)), put m6 p1.1 (get m6 p1.1 + dn * p1.2), _, _, rfl, upd_same, put_nodup nd6, fun k => ?_, fun k z => by rw [keys_put]; split; exact hk6 k z; exact List.mem_append_left _ (hk6 k z), by omega, fun k z => by
          rw [keys_put] at z
          split at z
          · exact kn6 k z
          · rcases List.mem_append.mp z with z | z
            · exact kn6 k z
            · rw [List.mem_singleton.mp z]; exact rin2 _ (List.mem_map.mpr ⟨p1, List.mem_of_getElem? hp1', rfl⟩), fun z o e n => by rw [upd_ne n]; exact k6 _ _ e n⟩
        rw [get_put, tot_take hp1', Int.mul_add]
        by_cases z : k = p1.1
        · rw [if_pos z, if_pos z.symm, ← z, hg6 k, Int.add_assoc]
        · rw [if_neg z, if_neg (Ne.symm z), Int.mul_zero, Int.add_zero]
          exact hg6 k
      · rintro σ H6 ⟨m6, y6, y7, rfl, hc6, nd6, hg6, hk6, lm6, kn6, k6⟩
        rw [lxs, List.take_length] at hg6
        refine ⟨m6, _, _, _, _, rfl, hc6, nd6, fun k => ?_, fun z hz => ?_, by omega, kn6, fun z o e => k6 _ _ (s05 _ _ e) (ne_of_none e hc0)⟩
        rw [hg6, hg5, et]
        unfold endS
        rw [← hg' k]
        by_cases z : k = r.1
        · rw [if_pos z, if_pos z.symm, z]
        · rw [if_neg z, if_neg (Ne.symm z), Int.sub_zero]
        · rw [List.take_add_one, hr1] at hz
          rcases List.mem_append.mp hz with y | y
          · exact hk6 _ (hk5 _ (.inr (hkk z y)))
          · rw [List.mem_singleton.mp y]
            exact hk6 _ (hk5 _ (.inl rfl))
    · rintro σ H3 ⟨m', x4, x5, x6, x7, rfl, hm, nd', hg', hkk, lm', kn', s3⟩
      rw [List.take_length] at lm'
      have ez : (rows.zip ds).take rows.length = rows.zip ds := List.take_of_length_le (by rw [List.length_zip]; omega)
      rw [ez] at hg'
      walk_at "go"
      rw [List.take_length] at hkk
      exact q c m' H3 hc0 hm nd' hg' hkk kn' s3
abbrev sStock : Stmt := top 38
theorem scStock : FnScope ["_law_box_here", "_law_names_here", "_law_below", "_law_some", "_law_k", "_law_own"] ["_law_box_here", "_law_names_here", "_law_below"] (defScope sStock) := ⟨rfl, rfl, rfl, by decide +kernel, rfl, by decide +kernel, by decide +kernel⟩
def spStock : Sp := fun vs H Q _ => ∃ (a l : Addr) (ns : List Str) (below : Int) (b : Nat), vs = [.ref a, .ref l, .int below] ∧ 0 < below ∧ Bx H a (b + 20) ∧ H l = some (.lst (ns.map V.str)) ∧ l ≠ a ∧ ns.Nodup ∧ ns.length ≤ 8 ∧
  ∀ (p : Addr) (ts : List V) (qs : AL) (H' : Hp), H p = none → H' p = some (.tup ts) → Paired (PrA H') ts qs → (keys qs).Nodup → qs.Pairwise (fun a b => ple a b = true) → (∀ p ∈ qs, 0 < p.2 ∧ (p.2 ≤ 3 ∨ p.2 ≤ below) ∧ p.1 ∈ ns) → qs.length ≤ 8 → Bx H' a b → Kp a H H' → Q (.ref p) H'
theorem ok_stock {f : Addr} {fd : FuncData} (F : Fun K "_law_stock" "_law_stock" sStock f fd) (T : Txt K mg) (Ct : Cal P w K mg base CX0 1 "_law_take" ["_law_box_here", "_law_below"] spTake) (Co : Cal P w K mg base CX0 2 "_law_of" ["_law_box_here", "_law_some"] spOf) (Cp : Cal P w K mg base CX0 2 "_law_pairs" ["_law_numbers_so"] spPairs) (Cc : Cal P w K mg base CX0 1 "_law_counted" ["_law_pairs_so"] (spCounted K)) : FnOk P w K mg base CX0 3 f fd ["_law_box_here", "_law_names_here", "_law_below"] spStock := by
  refine F.ok scStock (fun vs H Q E h => ?_) (fun cdv A outer s H vs Q E hr h => ?_)
  · obtain ⟨a, l, ns, below, b, rfl, _⟩ := h
    rfl
  · obtain ⟨a, l, ns, below, b, rfl, b0, hb, hl, nla, nd, ln, q⟩ := h
    refine ⟨_, (pss_cons (ps_setLc (i := 3) (own := [("_law_k", 4), ("_law_own", 5)]) (g := gTup _ 2 (gCons (gName 4) (gCons (gName 5) gNil))) rfl scStock.nd rfl rfl (sw_true rfl rfl rfl (by decide +kernel)) (pi_enum (by rfl) T.enumerate (pa_cons (pv 1) pa_nil)) (blkOk_by (N := ["_law_box_here", "_law_names_here", "_law_below", "_law_some", "_law_k", "_law_own"]) (sc := defScope sStock) (by decide +kernel)) (fun _ _ _ _ _ => (pg_tup rfl (pgs_cons (pg_name (i := 4) scStock.nd rfl (Or.inl rfl)) (pgs_cons (pg_name (i := 5) scStock.nd rfl (Or.inl rfl)) pgs_nil)))) (fun _ _ _ _ _ => (pts_one (pt_cmpR op_lt (pe_cal Ct (hr.mono (by decide)) pass0 (pa_cons (pv 0) (pa_cons (pe_op op_add (pv 4) pe_int) pa_nil))) pe_int (nomark _)))) (fun _ _ _ _ _ => (pv 5)))
  (pss_one (ps_ret (pe_cal Cp (hr.mono (by decide)) pass0 (pa_cons (pe_cal Cc (hr.mono (by decide)) pass0 (pa_cons (pe_lc (own := [("_law_own", 5)]) (g := gName 5) (tt := tYes) rfl scStock.nd (pi_list (pv 3)) (blkOk_by (N := ["_law_box_here", "_law_names_here", "_law_below", "_law_some", "_law_k", "_law_own"]) (sc := defScope sStock) (by decide +kernel)) (fun _ _ _ _ _ => (pg_name (i := 5) scStock.nd rfl (Or.inl rfl))) (fun _ _ _ _ _ => pts_nil) (fun _ _ _ _ _ => (pe_tup (pa_cons (pv 5) (pa_cons (pe_cal Co (hr.mono (by decide)) pass0 (pa_cons (pv 0) (pa_cons (pe_lst (pa_cons pe_int (pa_cons pe_int (pa_cons (pv 2) pa_nil)))) pa_nil))) pa_nil))))) pa_nil)) pa_nil))))), ?_⟩
    have lm : (ns.map V.str).length = ns.length := List.length_map _
    walk_at "in"
    walk_at "go"
    refine ⟨l, _, rfl, SqL.of hl, ?_⟩
    intro D hD
    have naD : a ≠ D := hb.ne hD
    refine lc_it (walk_enum (xs := ns.map V.str)) (fun i H' => ∃ ks : List Str, H' D = some (.lst (ks.map V.str)) ∧ ks.Sublist (ns.take i) ∧ Bx H' a (b + 10 + (8 - i)) ∧ Kp a H H') ?_ ?_ ?_ ?_
    · exact ⟨[], upd_same, List.Sublist.refl _, (hb.mono (by omega)).upd naD, fun c o e n => upd_at e (ne_of_none e hD)⟩
    · rintro i H' _ ⟨_, _, _, _, k1⟩
      exact SqL.of (k1 _ _ hl nla)
    · rintro i x H1 H2 hi ⟨ks, hD1, sb, bx1, k1⟩ ⟨t, u, v, rfl, ht, rfl, hu, hv⟩
      cases hu
      have hv : (ns.map V.str)[i]? = some v := hv
      rw [List.getElem?_map] at hv
      obtain ⟨k, hk, rfl⟩ := Option.map_eq_some_iff.mp hv
      have s2 : Same H1 (upd H1 t (.tup [V.int i, V.str k])) := fun c o e => upd_at e (ne_of_none e ht)
      have ht2 : upd H1 t (.tup [V.int i, V.str k]) t = some (.tup [V.int i, V.str k]) := upd_same
      generalize upd H1 t (.tup [V.int i, V.str k]) = H2 at s2 ht2 ⊢
      have hD2 := s2 _ _ hD1
      have bx2 := bx1.same s2
      have tk : ns.take (i + 1) = ns.take i ++ [k] := by rw [List.take_add_one, hk]; rfl
      have lsb := sb.length_le
      rw [List.length_take] at lsb
      walk_at "go"
      refine ⟨rfl, ?_⟩
      walk_at "go"
      refine ⟨a, b + 10 + (8 - (i + 1)), (i : Int) + 2, rfl, by rw [show b + 10 + (8 - (i + 1)) + 1 = b + 10 + (8 - i) by omega]; exact bx2, by omega, by omega, fun d H3 d0 d1 bx3 k3 => ?_⟩
      have hD3 := k3 _ _ hD2 naD.symm
      have k13 : Kp a H H3 := fun c o e n => k3 _ _ (s2 _ _ (k1 _ _ e n)) n
      walk_at "go"
      refine ite_d (fun _ => ?_) fun _ => ?_
      · refine r_var rfl ⟨_, hD3, szl (by rw [List.length_map]; omega), ks ++ [k], by rw [List.map_append]; exact upd_same, by rw [tk]; exact List.Sublist.append sb (List.Sublist.refl _), bx3.upd naD, fun c o e n => upd_at (k13 _ _ e n) (ne_of_none e hD)⟩
      · exact ⟨ks, hD3, by rw [tk]; exact List.Sublist.trans sb (List.sublist_append_left _ _), bx3, k13⟩
    rintro H1 ⟨ks, hD1, sb, bx1, k1⟩
    rw [lm, List.take_length] at sb
    have lks := sb.length_le
    have ndk := sb.nodup nd
    have nDa : D ≠ a := naD.symm
    walk_at "go"
    intro D2 hD2
    have naD2 : a ≠ D2 := bx1.ne hD2
    refine lc_it (walk_list (xs := ks.map V.str)) (fun i H' => ∃ xs ps, H' D2 = some (.lst xs) ∧ Paired (PrA H') xs ps ∧ keys ps = ks.take i ∧ (∀ p ∈ ps, 0 < p.2 ∧ (p.2 ≤ 3 ∨ p.2 ≤ below)) ∧ Bx H' a (b + (8 - i)) ∧ Kp a H1 H') ?_ ?_ ?_ ?_
    · exact ⟨[], [], upd_same, .nil, rfl, fun _ h => (nomatch h), (bx1.mono (by omega)).upd naD2, fun c o e n => upd_at e (ne_of_none e hD2)⟩
    · rintro i H' _ ⟨_, _, _, _, _, _, _, k2⟩
      exact SqL.of (k2 _ _ hD1 nDa)
    · rintro i x _ H2 hi ⟨xs, ps, hX, hxs, kps, bps, bx2, k2⟩ ⟨rfl, hx⟩
      rw [List.length_map] at hi
      rw [List.getElem?_map] at hx
      obtain ⟨k, hk, rfl⟩ := Option.map_eq_some_iff.mp hx
      have lxs := Paired.len hxs
      have lps : ps.length = (keys ps).length := (List.length_map _).symm
      rw [kps, List.length_take] at lps
      walk_at "go"
      refine ⟨rfl, r_yes (iteT ?_)⟩
      walk_at "go"
      rename_i M hM
      have s3 : Same H2 (upd H2 M (.lst [V.int 1, V.int 3, V.int below])) := fun c o e => upd_at e (ne_of_none e hM)
      have hM3 : upd H2 M (.lst [V.int 1, V.int 3, V.int below]) M = some (.lst [V.int 1, V.int 3, V.int below]) := upd_same
      generalize upd H2 M (.lst [V.int 1, V.int 3, V.int below]) = H3 at s3 hM3 ⊢
      have bx3 := bx2.same s3
      have nMa : M ≠ a := (bx2.ne hM).symm
      refine ⟨a, M, b + (8 - (i + 1)), _, rfl, by rw [show b + (8 - (i + 1)) + 1 = b + (8 - i) by omega]; exact bx3, hM3, nMa, by show 0 < 3; omega, by show 3 ≤ 1000; omega, fun x j H4 hxj bx4 k4 => ?_⟩
      obtain ⟨v, rfl, v0, v1⟩ : ∃ v : Int, x = .int v ∧ 0 < v ∧ (v ≤ 3 ∨ v ≤ below) := by
        match j, hxj with
        | 0, h => cases h; exact ⟨1, rfl, by omega, by omega⟩
        | 1, h => cases h; exact ⟨3, rfl, by omega, by omega⟩
        | 2, h => cases h; exact ⟨below, rfl, b0, by omega⟩
      have hX4 := k4 _ _ (s3 _ _ hX) naD2.symm
      have hxs4 : Paired (PrA H4) xs ps := Paired.mapP hxs fun _ _ z => (z.same s3).kl (KL.bx k4 bx3)
      have k14 : Kp a H1 H4 := fun c o e n => k4 _ _ (s3 _ _ (k2 _ _ e n)) n
      walk_at "go"
      rename_i t ht
      have s5 : Same H4 (upd H4 t (.tup [V.str k, V.int v])) := fun c o e => upd_at e (ne_of_none e ht)
      have ht5 : upd H4 t (.tup [V.str k, V.int v]) t = some (.tup [V.str k, V.int v]) := upd_same
      generalize upd H4 t (.tup [V.str k, V.int v]) = H5 at s5 ht5 ⊢
      refine ⟨xs, s5 _ _ hX4, szl (by omega), xs ++ [.ref t], ps ++ [(k, v)], upd_same, pr_push (s5 _ _ hX4) (PrA.all hxs4 s5) ⟨t, rfl, ht5⟩, ?_, fun p hp => ?_, (bx4.same s5).upd naD2, fun c o e n => upd_at (s5 _ _ (k14 _ _ e n)) (ne_of_none e hD2)⟩
      · show keys (ps ++ [(k, v)]) = _
        unfold keys at kps ⊢
        rw [List.map_append, kps, List.take_add_one, hk]
        rfl
      · rcases List.mem_append.mp hp with z | z
        · exact bps p z
        · rw [List.mem_singleton.mp z]
          exact ⟨v0, v1⟩
    · rintro H2 ⟨xs, ps, hX, hxs, kps, bps, bx2, k2⟩
      rw [List.length_map, List.take_length] at kps
      have lxs := Paired.len hxs
      have lps : ps.length = (keys ps).length := (List.length_map _).symm
      rw [kps] at lps
      have ndp : (keys ps).Nodup := by rw [kps]; exact ndk
      walk_at "go"
      refine ⟨D2, xs, ps, rfl, SqL.of hX, hxs, by omega, fun c m H3 hc hc3 nd3 hg hkm lmm s3 => ?_⟩
      walk_at "go"
      refine ⟨c, m, rfl, hc3, nd3, by omega, fun p ts qs H4 hp hp4 hts cn s4 => ?_⟩
      have lq := lq_of cn
      have k04 : Kp a H H4 := fun c o e n => s4 _ _ (s3 _ _ (k2 _ _ (k1 _ _ e n) n))
      have bx4 := (bx2.same s3).same s4
      have ndq : (keys qs).Nodup := (cn.1.map fun p : Str × Int => p.1).nodup_iff.mpr ((List.filter_sublist.map _).nodup nd3)
      have hp0 : H p = none := kp_free (fun c o e n => s3 _ _ (k2 _ _ (k1 _ _ e n) n)) (bx2.same s3) hp
      refine q p ts qs H4 hp0 hp4 hts ndq cn.2 (fun z hz => ?_) (by omega) (bx4.mono (by omega)) k04
      have zm := cn_mem cn hz
      have zp := (List.mem_filter.mp (cn.1.mem_iff.mp hz)).2
      have e1 := get_mem nd3 zm
      rw [hg, tot_nodup _ ndp] at e1
      have zk : z.1 ∈ keys ps := hkm _ (List.mem_map.mpr ⟨z, zm, rfl⟩)
      obtain ⟨z', hz', ez⟩ := List.mem_map.mp zk
      have e2 := get_mem ndp hz'
      rw [ez, e1] at e2
      have := bps z' hz'
      rw [← e2] at this
      exact ⟨this.1, this.2, sb.subset (by rw [← kps]; exact zk)⟩
end


section
variable {P : Program} {w : World} {K : PySem.W.Frag} {mg : Str → Option Value} {base : Heap} {C CO CP CS t0 : Addr}
abbrev sLot : Stmt := top 42
theorem scLot : FnScope ["_law_numbers_so", "_law_own"] ["_law_numbers_so"] (defScope sLot) := ⟨rfl, rfl, rfl, by decide +kernel, rfl, by decide +kernel, by decide +kernel⟩
def spLLot (C : Addr) : Sp := fun vs H Q _ => ∃ (d : Addr) (m : AL), vs = [.ref d] ∧ H d = some (.dK (enc m)) ∧ (keys m).Nodup ∧ m.length ≤ 30 ∧ (∀ p ∈ m, 0 ≤ p.2) ∧ ∀ (x : Addr) (m' : AL) (H' : Hp), H x = none → LoN C H H' x m' → (∀ k, get m' k = get m k) → Same H H' → Q (.ref x) H'
theorem ok_lLot {f : Addr} {fd : FuncData} (F : Fun K "_law_lot" "_law_lot" sLot f fd) (T : Txt K mg) (Om : OMk P w K mg base CX0 2 C "Lot" ["self", "pairs"] (spLotInit K C)) : FnOk P w K mg base CX0 4 f fd ["_law_numbers_so"] (spLLot C) := by
  refine F.ok scLot (fun vs H Q E h => ?_) (fun cdv A outer s H vs Q E hr h => ?_)
  · obtain ⟨d, m, rfl, _⟩ := h
    rfl
  · obtain ⟨d, m, rfl, hd, nd, lm, m0, q⟩ := h
    have hu := hu_of hr
    refine ⟨_, (pss_one (ps_ret (pe_makeO Om (hr.mono (by decide)) pass0 (pa_cons (pe_lock (pe_lc (own := [("_law_own", 1)]) (g := gName 1) (tt := tYes) rfl scLot.nd (pi_keys (pv 0)) (blkOk_by (N := ["_law_numbers_so", "_law_own"]) (sc := defScope sLot) (by decide +kernel)) (fun _ _ _ _ _ => (pg_name (i := 1) scLot.nd rfl (Or.inl rfl))) (fun _ _ _ _ _ => pts_nil) (fun _ _ _ _ _ => (pe_tup (pa_cons (pv 1) (pa_cons (pe_dget hu (pv 0) (pv 1) (fun _ _ => rfl)) pa_nil)))))) pa_nil)))), ?_⟩
    walk_at "in"
    walk_at "go"
    refine r_mk ?_
    walk_at "go"
    refine r_lockE hd trivial fun od => ?_
    walk_at "go"
    refine ⟨d, od, rfl, Or.inl ⟨enc m, upd_same, ?_⟩⟩
    intro D hD
    have nDd : D ≠ d := fun z => by rw [z, upd_same] at hD; cases hD
    have hD0 : H D = none := by rw [upd_ne nDd] at hD; exact hD
    refine lc_it (walk_keys (kvs := enc m)) (fun i H' => ∃ xs, H' D = some (.lst xs) ∧ Paired (PrA H') xs (m.take i) ∧ H' d = some (.frz od (.dK (enc m))) ∧ Kp d H H') ?_ ?_ ?_ ?_
    · exact ⟨[], upd_same, .nil, by walk_at "hp", fun c o e n => by walk_at "hp"⟩
    · rintro i H' _ ⟨_, _, _, h, _⟩
      exact h
    · rintro i x _ H1 hi ⟨xs, hD1, hxs, hd1, kp1⟩ ⟨rfl, k, v, hkv, rfl⟩
      obtain ⟨p, hp, rfl, rfl⟩ := enc_at hkv
      walk_at "go"
      refine ⟨rfl, r_yes (iteT ?_)⟩
      walk_at "go"
      have hg : DGet H1 d (.str p.1) (some (.int p.2)) := DGet_enc (r := some p.2) (Or.inr ⟨od, hd1⟩) (look_at nd hp)
      refine ⟨d, .int p.2, rfl, hg, ?_⟩
      walk_at "go"
      rename_i t ht
      have n1 : D ≠ t := ne_of_none hD1 ht
      have n2 : d ≠ t := ne_of_none hd1 ht
      have n3 : d ≠ D := Ne.symm nDd
      have k2 : Kp D H1 (upd (upd H1 t (.tup [V.str p.1, V.int p.2])) D (.lst (xs ++ [V.ref t]))) := fun c o e n => by walk_at "hp"
      have lxs := Paired.len hxs
      rw [List.length_take] at lxs
      refine ⟨xs, by walk_at "hp", szl (by omega), xs ++ [V.ref t], upd_same, ?_, by walk_at "hp", fun c o e n => ?_⟩
      · rw [List.take_add_one, hp]
        exact Paired.app (PrA.kpdAll hxs k2 hD1 (fun _ z => by cases z)) (.cons ⟨t, rfl, by walk_at "hp"⟩ .nil)
      · have n4 : c ≠ D := ne_of_none e hD0
        walk_at "hp"
    · rintro H1 ⟨xs, hD1, hxs, hd1, kp1⟩
      have k2 : Kp d H1 (upd H1 d (.dK (enc m))) := fun c o e n => by walk_at "hp"
      rw [enc_len, List.take_length] at hxs
      have hD2 : upd H1 d (.dK (enc m)) D = some (.lst xs) := upd_at hD1 nDd
      have hxs2 : Paired (PrA (upd H1 d (.dK (enc m)))) xs m := PrA.kpdAll hxs k2 hd1 (fun _ z => by cases z)
      have s2 : Same H (upd H1 d (.dK (enc m))) := fun c o e => by
        by_cases n : c = d
        · subst n
          rw [hd] at e
          rw [← Option.some.inj e]
          exact upd_same
        · exact k2 _ _ (kp1 _ _ e n) n
      refine ⟨hd1, r_nil (init_end hD2 hxs2 (by rw [Paired.len hxs]; exact lm) m0 fun x m' H' hx La hg s3 => ?_)⟩
      exact q x m' H' (s2.free hx) (La.mono s2) (fun k => by rw [hg, tot_nodup k nd]) fun c o e => s3 _ _ (s2 _ _ e)
abbrev sWay : Stmt := top 43
theorem scWay : FnScope ["_law_row"] ["_law_row"] (defScope sWay) := ⟨rfl, rfl, rfl, by decide +kernel, rfl, by decide +kernel, by decide +kernel⟩
def spWay (CO : Addr) : Sp := fun vs H Q _ => ∃ (v : V) (r : Row), vs = [v] ∧ RwV H v r ∧ RowOk r ∧ ∀ (o : Addr) (H' : Hp), H o = none → OpA CO H' o r.1 r.2 → Same H H' → Q (.ref o) H'
theorem ok_way {f : Addr} {fd : FuncData} (F : Fun K "_law_way" "_law_way" sWay f fd) (OmT : OMk P w K mg base CX0 2 C "Lot" ["self", "pairs"] (spLotInitT K C)) (Oop : OMk P w K mg base CX0 3 CO "Opening" ["self", "kind", "contents"] (spOpInit C CO)) : FnOk P w K mg base CX0 5 f fd ["_law_row"] (spWay CO) := by
  refine F.ok scWay (fun vs H Q E h => ?_) (fun cdv A outer s H vs Q E hr h => ?_)
  · obtain ⟨v, r, rfl, _⟩ := h
    rfl
  · obtain ⟨v, r, rfl, ⟨t, u, ts, rfl, h1, h2, h3⟩, rok, q⟩ := h
    refine ⟨_, (pss_one (ps_ret (pe_makeO Oop (hr.mono (by decide)) pass0 (pa_cons (pe_ix ix_tup (pv 0) pe_int (fun _ _ => rfl)) (pa_cons (pe_makeO OmT (hr.mono (by decide)) pass0 (pa_cons (pe_ix ix_tup (pv 0) pe_int (fun _ _ => rfl)) pa_nil)) pa_nil))))), ?_⟩
    walk_at "in"
    walk_at "go"
    refine r_mk ?_
    walk_at "go"
    refine r_ixT (SqT.of h1) (atI_nat (j := 0) rfl) ?_
    refine r_mk ?_
    walk_at "go"
    refine r_ixT (SqT.of h1) (atI_nat (j := 1) rfl) ?_
    walk_at "go"
    have l3 := Paired.len h3
    refine initT_end (SqT.of h2) h3 (by have := rok.ln; omega) (fun q hq => Int.le_of_lt (rok.pos q hq).1) fun y m' H4 hy Ly hg s4 => ?_
    refine r_nil ?_
    exact opRow_end rok Ly hg fun o H5 ho hop s5 => q o H5 (s4.free ho) hop fun c o e => s5 _ _ (s4 _ _ e)
abbrev sPlan : Stmt := top 41
theorem scPlan : FnScope ["_law_rows_so", "_law_done", "_law_row", "_law_far"] ["_law_rows_so", "_law_done"] (defScope sPlan) := ⟨rfl, rfl, rfl, by decide +kernel, rfl, by decide +kernel, by decide +kernel⟩
def spLPlan (P : Program) (w : World) (CP : Addr) : Sp := fun vs H Q _ => ∃ (l n : Addr) (ts : List V) (rows : List Row) (ds : List Int), vs = [.ref l, .ref n] ∧ H l = some (.lst ts) ∧ Paired (RwV H) ts rows ∧ H n = some (.lst (ds.map V.int)) ∧ ds.length = rows.length ∧ (∀ r ∈ rows, RowOk r) ∧ esum rows ≤ 28 ∧ (∀ d ∈ ds, 0 ≤ d) ∧
  ∀ (x : Addr) (m : PL) (H' : Hp), H x = none → PlanA P w CP H' x m → (∀ f, wsum m f = wsum (rows.zip ds) f) → (∀ r ∈ pkeys m, r ∈ rows) → Same H H' → Q (.ref x) H'
theorem ok_lPlan {f : Addr} {fd : FuncData} (F : Fun K "_law_plan" "_law_plan" sPlan f fd) (T : Txt K mg) (OmT : OMk P w K mg base CX0 2 C "Lot" ["self", "pairs"] (spLotInitT K C)) (Oop : OMk P w K mg base CX0 3 CO "Opening" ["self", "kind", "contents"] (spOpInit C CO)) (Pm : OMk P w K mg base CX0 4 CP "Plan" ["self", "counts"] (spPlanInit P w K CO CP)) : FnOk P w K mg base CX0 6 f fd ["_law_rows_so", "_law_done"] (spLPlan P w CP) := by
  refine F.ok scPlan (fun vs H Q E h => ?_) (fun cdv A outer s H vs Q E hr h => ?_)
  · obtain ⟨l, n, ts, rows, ds, rfl, _⟩ := h
    rfl
  · obtain ⟨l, n, ts, rows, ds, rfl, hl, hts, hn, lds, rok, es, d0, q⟩ := h
    refine ⟨_, (pss_one (ps_ret (pe_makeO Pm (hr.mono (by decide)) pass0 (pa_cons (pe_lc (own := [("_law_row", 2), ("_law_far", 3)]) (g := gTup _ 2 (gCons (gName 2) (gCons (gName 3) gNil))) (tt := tYes) rfl scPlan.nd (RZ.pi_zipA (by rfl) T.zip (pa_cons (pv 0) (pa_cons (pv 1) pa_nil))) (blkOk_by (N := ["_law_rows_so", "_law_done", "_law_row", "_law_far"]) (sc := defScope sPlan) (by decide +kernel)) (fun _ _ _ _ _ => (pg_tup rfl (pgs_cons (pg_name (i := 2) scPlan.nd rfl (Or.inl rfl)) (pgs_cons (pg_name (i := 3) scPlan.nd rfl (Or.inl rfl)) pgs_nil)))) (fun _ _ _ _ _ => pts_nil) (fun _ _ _ _ _ => (pe_tup (pa_cons (pe_makeO Oop (hr.mono (by decide)) pass0 (pa_cons (pe_ix (ixK (r := rIxT) K ix_tup) (pv 2) pe_int (fun _ _ => rfl)) (pa_cons (pe_makeO OmT (hr.mono (by decide)) pass0 (pa_cons (pe_ix (ixK (r := rIxT) K ix_tup) (pv 2) pe_int (fun _ _ => rfl)) pa_nil)) pa_nil))) (pa_cons (pv 3) pa_nil))))) pa_nil)))), ?_⟩
    have lts := Paired.len hts
    walk_at "in"
    walk_at "go"
    refine r_mk ?_
    walk_at "go"
    refine ⟨l, n, ts, ds.map V.int, rfl, .inl ⟨SqL.of hl, SqL.of hn, ?_⟩⟩
    intro D hD
    have lrows : rows.length ≤ 28 := Nat.le_trans (esum_len fun r hr => (rok r hr).ne) es
    refine lc_it (walk_zip (n := rows.length) (xs := ts) (ys := ds.map V.int) (by rw [List.length_map]; omega)) (fun i H' => ∃ us, H' D = some (.lst us) ∧ Paired (CtV CO H') us ((rows.zip ds).take i) ∧ Same H H') ?_ ?_ ?_ ?_
    · exact ⟨[], upd_same, .nil, fun c o e => upd_at e (ne_of_none e hD)⟩
    · rintro i H' _ ⟨_, _, _, s3⟩
      exact ⟨SqL.of (s3 _ _ hl), SqL.of (s3 _ _ hn)⟩
    · rintro i x H1 H2 hi ⟨us, hD1, hus, s1⟩ ⟨t, u, v, rfl, ht, rfl, hu1, hv1⟩
      obtain ⟨r, hr1, hrv⟩ := Paired.at hts hu1
      have hv1 : (ds.map V.int)[i]? = some v := hv1
      rw [List.getElem?_map] at hv1
      obtain ⟨dn, hdn, rfl⟩ := Option.map_eq_some_iff.mp hv1
      have hz : (rows.zip ds)[i]? = some (r, dn) := List.getElem?_zip_eq_some.mpr ⟨hr1, hdn⟩
      have rk := rok r (List.mem_of_getElem? hr1)
      have s4 : Same H1 (upd H1 t (.tup [u, V.int dn])) := fun c o e => upd_at e (ne_of_none e ht)
      have ht4 : upd H1 t (.tup [u, V.int dn]) t = some (.tup [u, V.int dn]) := upd_same
      generalize upd H1 t (.tup [u, V.int dn]) = H2 at s4 ht4 ⊢
      have s04 : Same H H2 := fun c o e => s4 _ _ (s1 _ _ e)
      obtain ⟨t1, u1, xs1, rfl, e1, e2, e3⟩ := RwV.same hrv s04
      have lxs := Paired.len e3
      walk_at "go"
      refine ⟨rfl, r_yes (iteT ?_)⟩
      walk_at "go"
      refine r_mk ?_
      walk_at "go"
      refine r_ixT (SqT.of e1) (atI_nat (j := 0) rfl) ?_
      refine r_mk ?_
      walk_at "go"
      refine r_ixT (SqT.of e1) (atI_nat (j := 1) rfl) ?_
      walk_at "go"
      refine initT_end (SqT.of e2) e3 (by have := rk.ln; omega) (fun q hq => Int.le_of_lt (rk.pos q hq).1) fun y m' H4 hy Ly hg s5 => ?_
      refine r_nil ?_
      refine opRow_end rk Ly hg fun o H5 ho hop s6 => ?_
      walk_at "go"
      rename_i t2 ht2
      have s7 : Same H5 (upd H5 t2 (.tup [V.ref o, V.int dn])) := fun c o e => upd_at e (ne_of_none e ht2)
      have ht7 : upd H5 t2 (.tup [V.ref o, V.int dn]) t2 = some (.tup [V.ref o, V.int dn]) := upd_same
      generalize upd H5 t2 (.tup [V.ref o, V.int dn]) = H7 at s7 ht7 ⊢
      have s27 : Same H1 H7 := fun c o e => s7 _ _ (s6 _ _ (s5 _ _ (s4 _ _ e)))
      have hD7 := s27 _ _ hD1
      have lus := Paired.len hus
      rw [List.length_take] at lus
      refine ⟨us, hD7, szl (by omega), us ++ [.ref t2], upd_same, ?_, fun c o e => upd_at (s27 _ _ (s1 _ _ e)) (ne_of_none e hD)⟩
      rw [List.take_add_one, hz]
      exact ct_push hD7 (CtV.all hus s27) ⟨t2, o, rfl, ht7, hop.same s7⟩
    · rintro H1 ⟨us, hD1, hus, s1⟩
      have ez : (rows.zip ds).take rows.length = rows.zip ds := List.take_of_length_le (by rw [List.length_zip]; omega)
      rw [ez] at hus
      refine r_nil (planInit_end (rows := rows) (.inl (SqL.of hD1)) hus (by rw [List.length_zip]; omega) (fun x hx => ?_) es fun x m H' hx Px ws mk s2 => ?_)
      · have h1 := (List.of_mem_zip hx).1
        exact ⟨d0 _ (List.of_mem_zip hx).2, rok _ h1, h1⟩
      · refine q x m H' (s1.free hx) Px ws (fun r hr => ?_) fun c o e => s2 _ _ (s1 _ _ e)
        obtain ⟨y, hy, rfl⟩ := List.mem_map.mp (mk r hr)
        exact (List.of_mem_zip hy).1
end


/-- numbers of openings that can be done one row after the other -/
def Feas (g : Str → Int) (xs : PL) : Prop := ∀ (i : Nat) (x : Row × Int), xs[i]? = some x → 0 ≤ x.2 ∧ x.2 ≤ endG g (xs.take i) x.1.1
theorem endG_app (g : Str → Int) (a b : PL) : endG g (a ++ b) = endG (endG g a) b := by
  unfold endG
  rw [List.foldl_append]
theorem Feas.take {g : Str → Int} {xs : PL} (h : Feas g xs) (n : Nat) : Feas g (xs.take n) := fun i x hx => by
  have lt : i < n := by
    have := (List.getElem?_eq_some_iff.mp hx).1
    rw [List.length_take] at this
    omega
  have h1 := h i x (by rw [List.getElem?_take, if_pos lt] at hx; exact hx)
  rw [List.take_take, Nat.min_eq_left (Nat.le_of_lt lt)]
  exact h1
theorem Feas.nn {g : Str → Int} {xs : PL} (h : Feas g xs) (g0 : ∀ k, 0 ≤ g k) (ps : ∀ x ∈ xs, ∀ k, 0 ≤ tot x.1.2 k) : ∀ n k, 0 ≤ endG g (xs.take n) k
  | 0, k => g0 k
  | n + 1, k => by
    have ih := Feas.nn h g0 ps n
    cases hx : xs[n]? with
    | none => rw [List.take_add_one, hx]; show 0 ≤ endG g (xs.take n ++ []) k; rw [List.append_nil]; exact ih k
    | some x =>
      obtain ⟨x0, x1⟩ := h n x hx
      rw [endG_take hx]
      unfold endS
      have h2 := Int.mul_nonneg x0 (ps x (List.mem_of_getElem? hx) k)
      have h3 := ih k
      by_cases c : x.1.1 = k
      · rw [if_pos c]
        rw [c] at x1
        omega
      · rw [if_neg c]
        omega
theorem Feas.snoc {g : Str → Int} {xs : PL} {x : Row × Int} (h : Feas g xs) (x0 : 0 ≤ x.2) (x1 : x.2 ≤ endG g xs x.1.1) : Feas g (xs ++ [x]) := fun i y hy => by
  by_cases c : i < xs.length
  · rw [List.getElem?_append_left c] at hy
    rw [List.take_append_of_le_length (Nat.le_of_lt c)]
    exact h i y hy
  · rw [List.getElem?_append_right (by omega)] at hy
    have e : i - xs.length = 0 := by
      have := (List.getElem?_eq_some_iff.mp hy).1
      simp at this
      omega
    rw [e] at hy
    cases hy
    have e2 : i = xs.length := by omega
    rw [e2, List.take_left]
    exact ⟨x0, x1⟩
theorem tot_nn {m : AL} (h : ∀ p ∈ m, 0 ≤ p.2) (k : Str) : 0 ≤ tot m k := by
  induction m with
  | nil => exact Int.le_refl _
  | cons p m ih =>
    have h1 := ih fun q hq => h q (List.mem_cons_of_mem _ hq)
    have h2 := h p List.mem_cons_self
    show 0 ≤ (if p.1 = k then p.2 else 0) + tot m k
    split <;> omega
theorem get_nn0 {m : AL} (h : ∀ p ∈ m, 0 ≤ p.2) (nd : (keys m).Nodup) (k : Str) : 0 ≤ get m k := by
  rw [← tot_nodup k nd]
  exact tot_nn h k
theorem zip_snoc {α β : Type} {rows : List α} {ds : List β} {i : Nat} {r : α} {d : β} (h : rows[i]? = some r) (l : ds.length = i) : (rows.take (i + 1)).zip (ds ++ [d]) = (rows.take i).zip ds ++ [(r, d)] := by
  have li := (List.getElem?_eq_some_iff.mp h).1
  rw [List.take_add_one, h, List.zip_append (by rw [List.length_take]; omega)]
  rfl
section
variable {P : Program} {w : World} {K : PySem.W.Frag} {mg : Str → Option Value} {base : Heap}
abbrev sCounts : Stmt := top 39
theorem scCounts : FnScope ["_law_box_here", "_law_rows_so", "_law_numbers_so", "_law_cap", "_law_row", "_law_left", "_law_done", "_law_have", "_law_most", "_law_far", "_law_own", "_law_each"] ["_law_box_here", "_law_rows_so", "_law_numbers_so", "_law_cap"] (defScope sCounts) := ⟨rfl, rfl, rfl, by decide +kernel, rfl, by decide +kernel, by decide +kernel⟩
def spLCounts : Sp := fun vs H Q _ => ∃ (a l d : Addr) (cap : Int) (ts : List V) (rows : List Row) (m : AL) (b : Nat), vs = [.ref a, .ref l, .ref d, .int cap] ∧ 0 ≤ cap ∧ cap < 2 ^ 99 ∧ H l = some (.lst ts) ∧ Paired (RwV H) ts rows ∧ H d = some (.dK (enc m)) ∧ (keys m).Nodup ∧ m.length ≤ 100 ∧ (∀ p ∈ m, 0 ≤ p.2) ∧ rows.length ≤ 60 ∧ esum rows ≤ 60 ∧ (∀ r ∈ rows, (keys r.2).Nodup ∧ ∀ p ∈ r.2, 0 < p.2 ∧ p.2 < 2 ^ 64) ∧ Bx H a (b + 2 * rows.length) ∧ l ≠ a ∧
  ∀ (p : Addr) (ds : List Int) (H' : Hp), H p = none → H' p = some (.lst (ds.map V.int)) → ds.length = rows.length → Feas (get m) (rows.zip ds) → (∀ d ∈ ds, d ≤ cap) → Bx H' a b → Kp a H H' → Q (.ref p) H'
theorem ok_lCounts {f : Addr} {fd : FuncData} (F : Fun K "_law_counts" "_law_counts" sCounts f fd) (T : Txt K mg) (Ct : Cal P w K mg base CX0 1 "_law_take" ["_law_box_here", "_law_below"] spTake) (Co : Cal P w K mg base CX0 2 "_law_of" ["_law_box_here", "_law_some"] spOf) (Cp : Cal P w K mg base CX0 2 "_law_pairs" ["_law_numbers_so"] spPairs) (Cc : Cal P w K mg base CX0 1 "_law_counted" ["_law_pairs_so"] (spCountedT K)) : FnOk P w K mg base CX0 3 f fd ["_law_box_here", "_law_rows_so", "_law_numbers_so", "_law_cap"] spLCounts := by
  refine F.ok scCounts (fun vs H Q E h => ?_) (fun cdv A outer s H vs Q E hr h => ?_)
  · obtain ⟨a, l, d, cap, ts, rows, m, b, rfl, _⟩ := h
    rfl
  · obtain ⟨a, l, d, cap, ts, rows, m, b, rfl, c0, c1, hl, hts, hd, nd, lm, mp, lr, es, l60, bx0, nla, q⟩ := h
    have hu := hu_of hr
    refine ⟨_, (pss_cons (ps_par (i := 5) (j := 6) rfl scCounts.nd rfl rfl (by decide) rfl rfl (pa_cons (pe_cal Cc (hr.mono (by decide)) pass0 (pa_cons (pe_cal Cp (hr.mono (by decide)) pass0 (pa_cons (pv 2) pa_nil)) pa_nil)) (pa_cons (pe_lst pa_nil) pa_nil)) (by rfl))
  (pss_cons (ps_for PassesOwn.never rfl (pi_list (pv 1)) (pg_name (i := 4) scCounts.nd rfl (Or.inl rfl))
  (pss_cons (ps_set (i := 7) scCounts.nd rfl (Or.inl rfl) (pe_dget2 hu (pv 5) (pe_ix ix_tup (pv 4) pe_int (fun _ _ => rfl)) pe_int ⟨rfl, rfl, rfl, rfl⟩))
  (Evl.pss_cut (ps_set (i := 8) scCounts.nd rfl (Or.inl rfl) (pe_ifExp (pt_cmpR op_lt (pv 7) (pv 3) (nomark _)) (pv 7) (pv 3)))
  (pss_cons (ps_set (i := 9) scCounts.nd rfl (Or.inl rfl) (pe_cal Co (hr.mono (by decide)) pass0 (pa_cons (pv 0) (pa_cons (pe_lst (pa_cons pe_int (pa_cons (pv 8) (pa_cons (pe_cal Ct (hr.mono (by decide)) pass0 (pa_cons (pv 0) (pa_cons (pe_op op_add (pv 8) pe_int) pa_nil))) pa_nil)))) pa_nil))))
  (pss_cons (ps_expr (pe_bm PySem.F.plainAttrs_list PySem.F.slot_list_append PySem.F.type_list_append mt_append (pv 6) (pa_cons (pv 9) pa_nil)))
  (pss_cons (ps_dput hu (pv 5) (pe_ix ix_tup (pv 4) pe_int (fun _ _ => rfl)) (pe_op op_sub (pv 7) (pv 9)) rfl)
  (pss_one (ps_for PassesOwn.never rfl (pi_tup (pe_ix ix_tup (pv 4) pe_int (fun _ _ => rfl))) (pg_tup rfl (pgs_cons (pg_name (i := 10) scCounts.nd rfl (Or.inl rfl)) (pgs_cons (pg_name (i := 11) scCounts.nd rfl (Or.inl rfl)) pgs_nil)))
  (pss_one (ps_dput hu (pv 5) (pv 10) (pe_op op_add (pe_dget2 hu (pv 5) (pv 10) pe_int ⟨rfl, rfl, rfl, rfl⟩) (pe_op op_mul (pv 9) (pv 11))) rfl))))))))))
  (pss_one (ps_ret (pv 6))))), ?_⟩
    have lts := Paired.len hts
    walk_at "in"
    walk_at "go"
    refine ⟨d, m, rfl, hd, nd, by omega, fun p ps qs H1 hp hp1 hps cn s1 => ?_⟩
    walk_at "go"
    have lps := Paired.len hps
    have lq := lq_of cn
    refine ⟨p, ps, qs, rfl, SqT.of hp1, hps, by omega, fun c m1 H2 hc hc2 nd1 hg hk lm1 s2 => ?_⟩
    have hg1 : ∀ k, get m1 k = get m k := fun k => by
      rw [hg, tot_perm cn.1, tot_pos nd fun k => ?_]
      unfold get
      cases e : look m k with
      | none => exact Int.le_refl _
      | some v => exact mp _ ((look_mem nd).mp e)
    have s02 : Same H H2 := fun c o e => s2 _ _ (s1 _ _ e)
    have hc0 : H c = none := s1.free hc
    have bx2 : Bx H2 a (b + 2 * rows.length) := (bx0.same s1).same s2
    have k02 : Kp a H H2 := Kp.of s02
    walk_at "go"
    rename_i p0 hp0
    have npa : p0 ≠ a := (bx2.ne hp0).symm
    have ncp : c ≠ p0 := ne_of_none hc2 hp0
    have hp00 : H p0 = none := s02.free hp0
    have nca : c ≠ a := fun z => by
      obtain ⟨_, _, _, hbb, _⟩ := bx2
      rw [z, hbb] at hc2
      cases hc2
    refine for_it (walk_list (xs := ts)) (fun i σ H' => ∃ (m' : AL) (ds : List Int) (x4 x7 x8 x9 x10 x11 : Option V), σ = [some (.ref a), some (.ref l), some (.ref d), some (.int cap), x4, some (.ref c), some (.ref p0), x7, x8, x9, x10, x11] ∧ H' c = some (.dK (enc m')) ∧ H' p0 = some (.lst (ds.map V.int)) ∧ ds.length = i ∧ (keys m').Nodup ∧ (∀ k, get m' k = endG (get m) ((rows.take i).zip ds) k) ∧ m'.length ≤ m.length + i + esum (rows.take i) ∧ Feas (get m) ((rows.take i).zip ds) ∧ (∀ d ∈ ds, d ≤ cap) ∧ Bx H' a (b + 2 * (rows.length - i)) ∧ Kp a H H') ?_ ?_ ?_ ?_
    · refine ⟨m1, [], _, _, _, _, _, _, rfl, upd_at hc2 ncp, upd_same, rfl, nd1, hg1, by omega, fun i x h => (nomatch h), fun _ h => (nomatch h), bx2.upd npa.symm, fun z o e n => upd_at (k02 _ _ e n) (ne_of_none (k02 _ _ e n) hp0)⟩
    · rintro i σ H' _ ⟨_, _, _, _, _, _, _, _, _, _, _, _, _, _, _, _, _, _, k3⟩
      exact SqL.of (k3 _ _ hl nla)
    · rintro i x σ _ H3 hi ⟨m', ds, x4, x7, x8, x9, x10, x11, rfl, hm, hp3, ld, nd', hg', lm', fe, dc, bx3, k3⟩ ⟨rfl, hx⟩
      obtain ⟨r, hr1, hrv⟩ := Paired.at hts hx
      have ilt := (List.getElem?_eq_some_iff.mp hr1).1
      have ee := esum_take hr1
      have ee2 := esum_sub (List.take_sublist (i + 1) rows)
      obtain ⟨ndr, lrr⟩ := l60 r (List.mem_of_getElem? hr1)
      obtain ⟨t1, u1, xs1, rfl, e1, e2, e3⟩ := (RwV.kl hrv (KL.bx k3 bx0))
      have lxs := Paired.len e3
      have hv0 : 0 ≤ get m' r.1 := by
        rw [hg']
        have h1 := fe.nn (get_nn0 mp nd) (fun y hy k => tot_nn (fun p hp => Int.le_of_lt ((l60 y.1 (List.mem_of_mem_take (List.of_mem_zip hy).1)).2 p hp).1) k) ((rows.take i).zip ds).length r.1
        rw [List.take_length] at h1
        exact h1
      walk_at "go"
      refine ⟨Or.inl ⟨enc m', Or.inl hm⟩, ?_⟩
      walk_at "go"
      refine r_ixT (SqT.of e1) (atI_nat (j := 0) rfl) ?_
      walk_at "go"
      refine ⟨_, DGet_enc (r := look m' r.1) (Or.inl hm) rfl, ?_⟩
      rw [get_look]
      walk_at "go"
      refine ⟨fun σ' H' => ∃ most : Int, σ' = [some (.ref a), some (.ref l), some (.ref d), some (.int cap), some (.ref t1), some (.ref c), some (.ref p0), some (.int (get m' r.1)), some (.int most), x9, x10, x11] ∧ 0 ≤ most ∧ most ≤ get m' r.1 ∧ most ≤ cap ∧ H' = H3, ?_, ?_⟩
      · walk_at "go"
        refine ite_d (fun z => ?_) fun z => ?_
        · walk_at "go"
          exact ⟨_, rfl, hv0, Int.le_refl _, by omega, rfl⟩
        · walk_at "go"
          exact ⟨_, rfl, c0, by omega, Int.le_refl _, rfl⟩
      rintro σ' H3 ⟨most, rfl, mo0, mo1, mo2, rfl⟩
      walk_at "go"
      refine ⟨a, b + 2 * (rows.length - (i + 1)) + 1, most + 1, rfl, by rw [show b + 2 * (rows.length - (i + 1)) + 1 + 1 = b + 2 * (rows.length - i) by omega]; exact bx3, by omega, by omega, fun dd H4 d0 d1 bx4 k4 => ?_⟩
      walk_at "go"
      rename_i M hM
      have s5 : Same H4 (upd H4 M (.lst [V.int 0, V.int most, V.int dd])) := fun c o e => upd_at e (ne_of_none e hM)
      have hM5 : upd H4 M (.lst [V.int 0, V.int most, V.int dd]) M = some (.lst [V.int 0, V.int most, V.int dd]) := upd_same
      have nMa : M ≠ a := (bx4.ne hM).symm
      generalize upd H4 M (.lst [V.int 0, V.int most, V.int dd]) = H5 at s5 hM5 ⊢
      refine ⟨a, M, b + 2 * (rows.length - (i + 1)), _, rfl, bx4.same s5, hM5, nMa, by show 0 < 3; omega, by show 3 ≤ 1000; omega, fun x j H6 hxj bx6 k6 => ?_⟩
      obtain ⟨far, rfl, f0, f1⟩ : ∃ far : Int, x = .int far ∧ 0 ≤ far ∧ far ≤ most := by
        match j, hxj with
        | 0, h => cases h; exact ⟨0, rfl, Int.le_refl _, mo0⟩
        | 1, h => cases h; exact ⟨most, rfl, mo0, Int.le_refl _⟩
        | 2, h => cases h; exact ⟨dd, rfl, d0, by omega⟩
      have k36 : Kp a H3 H6 := fun z o e n => k6 _ _ (s5 _ _ (k4 _ _ e n)) n
      have kl6 : KL H3 H6 := KL.bx k36 bx3
      have hm6 := k36 _ _ hm nca
      have hp6 := k36 _ _ hp3 npa
      have e16 := kl6 _ _ e1 fun _ z => by cases z
      have e26 := kl6 _ _ e2 fun _ z => by cases z
      have e36 : Paired (PrA H6) xs1 r.2 := Paired.mapP e3 fun _ _ z => z.kl kl6
      have k06 : Kp a H H6 := fun z o e n => k36 _ _ (k3 _ _ e n) n
      clear hM5 s5 k4 k6 e1 e2 e3 hM k3 hm hp3 bx3 bx4 k36 kl6
      walk_at "go"
      have k7 : Kp p0 H6 (upd H6 p0 (.lst (ds.map V.int ++ [V.int far]))) := fun z o e n => upd_at e n
      have hp7 : upd H6 p0 (.lst (ds.map V.int ++ [V.int far])) p0 = some (.lst (ds.map V.int ++ [V.int far])) := upd_same
      have bx7 := bx6.upd (o := .lst (ds.map V.int ++ [V.int far])) npa.symm
      have kl7 : KL H6 (upd H6 p0 (.lst (ds.map V.int ++ [V.int far]))) := KL.lst hp6
      have k07 : Kp a H (upd H6 p0 (.lst (ds.map V.int ++ [V.int far]))) := fun z o e n => k7 _ _ (k06 _ _ e n) (ne_of_none e hp00)
      generalize upd H6 p0 (.lst (ds.map V.int ++ [V.int far])) = H7 at k7 hp7 bx7 kl7 k07 ⊢
      have hm7 := k7 _ _ hm6 ncp
      have e17 := kl7 _ _ e16 fun _ z => by cases z
      have e27 := kl7 _ _ e26 fun _ z => by cases z
      have e37 : Paired (PrA H7) xs1 r.2 := Paired.mapP e36 fun _ _ z => z.kl kl7
      clear k06 k7 kl7 e16 e26 e36 hm6 hp6 bx6
      walk_at "go"
      refine r_ixT (SqT.of e17) (atI_nat (j := 0) rfl) ?_
      refine ⟨c, _, rfl, DPut_enc hm7 (szl (by omega)), ?_⟩
      have lp := put_len m' r.1 (get m' r.1 - far)
      have nd5 := put_nodup (k := r.1) (n := get m' r.1 - far) nd'
      have hg5 := fun k => get_put m' r.1 k (get m' r.1 - far)
      have k8 : Kp c H7 (upd H7 c (.dK (enc (put m' r.1 (get m' r.1 - far))))) := fun z o e n => upd_at e n
      have hc8 : upd H7 c (.dK (enc (put m' r.1 (get m' r.1 - far)))) c = some (.dK (enc (put m' r.1 (get m' r.1 - far)))) := upd_same
      have ntc : t1 ≠ c := fun z => by rw [z, hm7] at e17; cases e17
      have nuc : u1 ≠ c := fun z => by rw [z, hm7] at e27; cases e27
      have e18 := k8 _ _ e17 ntc
      have e28 := k8 _ _ e27 nuc
      have e38 : Paired (PrA (upd H7 c (.dK (enc (put m' r.1 (get m' r.1 - far)))))) xs1 r.2 := PrA.kpdAll e37 k8 hm7 (fun _ z => by cases z)
      have hp8 := k8 _ _ hp7 ncp.symm
      have k08 : Kp a H (upd H7 c (.dK (enc (put m' r.1 (get m' r.1 - far))))) := fun z o e n => k8 _ _ (k07 _ _ e n) (ne_of_none e hc0)
      have bx8 := bx7.upd (o := .dK (enc (put m' r.1 (get m' r.1 - far)))) nca.symm
      generalize upd H7 c (.dK (enc (put m' r.1 (get m' r.1 - far)))) = H8 at k8 hc8 e18 e28 e38 hp8 k08 bx8 ⊢
      generalize put m' r.1 (get m' r.1 - far) = m5 at lp nd5 hg5 hc8
      clear k8 hm7 e17 e27 e37 k07 bx7 hp7
      walk_at "go"
      refine r_ixT (SqT.of e18) (atI_nat (j := 1) rfl) ?_
      refine ⟨u1, rfl, ⟨_, SqT.of e28⟩, ?_⟩
      refine for_it (walk_tup (xs := xs1)) (fun j σ H' => ∃ (m6 : AL) (y6 y7 : Option V), σ = [some (.ref a), some (.ref l), some (.ref d), some (.int cap), some (.ref t1), some (.ref c), some (.ref p0), some (.int (get m' r.1)), some (.int most), some (.int far), y6, y7] ∧ H' c = some (.dK (enc m6)) ∧ (keys m6).Nodup ∧ (∀ k, get m6 k = get m5 k + far * tot (r.2.take j) k) ∧ m6.length ≤ m5.length + j ∧ Bx H' a (b + 2 * (rows.length - (i + 1))) ∧ Kp c H8 H') ?_ ?_ ?_ ?_
      · exact ⟨m5, _, _, rfl, hc8, nd5, fun k => by rw [List.take_zero]; show _ = _ + far * 0; omega, Nat.le_refl _, bx8, fun _ _ e _ => e⟩
      · rintro j σ H' _ ⟨_, _, _, _, _, _, _, _, _, k9⟩
        exact SqT.of (k9 _ _ e28 nuc)
      · rintro j y σ _ H9 hj ⟨m6, y6, y7, rfl, hc9, nd6, hg6, lm6, bx9, k9⟩ ⟨rfl, hy⟩
        obtain ⟨p1, hp1', t2, rfl, ht2⟩ := Paired.at e38 hy
        have nt2 : t2 ≠ c := fun z => by rw [z, hc8] at ht2; cases ht2
        have ht9 := k9 _ _ ht2 nt2
        have pb := lrr p1 (List.mem_of_getElem? hp1')
        walk_at "go"
        refine ⟨Or.inl ⟨enc m6, Or.inl hc9⟩, ?_⟩
        walk_at "go"
        refine ⟨_, DGet_enc (r := look m6 p1.1) (Or.inl hc9) rfl, ?_⟩
        rw [get_look]
        walk_at "go"
        have lp6 := put_len m6 p1.1 (get m6 p1.1 + far * p1.2)
        refine ⟨c, _, rfl, DPut_enc hc9 (szl (by omega)), put m6 p1.1 (get m6 p1.1 + far * p1.2), _, _, rfl, upd_same, put_nodup nd6, fun k => ?_, by omega, bx9.upd nca.symm, fun z o e n => by rw [upd_ne n]; exact k9 _ _ e n⟩
        rw [get_put, tot_take hp1', Int.mul_add]
        by_cases z : k = p1.1
        · rw [if_pos z, if_pos z.symm, ← z, hg6 k, Int.add_assoc]
        · rw [if_neg z, if_neg (Ne.symm z), Int.mul_zero, Int.add_zero]
          exact hg6 k
      · rintro σ H9 ⟨m6, y6, y7, rfl, hc9, nd6, hg6, lm6, bx9, k9⟩
        rw [lxs, List.take_length] at hg6
        have ez := zip_snoc (d := far) hr1 ld
        refine ⟨m6, ds ++ [far], _, _, _, _, _, _, rfl, hc9, by rw [List.map_append]; exact k9 _ _ hp8 ncp.symm, by rw [List.length_append, ld]; rfl, nd6, fun k => ?_, by omega, ?_, fun z hz => ?_, bx9, fun z o e n => k9 _ _ (k08 _ _ e n) (ne_of_none e hc0)⟩
        · rw [hg6, hg5, ez, endG_app]
          show _ = endS (endG (get m) ((rows.take i).zip ds)) (r, far) k
          unfold endS
          rw [← hg' k]
          by_cases z : k = r.1
          · rw [if_pos z, if_pos z.symm, z]
          · rw [if_neg z, if_neg (Ne.symm z), Int.sub_zero]
        · rw [ez]
          refine fe.snoc f0 ?_
          show far ≤ endG (get m) ((rows.take i).zip ds) r.1
          rw [← hg']
          omega
        · rcases List.mem_append.mp hz with y | y
          · exact dc z y
          · rw [List.mem_singleton.mp y]; omega
    · rintro σ H3 ⟨m', ds, x4, x7, x8, x9, x10, x11, rfl, hm, hp3, ld, nd', hg', lm', fe, dc, bx3, k3⟩
      rw [lts, List.take_length] at fe
      rw [lts] at bx3
      walk_at "go"
      exact q p0 ds H3 hp00 hp3 (by omega) fe dc (bx3.mono (by omega)) k3
end


/-- the error Short -/
structure TxSh (K : PySem.W.Frag) (mg : Str → Option Value) (CS : Addr) : Prop where
  gS : mg "Short" = some (.ref CS)
  mS : PySem.W.exmOne K (.ref CS) (.ref CS) = some true
  fS : XfC K CS
  nS : ∀ x ∈ (["kind", "lacking"] : List Str), PySem.W.findIn K (.ref CS) x = some none
section
variable {P : Program} {w : World} {K : PySem.W.Frag} {mg : Str → Option Value} {base : Heap} {C CO CP CS t0 : Addr}
abbrev sTold : Stmt := top 44
theorem scTold : FnScope ["_law_plan_so", "_law_lot_so", "error_so", "_law_caught", "_law_told_here"] ["_law_plan_so", "_law_lot_so"] (defScope sTold) := ⟨rfl, rfl, rfl, by decide +kernel, rfl, by decide +kernel, by decide +kernel⟩
/-- a plan's end told: its pairs, or what is lacking -/
def spTold (P : Program) (w : World) (C CP : Addr) : Sp := fun vs H Q _ => ∃ (p s : Addr) (m : PL) (ms : AL) (ns : List Str), vs = [.ref p, .ref s] ∧ PlanA P w CP H p m ∧ LoA C H s ms ∧ SmallP m ∧ ns.length ≤ 13 ∧ InNs ns m ∧ (∀ k ∈ keys ms, k ∈ ns) ∧
  (((∀ k, 0 ≤ aft (get ms) m k) ∧ ∀ (t : Addr) (ts : List V) (qs m' : AL) (H' : Hp), H t = none → H' t = some (.tup ts) → Paired (PrA H') ts qs → Cn m' qs → (keys m').Nodup → (∀ k, get m' k = aft (get ms) m k) → m'.length ≤ 30 → Same H H' → Q (.ref t) H') ∨
   ∃ k0, aft (get ms) m k0 < 0 ∧ (∀ k, aft (get ms) m k < 0 → sle k0 k = true) ∧ ∀ (t : Addr) (H' : Hp), H t = none → H' t = some (.tup [.str "short", .str k0, .int (- aft (get ms) m k0)]) → Same H H' → Q (.ref t) H')
theorem ok_told {f : Addr} {fd : FuncData} (F : Fun K "_law_told" "_law_told" sTold f fd) (T : Txt K mg) (L : TxL K C) (PT : TxP K CP) (Y : TxSh K mg CS) (Op : OCal P w K mg base CX0 2 C "pairs" ["self"] (spLotPairs C)) (Paf : OCal P w K mg base CX0 9 CP "after" ["self", "stock"] (spPlanAft P w C CP)) (Pax : OCal P w K mg base (CX P w) 9 CP "after" ["self", "stock"] (spPlanAftX P w C CP CS)) : FnOk P w K mg base CX0 10 f fd ["_law_plan_so", "_law_lot_so"] (spTold P w C CP) := by
  refine F.ok scTold (fun vs H Q E h => ?_) (fun cdv A outer s H vs Q E hr h => ?_)
  · obtain ⟨p, s, m, ms, ns, rfl, _⟩ := h
    rfl
  · obtain ⟨p, s, m, ms, ns, rfl, hP, Ls, sm, lns, ins, kms, q⟩ := h
    obtain ⟨dx, d, L1, h1, _, _, pk⟩ := id hP
    rcases q with ⟨le, q⟩ | ⟨k0, lt, mn, q⟩
    · refine ⟨_, pss_cons (ps_asg (pe_tup (pa_cons pe_non (pa_cons pe_non pa_nil))) (pg_tup rfl (pgs_cons (pg_name (i := 3) scTold.nd rfl (Or.inl rfl)) (pgs_cons (pg_name (i := 4) scTold.nd rfl (Or.inl rfl)) pgs_nil))))
        (pss_cons (ps_try_asD (i := 2) (cls := .ref CS) rfl rfl scTold.nd rfl rfl (by rfl) (by decide) Y.gS rfl Y.mS
          (fun W pn xe tk _ => pss_one (ps_set (i := 4) scTold.nd rfl (Or.inl rfl) (pe_methO Paf PT.oc.cl (hr.mono (by decide)) pass0 (pv 0) (pa_cons (pv 1) pa_nil))))
          (fun a oe d pn hz hf => pss_one (ps_set (i := 3) scTold.nd rfl (Or.inl rfl) (pv 2))))
        (pss_one (ps_ret (pe_ifExp (pt_cmpR o_isN (pv 3) pe_non (nomark _)) (pe_methO0 Op L.oc.cl (hr.mono (by decide)) pass0 (pv 4)) (pe_tup (pa_cons pe_str (pa_cons (pe_xd K (pv 3)) (pa_cons (pe_xd K (pv 3)) pa_nil)))))))), ?_⟩
      walk_at "in"
      walk_at "go"
      rename_i pt hpt
      have s1 : Same H (upd H pt (.tup [V.non, V.non])) := fun c o e => upd_at e (ne_of_none e hpt)
      generalize upd H pt (.tup [V.non, V.non]) = H1 at s1 ⊢
      refine r_var rfl ⟨p, dx, _, rfl, s1 _ _ h1, lookP, ?_⟩
      walk_at "go"
      refine ⟨p, s, m, ms, ns, rfl, hP.same s1, Ls.same s1, sm, lns, ins, kms, le, fun x m' H2 hx Lx g s2 => ?_⟩
      obtain ⟨⟨d3, dx3, h13, h23⟩, nd3, mp3, ml3⟩ := id Lx.lo
      walk_at "go"
      refine ite_dT rfl ?_
      walk_at "go"
      refine r_meth0 ?_
      walk_at "go"
      refine ⟨x, dx3, _, rfl, h13, look1, x, m', rfl, Lx.lo, fun t ts qs H3 ht ht3 hts cn s3 => ?_⟩
      have s13 : Same H H3 := fun c o e => s3 _ _ (s2 _ _ (s1 _ _ e))
      exact q t ts qs m' H3 (s1.free (s2.free ht)) ht3 hts cn nd3 g ml3 s13
    · refine ⟨_, pss_cons (ps_asg (pe_tup (pa_cons pe_non (pa_cons pe_non pa_nil))) (pg_tup rfl (pgs_cons (pg_name (i := 3) scTold.nd rfl (Or.inl rfl)) (pgs_cons (pg_name (i := 4) scTold.nd rfl (Or.inl rfl)) pgs_nil))))
        (pss_cons (ps_try_asD (i := 2) (cls := .ref CS) rfl rfl scTold.nd rfl rfl (by rfl) (by decide) Y.gS rfl Y.mS
          (fun W pn xe tk _ => pss_one (ps_set (i := 4) scTold.nd rfl (Or.inl rfl) (pe_meR Pax PT.oc.cl (hr.mono (by decide)) (fun σ => passAt tk σ) (pv 0) (pa_cons (pv 1) pa_nil))))
          (fun a oe d pn hz hf => pss_one (ps_set (i := 3) scTold.nd rfl (Or.inl rfl) (pv 2))))
        (pss_one (ps_ret (pe_ifExp (pt_cmpR o_isN (pv 3) pe_non (nomark _)) (pe_methO0 Op L.oc.cl (hr.mono (by decide)) pass0 (pv 4)) (pe_tup (pa_cons pe_str (pa_cons (pe_xd K (pv 3)) (pa_cons (pe_xd K (pv 3)) pa_nil)))))))), ?_⟩
      walk_at "in"
      walk_at "go"
      rename_i pt hpt
      have s1 : Same H (upd H pt (.tup [V.non, V.non])) := fun c o e => upd_at e (ne_of_none e hpt)
      generalize upd H pt (.tup [V.non, V.non]) = H1 at s1 ⊢
      refine r_meR ?_
      walk_at "go"
      refine ⟨p, dx, _, rfl, s1 _ _ h1, lookP, ?_⟩
      walk_at "go"
      refine ⟨p, s, m, ms, ns, k0, rfl, hP.same s1, Ls.same s1, sm, lns, ins, kms, lt, mn, fun dd H2 hd s2 hdd => ?_⟩
      refine ⟨rfl, fun e he => ?_⟩
      walk_at "go"
      intro _
      have er1 : Er (upd H2 e (ExD (.ref CS) (some dd) e)) e CS [("lacking", .int (- aft (get ms) m k0)), ("kind", .str k0)] := ⟨some dd, upd_same, .inr ⟨dd, rfl, upd_at hdd (ne_of_none hdd he)⟩⟩
      have s3 : Same H (upd H2 e (ExD (.ref CS) (some dd) e)) := fun c o e' => by
        have := s2 _ _ (s1 _ _ e')
        exact upd_at this (ne_of_none this he)
      generalize upd H2 e (ExD (.ref CS) (some dd) e) = H3 at s3 er1 ⊢
      clear he hdd s2 s1 hd
      walk_at "go"
      refine ite_dF (by intro z; cases z) ?_
      walk_at "go"
      refine r_xdv rfl er1 Y.fS (Y.nS _ (by simp)) rfl ?_
      walk_at "go"
      refine r_xdv rfl er1 Y.fS (Y.nS _ (by simp)) rfl ?_
      walk_at "go"
      rename_i u hu
      exact q u _ (s3.free hu) upd_same fun c o e' => upd_at (s3 _ _ e') (ne_of_none (s3 _ _ e') hu)
end


/-! plans and the numbers behind them: the mathematics -/
theorem endS_dlt (g : Str → Int) (x : Row × Int) (k : Str) : endS g x k = g k + x.2 * dlt k x.1 := by
  unfold endS dlt
  rw [Int.mul_sub]
  split
  · rw [Int.mul_one]; omega
  · rw [Int.mul_zero]; omega
theorem endG_sum (k : Str) : ∀ (xs : PL) (g : Str → Int), endG g xs k = g k + wsum xs (dlt k)
  | [], g => (Int.add_zero _).symm
  | x :: xs, g => by
    show endG (endS g x) xs k = _
    rw [endG_sum k xs, endS_dlt, wsum_cons, Int.add_assoc]
theorem aft_end {m xs : PL} (ws : ∀ f, wsum m f = wsum xs f) (g : Str → Int) (k : Str) : aft g m k = endG g xs k := by
  rw [endG_sum]
  unfold aft
  rw [ws]
theorem dlt_out {k : Str} {r : Row} (h1 : r.1 ≠ k) (h2 : k ∉ keys r.2) : dlt k r = 0 := by
  unfold dlt
  rw [tot_out h2, if_neg h1]
  rfl
/-- rows over the names ns -/
def RIn (ns : List Str) (rows : List Row) : Prop := ∀ r ∈ rows, r.1 ∈ ns ∧ ∀ k ∈ keys r.2, k ∈ ns
theorem wsum_out {ns : List Str} {xs : PL} (h : RIn ns (pkeys xs)) {k : Str} (hk : k ∉ ns) : wsum xs (dlt k) = 0 :=
  wsum_zero fun r hr => dlt_out (fun e => hk (by rw [← e]; exact (h r hr).1)) fun z => hk ((h r hr).2 k z)
theorem zip_keys {rows : List Row} {ds : List Int} (l : ds.length = rows.length) : pkeys (rows.zip ds) = rows := by
  unfold pkeys
  exact List.map_fst_zip (by omega)
theorem endG_out {ns : List Str} {rows : List Row} {ds : List Int} (h : RIn ns rows) (l : ds.length = rows.length) {g : Str → Int} {k : Str} (hk : k ∉ ns) (g0 : g k = 0) : endG g (rows.zip ds) k = 0 := by
  rw [endG_sum, g0, wsum_out (by rw [zip_keys l]; exact h) hk]
  rfl
theorem wsum_ind {m : PL} (nd : (pkeys m).Nodup) (r : Row) : wsum m (fun r' => if r' = r then 1 else 0) = pget m r := by
  induction m with
  | nil => rfl
  | cons x m ih =>
    obtain ⟨h1, h2⟩ := List.nodup_cons.mp (show (x.1 :: pkeys m).Nodup from nd)
    rw [wsum_cons, ih h2]
    unfold pget
    rw [plook_cons]
    by_cases e : x.1 = r
    · rw [if_pos e, if_pos e, plook_none.mpr (by rw [← e]; exact h1)]
      show x.2 * 1 + 0 = x.2
      omega
    · rw [if_neg e, if_neg e]
      show x.2 * 0 + _ = _
      omega
theorem wsum_ind_le {B : Int} {r : Row} : ∀ {cs : PL}, (∀ y ∈ cs, 0 ≤ y.2 ∧ y.2 ≤ B) → wsum cs (fun r' => if r' = r then 1 else 0) ≤ cs.length * B
  | [], _ => by show (0 : Int) ≤ _; simp
  | y :: cs, h => by
    rw [wsum_cons]
    have h1 := wsum_ind_le (r := r) (cs := cs) fun z hz => h z (List.mem_cons_of_mem _ hz)
    obtain ⟨h2, h3⟩ := h y List.mem_cons_self
    have e : ((y :: cs).length : Int) * B = cs.length * B + B := by
      rw [List.length_cons]
      show ((cs.length : Int) + 1) * B = _
      rw [Int.add_mul, Int.one_mul]
    rw [e]
    by_cases c : y.1 = r
    · rw [if_pos c, Int.mul_one]; omega
    · rw [if_neg c, Int.mul_zero]; omega
theorem small_of {m cs : PL} (pk : PlOk m) (ws : ∀ f, wsum m f = wsum cs f) (h : ∀ y ∈ cs, 0 ≤ y.2 ∧ y.2 ≤ 2 ^ 200) (lc : cs.length ≤ 60) (hr : ∀ r ∈ pkeys m, ∀ p ∈ r.2, 0 < p.2 ∧ p.2 < 2 ^ 64) : SmallP m := fun x hx => by
  refine ⟨?_, fun p hp => ?_⟩
  · have h1 := wsum_ind pk.nd x.1
    rw [pget_mem pk.nd hx, ws] at h1
    have h2 := wsum_ind_le (r := x.1) h
    have h3 := pk.ps x hx
    have h4 : (cs.length : Int) * 2 ^ 200 ≤ 60 * 2 ^ 200 := Int.mul_le_mul_of_nonneg_right (by omega) (by decide)
    have h5 : (60 : Int) * 2 ^ 200 < 2 ^ 300 := by decide
    have h6 : x.2 < 2 ^ 300 := by omega
    have h7 : (x.2.natAbs : Int) < 2 ^ 300 := by rw [Int.natAbs_of_nonneg (Int.le_of_lt h3)]; exact h6
    exact_mod_cast h7
  · obtain ⟨p0, p1⟩ := hr x.1 (List.mem_map.mpr ⟨x, hx, rfl⟩) p hp
    have h5 : (2 : Int) ^ 64 < 2 ^ 300 := by decide
    have h7 : (p.2.natAbs : Int) < 2 ^ 300 := by rw [Int.natAbs_of_nonneg (Int.le_of_lt p0)]; omega
    exact_mod_cast h7
theorem wsum_le_one {xs : PL} {f : Row → Int} (h : ∀ x ∈ xs, x.2 * f x.1 ≤ 0) {x : Row × Int} (hx : x ∈ xs) : wsum xs f ≤ x.2 * f x.1 := by
  induction xs with
  | nil => cases hx
  | cons y xs ih =>
    rw [wsum_cons]
    have h1 := h y List.mem_cons_self
    have h2 : wsum xs f ≤ 0 := by
      have : ∀ zs : PL, (∀ x ∈ zs, x.2 * f x.1 ≤ 0) → wsum zs f ≤ 0 := fun zs => by
        induction zs with
        | nil => exact fun _ => Int.le_refl _
        | cons z zs ih =>
          intro hz
          rw [wsum_cons]
          have := hz z List.mem_cons_self
          have := ih fun x hx => hz x (List.mem_cons_of_mem _ hx)
          omega
      exact this xs fun x hx => h x (List.mem_cons_of_mem _ hx)
    rcases List.mem_cons.mp hx with z | z
    · rw [z]; omega
    · have := ih (fun x hx => h x (List.mem_cons_of_mem _ hx)) z
      omega
theorem wsum_zip_set (f : Row → Int) (v : Int) : ∀ (rows : List Row) (rs : List Int) (j : Nat) (r : Row) (o : Int), rows[j]? = some r → rs[j]? = some o → wsum (rows.zip (rs.set j v)) f = wsum (rows.zip rs) f + (v - o) * f r
  | [], _, _, _, _, h, _ => by simp at h
  | _ :: _, [], _, _, _, _, h => by simp at h
  | x :: rows, y :: rs, 0, r, o, h1, h2 => by
    cases h1
    cases h2
    show wsum ((x, v) :: rows.zip rs) f = wsum ((x, y) :: rows.zip rs) f + _
    rw [wsum_cons, wsum_cons, Int.sub_mul]
    show v * f x + wsum (rows.zip rs) f = y * f x + wsum (rows.zip rs) f + (v * f x - y * f x)
    omega
  | x :: rows, y :: rs, j + 1, r, o, h1, h2 => by
    show wsum ((x, y) :: rows.zip (rs.set j v)) f = wsum ((x, y) :: rows.zip rs) f + _
    rw [wsum_cons, wsum_cons, wsum_zip_set f v rows rs j r o (by simpa using h1) (by simpa using h2)]
    omega
theorem sum_set : ∀ (rs : List Int) (j : Nat) (o v : Int), rs[j]? = some o → (rs.set j v).sum = rs.sum + (v - o)
  | [], _, _, _, h => by simp at h
  | y :: rs, 0, o, v, h => by
    cases h
    show (v :: rs).sum = (y :: rs).sum + (v - y)
    rw [List.sum_cons, List.sum_cons]
    omega
  | y :: rs, j + 1, o, v, h => by
    show (y :: rs.set j v).sum = (y :: rs).sum + _
    rw [List.sum_cons, List.sum_cons, sum_set rs j o v (by simpa using h)]
    omega
/-- the first row that is still to be opened can be opened: nothing that is still to be opened holds its kind -/
theorem first_rest : ∀ (rs : List Int), (∀ r ∈ rs, 0 ≤ r) → 0 < rs.sum → ∃ (j : Nat) (o : Int), rs[j]? = some o ∧ 0 < o ∧ ∀ i o', i < j → rs[i]? = some o' → o' = 0
  | [], _, h => by simp at h
  | y :: rs, h0, h => by
    by_cases c : 0 < y
    · exact ⟨0, y, rfl, c, fun i _ hi => absurd hi (Nat.not_lt_zero _)⟩
    · have y0 : y = 0 := by have := h0 y List.mem_cons_self; omega
      rw [List.sum_cons, y0, Int.zero_add] at h
      obtain ⟨j, o, h1, h2, h3⟩ := first_rest rs (fun r hr => h0 r (List.mem_cons_of_mem _ hr)) h
      refine ⟨j + 1, o, by simpa using h1, h2, fun i o' hi hr => ?_⟩
      cases i with
      | zero => cases hr; exact y0
      | succ i => exact h3 i o' (by omega) (by simpa using hr)
theorem sum_nn : ∀ {rs : List Int}, (∀ r ∈ rs, 0 ≤ r) → 0 ≤ rs.sum
  | [], _ => Int.le_refl _
  | y :: rs, h => by
    rw [List.sum_cons]
    have := sum_nn fun r hr => h r (List.mem_cons_of_mem y hr)
    have := h y List.mem_cons_self
    omega
theorem sum_zero : ∀ {rs : List Int}, (∀ r ∈ rs, 0 ≤ r) → rs.sum = 0 → ∀ r ∈ rs, r = 0
  | [], _, _, _, h => (nomatch h)
  | y :: rs, h, s, r, hr => by
    rw [List.sum_cons] at s
    have h1 := sum_nn fun r hr => h r (List.mem_cons_of_mem y hr)
    have h2 := h y List.mem_cons_self
    rcases List.mem_cons.mp hr with z | z
    · rw [z]; omega
    · exact sum_zero (fun r hr => h r (List.mem_cons_of_mem y hr)) (by omega) r z
/-- outer kinds first: what stands behind a row doesn't hold its kind -/
def OutF (rows : List Row) : Prop := ∀ (i j : Nat) (a b : Row), i ≤ j → rows[i]? = some a → rows[j]? = some b → a.1 ∉ keys b.2
theorem Drawn.outF {ns : List Str} {far : Int} {rows : List Row} (h : Drawn ns far rows) (nd : ns.Nodup) : OutF rows := fun i j a b ij ha hb hm => by
  have le : ns.idxOf a.1 ≤ ns.idxOf b.1 := by
    rcases Nat.eq_or_lt_of_le ij with z | z
    · rw [z, hb] at ha
      cases ha
      exact Nat.le_refl _
    · obtain ⟨li, ei⟩ := List.getElem?_eq_some_iff.mp ha
      obtain ⟨lj, ej⟩ := List.getElem?_eq_some_iff.mp hb
      have := List.pairwise_iff_getElem.mp h.od i j li lj z
      rw [ei, ej] at this
      exact this
  obtain ⟨k, z⟩ := h.rw_ b (List.mem_of_getElem? hb)
  obtain ⟨p, hp, e⟩ := List.mem_map.mp hm
  obtain ⟨_, _, l, kl, hl⟩ := z.ps p hp
  have e1 := idx_at nd z.hd
  have e2 := idx_at nd hl
  rw [← e] at le
  omega
theorem Drawn.rin {ns : List Str} {far : Int} {rows : List Row} (h : Drawn ns far rows) : RIn ns rows := fun r hr => by
  obtain ⟨k, z⟩ := h.rw_ r hr
  refine ⟨List.mem_of_getElem? z.hd, fun c hc => ?_⟩
  obtain ⟨p, hp, rfl⟩ := List.mem_map.mp hc
  obtain ⟨_, _, l, _, hl⟩ := z.ps p hp
  exact List.mem_of_getElem? hl
theorem Drawn.sm {ns : List Str} {far : Int} {rows : List Row} (h : Drawn ns far rows) (f64 : far < 2 ^ 64) : ∀ r ∈ rows, ∀ p ∈ r.2, 0 < p.2 ∧ p.2 < 2 ^ 64 := fun r hr p hp => by
  obtain ⟨k, z⟩ := h.rw_ r hr
  obtain ⟨h1, h2, _⟩ := z.ps p hp
  exact ⟨h1, by omega⟩
/-- some row can be opened while some are to be opened -/
theorem can_open {rows : List Row} {rs : List Int} {E : Str → Int} (of : OutF rows) (l : rs.length = rows.length) (r0 : ∀ r ∈ rs, 0 ≤ r) (s : 0 < rs.sum) (e0 : ∀ k, 0 ≤ E k) :
    ∃ (j : Nat) (r : Row) (o : Int), rows[j]? = some r ∧ rs[j]? = some o ∧ 0 < o ∧ 0 < E r.1 - wsum (rows.zip rs) (dlt r.1) := by
  obtain ⟨j, o, hj, o0, bef⟩ := first_rest rs r0 s
  have lj := (List.getElem?_eq_some_iff.mp hj).1
  obtain ⟨r, hr⟩ : ∃ r, rows[j]? = some r := ⟨rows[j]'(by omega), List.getElem?_eq_getElem (by omega)⟩
  refine ⟨j, r, o, hr, hj, o0, ?_⟩
  have self : tot r.2 r.1 = 0 := tot_out (of j j r r (Nat.le_refl _) hr hr)
  have h1 := wsum_le_one (xs := rows.zip rs) (f := dlt r.1) (fun x hx => ?_) (x := (r, o)) (List.mem_of_getElem? (List.getElem?_zip_eq_some.mpr ⟨hr, hj⟩))
  · have h2 : o * dlt r.1 r = - o := by
      unfold dlt
      rw [self, if_pos rfl]
      omega
    have h3 : wsum (rows.zip rs) (dlt r.1) ≤ - o := by rw [← h2]; exact h1
    have := e0 r.1
    omega
  · obtain ⟨i, hi⟩ := List.mem_iff_getElem?.mp hx
    obtain ⟨h2, h3⟩ := List.getElem?_zip_eq_some.mp hi
    by_cases c : i < j
    · rw [bef i x.2 c h3, Int.zero_mul]
      exact Int.le_refl _
    · have h4 := of j i r x.1 (by omega) hr h2
      have h5 := r0 x.2 (List.mem_of_getElem? h3)
      have h6 : dlt r.1 x.1 ≤ 0 := by
        unfold dlt
        rw [tot_out h4]
        split <;> omega
      exact Int.mul_nonpos_of_nonneg_of_nonpos h5 h6


/-- kinds of a lot by its numbers -/
theorem kin_of {m : AL} {ns : List Str} (nd : (keys m).Nodup) (mp : ∀ p ∈ m, 0 < p.2) (h : ∀ k, k ∉ ns → get m k = 0) : ∀ k ∈ keys m, k ∈ ns := fun k hk => Classical.byContradiction fun c => by
  have h1 := h k c
  have h2 := get_pos mp nd hk
  omega
section
variable {P : Program} {w : World} {K : PySem.W.Frag} {mg : Str → Option Value} {base : Heap} {C CO CP CS t0 : Addr}
/-- Plan([(opening, n)]) -/
theorem plan1_end {H2 : Hp} {D t o : Addr} {r : Row} {n : Int} {R : Addr → Hp → Prop} {E : XK} (hD : H2 D = some (.lst [.ref t])) (ht : H2 t = some (.tup [.ref o, .int n])) (ho : OpA CO H2 o r.1 r.2) (rk : RowOk r) (l28 : r.2.length ≤ 28) (n0 : 0 ≤ n) (n200 : n ≤ 2 ^ 200) (r64 : ∀ p ∈ r.2, 0 < p.2 ∧ p.2 < 2 ^ 64)
    (q : ∀ (x : Addr) (m : PL) (H' : Hp), H2 x = none → PlanA P w CP H' x m → (∀ g k, aft g m k = g k + n * dlt k r) → SmallP m → (∀ ns, (r.1 ∈ ns ∧ ∀ k ∈ keys r.2, k ∈ ns) → InNs ns m) → Same H2 H' → R x H') :
    ∀ x dx, H2 x = none → H2 dx = none → dx ≠ x → spPlanInit P w K CO CP [.ref x, .ref D] (upd (upd H2 dx (.own x)) x (.ins CP dx [])) (fun v H2 => v = .non ∧ R x H2) E := by
  refine planInit_end (cs := [(r, n)]) (rows := [r]) (.inl (SqL.of hD)) (.cons ⟨t, o, rfl, ht, ho⟩ .nil) (by show 1 ≤ 60; omega) (fun x hx => ?_) (by rw [esum_one]; exact l28) fun x m H' hx Px ws mk s1 => ?_
  · rw [List.mem_singleton.mp hx]
    exact ⟨n0, rk, List.mem_singleton_self _⟩
  · have mr : ∀ r' ∈ pkeys m, r' = r := fun r' hr => List.mem_singleton.mp (mk r' hr)
    obtain ⟨_, _, _, _, _, _, pk⟩ := id Px
    refine q x m H' hx Px (fun g k => ?_) (small_of pk ws (fun y hy => by rw [List.mem_singleton.mp hy]; exact ⟨n0, n200⟩) (by show 1 ≤ 60; omega) fun r' hr => by rw [mr r' hr]; exact r64) (fun ns h r' hr => by rw [mr r' hr]; exact h) s1
    unfold aft
    rw [ws, wsum_cons]
    show _ + (n * dlt k r + 0) = _
    rw [Int.add_zero]
abbrev sBatched : Stmt := top 46
theorem scBatched : FnScope ["_law_rows_so", "_law_done", "_law_lot_so", "_law_here", "_law_row", "_law_far"] ["_law_rows_so", "_law_done", "_law_lot_so"] (defScope sBatched) := ⟨rfl, rfl, rfl, by decide +kernel, rfl, by decide +kernel, by decide +kernel⟩
def spBatched (C : Addr) : Sp := fun vs H Q _ => ∃ (l n s : Addr) (ts : List V) (rows : List Row) (ds : List Int) (ms : AL) (ns : List Str), vs = [.ref l, .ref n, .ref s] ∧ H l = some (.lst ts) ∧ Paired (RwV H) ts rows ∧ H n = some (.lst (ds.map V.int)) ∧ ds.length = rows.length ∧ LoA C H s ms ∧ (∀ r ∈ rows, RowOk r) ∧ esum rows ≤ 28 ∧ (∀ r ∈ rows, ∀ p ∈ r.2, 0 < p.2 ∧ p.2 < 2 ^ 64) ∧ (∀ d ∈ ds, d ≤ 2 ^ 200) ∧ ns.length ≤ 13 ∧ RIn ns rows ∧ (∀ k ∈ keys ms, k ∈ ns) ∧ Feas (get ms) (rows.zip ds) ∧
  ∀ (t : Addr) (us : List V) (qs m' : AL) (H' : Hp), H t = none → H' t = some (.tup us) → Paired (PrA H') us qs → Cn m' qs → (keys m').Nodup → (∀ k, get m' k = endG (get ms) (rows.zip ds) k) → m'.length ≤ 30 → Same H H' → Q (.ref t) H'
theorem ok_batched {f : Addr} {fd : FuncData} (F : Fun K "_law_batched" "_law_batched" sBatched f fd) (T : Txt K mg) (L : TxL K C) (PT : TxP K CP) (Cw : Cal P w K mg base CX0 5 "_law_way" ["_law_row"] (spWay CO)) (Pm : OMk P w K mg base CX0 4 CP "Plan" ["self", "counts"] (spPlanInit P w K CO CP)) (Paf : OCal P w K mg base CX0 9 CP "after" ["self", "stock"] (spPlanAft P w C CP)) (Op : OCal P w K mg base CX0 2 C "pairs" ["self"] (spLotPairs C)) : FnOk P w K mg base CX0 10 f fd ["_law_rows_so", "_law_done", "_law_lot_so"] (spBatched C) := by
  refine F.ok scBatched (fun vs H Q E h => ?_) (fun cdv A outer s H vs Q E hr h => ?_)
  · obtain ⟨l, n, s, ts, rows, ds, ms, ns, rfl, _⟩ := h
    rfl
  · obtain ⟨l, n, s0, ts, rows, ds, ms, ns, rfl, hl, hts, hn, lds, Ls, rok, es, r64, d200, lns, rin, kms, fe, q⟩ := h
    refine ⟨_, (pss_cons (ps_set (i := 3) scBatched.nd rfl (Or.inl rfl) (pv 2))
  (pss_cons (ps_for PassesOwn.never rfl (RZ.pi_zipA (by rfl) T.zip (pa_cons (pv 0) (pa_cons (pv 1) pa_nil))) (pg_tup rfl (pgs_cons (pg_name (i := 4) scBatched.nd rfl (Or.inl rfl)) (pgs_cons (pg_name (i := 5) scBatched.nd rfl (Or.inl rfl)) pgs_nil)))
  (pss_one (ps_set (i := 3) scBatched.nd rfl (Or.inl rfl) (pe_methO Paf PT.oc.cl (hr.mono (by decide)) pass0 (pe_makeO Pm (hr.mono (by decide)) pass0 (pa_cons (pe_lst (pa_cons (pe_tup (pa_cons (pe_cal Cw (hr.mono (by decide)) pass0 (pa_cons (pv 4) pa_nil)) (pa_cons (pv 5) pa_nil))) pa_nil)) pa_nil)) (pa_cons (pv 3) pa_nil)))))
  (pss_one (ps_ret (pe_methO0 Op L.oc.cl (hr.mono (by decide)) pass0 (pv 3)))))), ?_⟩
    have lts := Paired.len hts
    obtain ⟨⟨dl0, dxl0, _, _⟩, nds, mps, mls⟩ := id Ls
    have g0 := fun k => get_nn mps nds k
    have allnn : ∀ i k, 0 ≤ endG (get ms) ((rows.zip ds).take i) k := fe.nn g0 fun x hx k => tot_nn (fun p hp => Int.le_of_lt (r64 x.1 (List.of_mem_zip hx).1 p hp).1) k
    have outG : ∀ i k, k ∉ ns → endG (get ms) ((rows.zip ds).take i) k = 0 := fun i k hk => by
      rw [endG_sum, get_none fun z => hk (kms k z)]
      rw [wsum_out (ns := ns) (fun r hr => rin r ?_) hk]
      · rfl
      · obtain ⟨x, hx, rfl⟩ := List.mem_map.mp hr
        exact (List.of_mem_zip (List.mem_of_mem_take hx)).1
    walk_at "in"
    walk_at "go"
    refine ⟨l, n, ts, ds.map V.int, rfl, .inl ⟨SqL.of hl, SqL.of hn, ?_⟩⟩
    refine for_it (walk_zip (n := rows.length) (xs := ts) (ys := ds.map V.int) (by rw [List.length_map]; omega)) (fun i σ H' => ∃ (h : Addr) (mh : AL) (x4 x5 : Option V), σ = [some (.ref l), some (.ref n), some (.ref s0), some (.ref h), x4, x5] ∧ LoA C H' h mh ∧ (∀ k, get mh k = endG (get ms) ((rows.zip ds).take i) k) ∧ Same H H') ?_ ?_ ?_ ?_
    · exact ⟨s0, ms, _, _, rfl, Ls, fun k => rfl, fun _ _ e => e⟩
    · rintro i σ H' _ ⟨_, _, _, _, _, _, _, s3⟩
      exact ⟨SqL.of (s3 _ _ hl), SqL.of (s3 _ _ hn)⟩
    · rintro i x σ H3 H4 hi ⟨h, mh, x4, x5, rfl, Lh, gh, s3⟩ ⟨t, u, v, rfl, ht, rfl, hu1, hv1⟩
      obtain ⟨r, hr1, hrv⟩ := Paired.at hts hu1
      have hv1 : (ds.map V.int)[i]? = some v := hv1
      rw [List.getElem?_map] at hv1
      obtain ⟨dn, hdn, rfl⟩ := Option.map_eq_some_iff.mp hv1
      have hz : (rows.zip ds)[i]? = some (r, dn) := List.getElem?_zip_eq_some.mpr ⟨hr1, hdn⟩
      have hrm := List.mem_of_getElem? hr1
      obtain ⟨dn0, dn1⟩ := fe i _ hz
      have rk := rok r hrm
      have s4 : Same H3 (upd H3 t (.tup [u, V.int dn])) := fun c o e => upd_at e (ne_of_none e ht)
      have ht4 : upd H3 t (.tup [u, V.int dn]) t = some (.tup [u, V.int dn]) := upd_same
      generalize upd H3 t (.tup [u, V.int dn]) = H4 at s4 ht4 ⊢
      have s04 : Same H H4 := fun c o e => s4 _ _ (s3 _ _ e)
      obtain ⟨⟨dh, dxh, hh1, hh2⟩, ndh, mph, mlh⟩ := id Lh
      walk_at "go"
      refine r_mk ?_
      walk_at "go"
      refine ⟨u, r, rfl, hrv.same s04, rk, fun o H5 ho hop s5 => ?_⟩
      walk_at "go"
      rename_i t2 ht2 D hD
      have s6 : Same H5 (upd (upd H5 t2 (.tup [V.ref o, V.int dn])) D (.lst [V.ref t2])) := fun z o e => upd_at (upd_at e (ne_of_none e ht2)) (ne_of_none (upd_at e (ne_of_none e ht2)) hD)
      have hD6 : upd (upd H5 t2 (.tup [V.ref o, V.int dn])) D (.lst [V.ref t2]) D = some (.lst [V.ref t2]) := upd_same
      have ht6 : upd (upd H5 t2 (.tup [V.ref o, V.int dn])) D (.lst [V.ref t2]) t2 = some (.tup [V.ref o, V.int dn]) := upd_at upd_same (ne_of_none (upd_same (o := HO.tup [V.ref o, V.int dn])) hD)
      generalize upd (upd H5 t2 (.tup [V.ref o, V.int dn])) D (.lst [V.ref t2]) = H6 at s6 hD6 ht6 ⊢
      have s36 : Same H3 H6 := fun z o e => s6 _ _ (s5 _ _ (s4 _ _ e))
      refine plan1_end hD6 ht6 (hop.same s6) rk (by have := esum_mem hrm; omega) dn0 (d200 dn (List.mem_of_getElem? hdn)) (r64 r hrm) fun x m H7 hx Px af sm inn s7 => ?_
      have s37 : Same H3 H7 := fun z o e => s7 _ _ (s36 _ _ e)
      obtain ⟨dx, d, L1, h1, _, _, pk⟩ := id Px
      refine ⟨x, dx, _, rfl, h1, lookP, ?_⟩
      walk_at "go"
      have ea : ∀ k, aft (get mh) m k = endG (get ms) ((rows.zip ds).take (i + 1)) k := fun k => by rw [af, endG_take hz, endS_dlt, gh]
      refine ⟨x, h, m, mh, ns, rfl, Px, Lh.same s37, sm, lns, inn ns (rin r hrm), kin_of ndh mph fun k hk => by rw [gh]; exact outG i k hk, fun k => by rw [ea]; exact allnn (i + 1) k, fun y m' H8 hy Ly g8 s8 => ?_⟩
      exact ⟨y, m', _, _, rfl, Ly.lo, fun k => by rw [g8, ea], fun z o e => s8 _ _ (s37 _ _ (s3 _ _ e))⟩
    · rintro σ H3 ⟨h, mh, x4, x5, rfl, Lh, gh, s3⟩
      have ez : (rows.zip ds).take rows.length = rows.zip ds := List.take_of_length_le (by rw [List.length_zip]; omega)
      rw [ez] at gh
      obtain ⟨⟨dh, dxh, hh1, hh2⟩, ndh, mph, mlh⟩ := id Lh
      walk_at "go"
      refine r_meth0 ?_
      walk_at "go"
      refine ⟨h, dxh, _, rfl, hh1, look1, h, mh, rfl, Lh, fun t us qs H5 ht ht5 hus cn s5 => ?_⟩
      exact q t us qs mh H5 (s3.free ht) ht5 hus cn ndh gh mlh fun c o e => s5 _ _ (s3 _ _ e)
end


theorem LoA.klx {C : Addr} {H H' : Hp} {a : Addr} {m : AL} (h : LoA C H a m) (s : KL H H') : LoA C H' a m := by
  obtain ⟨⟨d, dx, h1, h2⟩, nd, ps, ln⟩ := h
  exact ⟨⟨d, dx, s _ _ h1 (fun _ z => nomatch z), s _ _ h2 (fun _ z => nomatch z)⟩, nd, ps, ln⟩
theorem wsum_z0 {xs : PL} {f : Row → Int} (h : ∀ x ∈ xs, x.2 = 0) : wsum xs f = 0 := by
  induction xs with
  | nil => rfl
  | cons x xs ih =>
    rw [wsum_cons, h x List.mem_cons_self, ih fun y hy => h y (List.mem_cons_of_mem _ hy), Int.zero_mul]
    rfl
theorem sum_le : ∀ {ds : List Int}, (∀ d ∈ ds, d ≤ 3) → ds.sum ≤ 3 * ds.length
  | [], _ => Int.le_refl _
  | d :: ds, h => by
    have h1 := sum_le fun x hx => h x (List.mem_cons_of_mem d hx)
    have h2 := h d List.mem_cons_self
    rw [List.sum_cons, List.length_cons]
    show _ ≤ 3 * ((ds.length : Int) + 1)
    omega
theorem r_eqNilI {K : PySem.W.Frag} {H : Hp} {Q : VK} {D p : Addr} {js : List Nat} (hD : H D = some (.lst (js.map fun j : Nat => V.int j))) (hp : H p = some (.lst [])) (q : Q (.bl (decide (js = []))) H) : rEqD K (.ref D) (.ref p) H Q := by
  refine ⟨.list (js.map fun j : Nat => PyData.int j), .list [], .lst (SqL.of hD) (dp_ints js), .lst (SqL.of hp) .nil, ?_, by decide, ?_⟩
  · unfold SeqAt.shaped
    rw [(can_ints js).1, Bool.true_and]
    refine decide_eq_true ?_
    show PyData.depthAll (js.map fun j : Nat => PyData.int j) + 1 ≤ 64
    have := (can_ints js).2
    omega
  · have e : PyData.eqv (.list (js.map fun j : Nat => PyData.int j)) (.list []) = decide (js = []) := by
      cases js with
      | nil => rfl
      | cons a r => rfl
    rw [e]
    exact q
section
variable {P : Program} {w : World} {K : PySem.W.Frag} {mg : Str → Option Value} {base : Heap} {C CO CP CS t0 : Addr}
abbrev sWalked : Stmt := top 45
theorem scWalked : FnScope ["_law_box_here", "_law_rows_so", "_law_done", "_law_lot_so", "_law_turn", "_law_rest", "_law_here", "_law_can", "_law_bad", "_law_k", "_law_row"] ["_law_box_here", "_law_rows_so", "_law_done", "_law_lot_so"] (defScope sWalked) := ⟨rfl, rfl, rfl, by decide +kernel, rfl, by decide +kernel, by decide +kernel⟩
def spWalked (C : Addr) : Sp := fun vs H Q _ => ∃ (a l n s : Addr) (ts : List V) (rows : List Row) (ds : List Int) (ms : AL) (ns : List Str) (b : Nat), vs = [.ref a, .ref l, .ref n, .ref s] ∧ H l = some (.lst ts) ∧ Paired (RwV H) ts rows ∧ H n = some (.lst (ds.map V.int)) ∧ ds.length = rows.length ∧ LoA C H s ms ∧ (∀ r ∈ rows, RowOk r) ∧ esum rows ≤ 28 ∧ (∀ r ∈ rows, ∀ p ∈ r.2, 0 < p.2 ∧ p.2 < 2 ^ 64) ∧ (∀ d ∈ ds, d ≤ 3) ∧ ns.length ≤ 13 ∧ RIn ns rows ∧ OutF rows ∧ (∀ k ∈ keys ms, k ∈ ns) ∧ Feas (get ms) (rows.zip ds) ∧ Bx H a (b + 200) ∧ l ≠ a ∧ n ≠ a ∧
  ∀ (t : Addr) (us : List V) (qs m' : AL) (H' : Hp), H t = none → H' t = some (.tup us) → Paired (PrA H') us qs → Cn m' qs → (keys m').Nodup → (∀ k, get m' k = endG (get ms) (rows.zip ds) k) → m'.length ≤ 30 → Bx H' a b → Kp a H H' → Q (.ref t) H'
theorem ok_walked {f : Addr} {fd : FuncData} (F : Fun K "_law_walked" "_law_walked" sWalked f fd) (T : Txt K mg) (L : TxL K C) (PT : TxP K CP) (Cw : Cal P w K mg base CX0 5 "_law_way" ["_law_row"] (spWay CO)) (Pm : OMk P w K mg base CX0 4 CP "Plan" ["self", "counts"] (spPlanInit P w K CO CP)) (Paf : OCal P w K mg base CX0 9 CP "after" ["self", "stock"] (spPlanAft P w C CP)) (Op : OCal P w K mg base CX0 2 C "pairs" ["self"] (spLotPairs C)) (Og : OCal P w K mg base CX0 1 C "__getitem__" ["self", "at"] (spLotGetitem C)) (Ctd : Cal P w K mg base CX0 10 "_law_told" ["_law_plan_so", "_law_lot_so"] (spTold P w C CP)) (Co : Cal P w K mg base CX0 2 "_law_of" ["_law_box_here", "_law_some"] spOf) (Cs : Cal P w K mg base CX0 4 "_law_same" ["_law_got", "_law_due"] (spSame K 4)) : FnOk P w K mg base CX0 11 f fd ["_law_box_here", "_law_rows_so", "_law_done", "_law_lot_so"] (spWalked C) := by
  refine F.ok scWalked (fun vs H Q E h => ?_) (fun cdv A outer s H vs Q E hr h => ?_)
  · obtain ⟨a, l, n, s, ts, rows, ds, ms, ns, b, rfl, _⟩ := h
    rfl
  · obtain ⟨a, l, n, s0, ts, rows, ds, ms, ns, b, rfl, hl, hts, hn, lds, Ls, rok, es, r64, d3, lns, rin, out, kms, fe, bx0, nla, nna, q⟩ := h
    refine ⟨_, (pss_cons (ps_asg (pe_tup (pa_cons (pe_callTy c_list (by rfl) T.list (by decide +kernel) (pa_cons (pv 2) pa_nil)) (pa_cons (pv 3) pa_nil))) (pg_tup rfl (pgs_cons (pg_name (i := 5) scWalked.nd rfl (Or.inr rfl)) (pgs_cons (pg_name (i := 6) scWalked.nd rfl (Or.inr rfl)) pgs_nil))))
  (pss_cons (ps_for PassesOwn.never rfl (pi_range1 rfl T.range (pa_cons (pe_callB (cr_sum rfl) (by rfl) T.sum (by decide +kernel) (pa_cons (pv 2) pa_nil)) pa_nil)) (pg_name (i := 4) scWalked.nd rfl (Or.inl rfl))
  (pss_cons (ps_setLc (i := 7) (own := [("_law_k", 9)]) (g := gName 9) rfl scWalked.nd rfl rfl (sw_true rfl rfl rfl (by decide +kernel)) (pi_range1 rfl T.range (pa_cons (pe_callB c_lenL (by rfl) T.len (by decide +kernel) (pa_cons (pv 1) pa_nil)) pa_nil)) (blkOk_by (N := ["_law_box_here", "_law_rows_so", "_law_done", "_law_lot_so", "_law_turn", "_law_rest", "_law_here", "_law_can", "_law_bad", "_law_k", "_law_row"]) (sc := defScope sWalked) (by decide +kernel)) (fun _ _ _ _ _ => (pg_name (i := 9) scWalked.nd rfl (Or.inl rfl))) (fun _ _ _ _ _ => (pts_one (PW.pt (pw_and (pt_cmpR op_gt (pe_ix (ixK (r := rIxL) K ix_list) (pv 5) (pv 9) (fun _ _ => rfl)) pe_int (nomark _)) (pw_and1 (pt_cmpR op_gt (pe_ixO Og (hr.mono (by decide)) pass0 (pv 6) (pe_ix (ixK (r := rIxT) K ix_tup) (pe_ix (ixK (r := rIxL) K ix_list) (pv 1) (pv 9) (fun _ _ => rfl)) pe_int (fun _ _ => rfl))) pe_int (nomark _))))))) (fun _ _ _ _ _ => (pv 9)))
  (pss_cons (ps_setLc (i := 8) (own := [("_law_k", 9)]) (g := gName 9) rfl scWalked.nd rfl rfl (sw_true rfl rfl rfl (by decide +kernel)) (pi_range1 rfl T.range (pa_cons (pe_callB c_lenL (by rfl) T.len (by decide +kernel) (pa_cons (pv 1) pa_nil)) pa_nil)) (blkOk_by (N := ["_law_box_here", "_law_rows_so", "_law_done", "_law_lot_so", "_law_turn", "_law_rest", "_law_here", "_law_can", "_law_bad", "_law_k", "_law_row"]) (sc := defScope sWalked) (by decide +kernel)) (fun _ _ _ _ _ => (pg_name (i := 9) scWalked.nd rfl (Or.inl rfl))) (fun _ _ _ _ _ => (pts_one (PW.pt (pw_and (pt_cmpR op_gt (pe_ix (ixK (r := rIxL) K ix_list) (pv 5) (pv 9) (fun _ _ => rfl)) pe_int (nomark _)) (pw_and1 (pt_cmpR op_eq (pe_ixO Og (hr.mono (by decide)) pass0 (pv 6) (pe_ix (ixK (r := rIxT) K ix_tup) (pe_ix (ixK (r := rIxL) K ix_list) (pv 1) (pv 9) (fun _ _ => rfl)) pe_int (fun _ _ => rfl))) pe_int (nomark _))))))) (fun _ _ _ _ _ => (pv 9)))
  (pss_cons (ps_if (pt_cmpR (op_eqD (hu64 hr)) (pv 7) (pe_lst pa_nil) (nomark _))
  pss_never
  pss_nil)
  (Evl.pss_cut (ps_if (pt_cmpR (op_neD (hu64 hr)) (pv 8) (pe_lst pa_nil) (nomark _))
  (pss_cons (ps_set (i := 10) scWalked.nd rfl (Or.inl rfl) (pe_ix ix_list (pv 1) (pe_cal Co (hr.mono (by decide)) pass0 (pa_cons (pv 0) (pa_cons (pv 8) pa_nil))) (fun _ _ => rfl)))
  (pss_one (ps_if (pt_not (pt_val (pe_cal Cs (hr.mono (by decide)) pass0 (pa_cons (pe_cal Ctd (hr.mono (by decide)) pass0 (pa_cons (pe_makeO Pm (hr.mono (by decide)) pass0 (pa_cons (pe_lst (pa_cons (pe_tup (pa_cons (pe_cal Cw (hr.mono (by decide)) pass0 (pa_cons (pv 10) pa_nil)) (pa_cons pe_int pa_nil))) pa_nil)) pa_nil)) (pa_cons (pv 6) pa_nil))) (pa_cons (pe_tup (pa_cons pe_str (pa_cons (pe_ix ix_tup (pv 10) pe_int (fun _ _ => rfl)) (pa_cons pe_int pa_nil)))) pa_nil)))))
  pss_never
  pss_nil)))
  pss_nil)
  (pss_cons (ps_set (i := 9) scWalked.nd rfl (Or.inl rfl) (pe_cal Co (hr.mono (by decide)) pass0 (pa_cons (pv 0) (pa_cons (pv 7) pa_nil))))
  (pss_cons (ps_set (i := 6) scWalked.nd rfl (Or.inr rfl) (pe_methO Paf PT.oc.cl (hr.mono (by decide)) pass0 (pe_makeO Pm (hr.mono (by decide)) pass0 (pa_cons (pe_lst (pa_cons (pe_tup (pa_cons (pe_cal Cw (hr.mono (by decide)) pass0 (pa_cons (pe_ix ix_list (pv 1) (pv 9) (fun _ _ => rfl)) pa_nil)) (pa_cons pe_int pa_nil))) pa_nil)) pa_nil)) (pa_cons (pv 6) pa_nil)))
  (pss_one (ps_asg (pe_op op_sub (pe_ix ix_list (pv 5) (pv 9) (fun _ _ => rfl)) pe_int) (pg_sub (pv 5) (pv 9) set_list))))))))))
  (pss_one (ps_ret (pe_methO0 Op L.oc.cl (hr.mono (by decide)) pass0 (pv 6)))))), ?_⟩
    have lts := Paired.len hts
    obtain ⟨⟨dl0, dxl0, hs1, hs2⟩, nds, mps, mls⟩ := id Ls
    have g0 := fun k => get_nn mps nds k
    have hu := hu_of hr
    walk_at "in"
    walk_at "go"
    rename_i R hR pt hpt
    have hRn : H R = none := hR
    have nRa : R ≠ a := (bx0.ne hR).symm
    have s1 : Same H (upd H R (.lst (ds.map V.int))) := fun c o e => upd_at e (ne_of_none e hR)
    have hR1 : upd H R (.lst (ds.map V.int)) R = some (.lst (ds.map V.int)) := upd_same
    generalize upd H R (.lst (ds.map V.int)) = H1 at s1 hR1 hpt ⊢
    have s2 : Same H1 (upd H1 pt (.tup [.ref R, .ref s0])) := fun c o e => upd_at e (ne_of_none e hpt)
    generalize upd H1 pt (.tup [.ref R, .ref s0]) = H2 at s2 ⊢
    have s02 : Same H H2 := fun c o e => s2 _ _ (s1 _ _ e)
    have hR2 := s2 _ _ hR1
    have d0 : ∀ d ∈ ds, 0 ≤ d := fun d hd => by
      obtain ⟨i, hi⟩ := List.mem_iff_getElem?.mp hd
      have li := (List.getElem?_eq_some_iff.mp hi).1
      have := fe i (rows[i]'(by omega), d) (List.getElem?_zip_eq_some.mpr ⟨List.getElem?_eq_getElem (by omega), hi⟩)
      exact this.1
    have lrows : rows.length ≤ 28 := Nat.le_trans (esum_len fun r hr => (rok r hr).ne) es
    have sm0 := sum_nn d0
    have sm1 := sum_le d3
    obtain ⟨N, hN⟩ : ∃ N : Nat, ds.sum = N := ⟨ds.sum.toNat, by omega⟩
    have N84 : N ≤ 84 := by omega
    have E0 : ∀ k, 0 ≤ endG (get ms) (rows.zip ds) k := fun k => by
      have := fe.nn g0 (fun x hx k => tot_nn (fun p hp => Int.le_of_lt (r64 x.1 (List.of_mem_zip hx).1 p hp).1) k) (rows.zip ds).length k
      rwa [List.take_length] at this
    have Eout : ∀ k, k ∉ ns → endG (get ms) (rows.zip ds) k = 0 := fun k hk => endG_out rin lds hk (get_none fun z => hk (kms k z))
    refine ⟨n, ds, rfl, SqL.of (s02 _ _ hn), ?_⟩
    rw [hN]
    walk_at "go"
    refine for_it (walk_range (n := N)) (fun i σ H' => ∃ (h : Addr) (mh : AL) (rs : List Int) (x4 x7 x8 x9 x10 : Option V), σ = [some (.ref a), some (.ref l), some (.ref n), some (.ref s0), x4, some (.ref R), some (.ref h), x7, x8, x9, x10] ∧ H' R = some (.lst (rs.map V.int)) ∧ rs.length = rows.length ∧ (∀ r ∈ rs, 0 ≤ r) ∧ rs.sum = (N : Int) - i ∧ LoA C H' h mh ∧ (∀ k, get mh k = endG (get ms) (rows.zip ds) k - wsum (rows.zip rs) (dlt k)) ∧ Bx H' a (b + (200 - 2 * i)) ∧ Kp a H H') ?_ (fun _ _ _ _ _ => trivial) ?_ ?_
    · refine ⟨s0, ms, ds, _, _, _, _, _, rfl, hR2, lds, d0, by omega, Ls.same s02, fun k => by rw [endG_sum]; omega, bx0.same s02, Kp.of s02⟩
    · rintro i x σ _ H3 hi ⟨h, mh, rs, x4, x7, x8, x9, x10, rfl, hR3, lrs, r0, srs, Lh, gh, bx3, k3⟩ ⟨rfl, rfl⟩
      have hl3 := k3 _ _ hl nla
      have hts3 : Paired (RwV H3) ts rows := Paired.mapP hts fun _ _ z => z.kl (KL.bx k3 bx0)
      obtain ⟨⟨dh, dxh, hh1, hh2⟩, ndh, mph, mlh⟩ := id Lh
      walk_at "go"
      intro D hD
      refine lc_it (walk_range (n := ts.length)) (fun i' H' => ∃ js : List Nat, H' D = some (.lst (js.map fun j : Nat => V.int j)) ∧ (∀ j, j ∈ js ↔ j < i' ∧ ∃ r o, rows[j]? = some r ∧ rs[j]? = some o ∧ 0 < o ∧ 0 < get mh r.1) ∧ js.length ≤ i' ∧ Same H3 H') ?_ (fun _ _ _ _ => trivial) ?_ ?_
      · exact ⟨[], upd_same, fun j => ⟨fun h => (nomatch h), fun h => absurd h.1 (Nat.not_lt_zero _)⟩, Nat.le_refl _, fun c o e => upd_at e (ne_of_none e hD)⟩
      · rintro i' x _ Hb hi' ⟨js, hDb, jm, ljs, sb⟩ ⟨rfl, ex⟩
        obtain rfl : x = V.int (i' : Int) := by rw [ex]; show V.int (0 + (i' : Int)) = _; rw [Int.zero_add]
        obtain ⟨r, hr1⟩ : ∃ r, rows[i']? = some r := ⟨rows[i']'(by omega), List.getElem?_eq_getElem (by omega)⟩
        obtain ⟨o, ho1⟩ : ∃ o, rs[i']? = some o := ⟨rs[i']'(by omega), List.getElem?_eq_getElem (by omega)⟩
        obtain ⟨tv, htv⟩ : ∃ tv, ts[i']? = some tv := ⟨ts[i']'hi', List.getElem?_eq_getElem hi'⟩
        obtain ⟨r', hr', hrv⟩ := Paired.at hts3 htv
        rw [hr1] at hr'
        cases hr'
        have sab : Same H3 Hb := fun c o e => sb _ _ (e)
        obtain ⟨t1, u1, xs1, rfl, e1, e2, e3⟩ := hrv.same sab
        have hRb := sab _ _ hR3
        have hlb := sab _ _ hl3
        have hhb := sab _ _ hh1
        walk_at "go"
        refine ⟨rfl, ?_⟩
        walk_at "go"
        refine r_ixL (SqL.of hRb) (atI_nat (by rw [List.getElem?_map, ho1]; rfl)) ?_
        walk_at "go"
        have stp : ∀ c : Prop, ((0 < o ∧ 0 < get mh r.1) ↔ c) → ∀ j, (j < i' + 1 ∧ ∃ r o, rows[j]? = some r ∧ rs[j]? = some o ∧ 0 < o ∧ 0 < get mh r.1) ↔ ((j < i' ∧ ∃ r o, rows[j]? = some r ∧ rs[j]? = some o ∧ 0 < o ∧ 0 < get mh r.1) ∨ (j = i' ∧ c)) := fun c hc j => by
          constructor
          · rintro ⟨h1, r2, o2, h2, h3, h4⟩
            by_cases cj : j < i'
            · exact .inl ⟨cj, r2, o2, h2, h3, h4⟩
            · have : j = i' := by omega
              subst this
              rw [hr1] at h2
              rw [ho1] at h3
              cases h2
              cases h3
              exact .inr ⟨rfl, hc.mp h4⟩
          · rintro (⟨h1, h2⟩ | ⟨h1, h2⟩)
            · exact ⟨by omega, h2⟩
            · subst h1
              exact ⟨by omega, r, o, hr1, ho1, hc.mpr h2⟩
        have no : ¬ (0 < o ∧ 0 < get mh r.1) → ∀ j, j ∈ js ↔ j < i' + 1 ∧ ∃ r o, rows[j]? = some r ∧ rs[j]? = some o ∧ 0 < o ∧ 0 < get mh r.1 := fun hn j => by
          rw [stp False ⟨hn, False.elim⟩ j, jm]
          exact ⟨.inl, fun h => h.elim id fun h => h.2.elim⟩
        refine ite_d (fun co => ?_) fun co => ?_
        · walk_at "go"
          refine r_ixO ?_
          walk_at "go"
          refine r_ixL (SqL.of hlb) (atI_nat htv) ?_
          walk_at "go"
          refine r_ixT (SqT.of e1) (atI_nat (j := 0) rfl) ?_
          refine ⟨h, dxh, _, rfl, hhb, h, r.1, mh, rfl, Lh.same sab, ?_⟩
          walk_at "go"
          refine ite_d (fun cg => ?_) fun cg => ?_
          · refine r_var rfl ⟨_, hDb, szl (by rw [List.length_map]; omega), js ++ [i'], by rw [List.map_append]; exact upd_same, fun j => ?_, by rw [List.length_append]; exact Nat.succ_le_succ ljs, fun c o e => upd_at (sb _ _ e) (ne_of_none e hD)⟩
            rw [stp True ⟨fun _ => trivial, fun _ => ⟨co, cg⟩⟩ j, List.mem_append, jm, List.mem_singleton]
            exact ⟨fun h => h.imp id fun h => ⟨h, trivial⟩, fun h => h.imp id fun h => h.1⟩
          · exact ⟨js, hDb, no fun z => cg z.2, by omega, sb⟩
        · refine iteF ?_
          exact ⟨js, hDb, no fun z => co z.1, by omega, sb⟩
      rintro H4 ⟨js, hDx, jm, ljs, s4⟩
      walk_at "go"
      intro D2 hD2
      refine lc_it (walk_range (n := ts.length)) (fun i' H' => ∃ js : List Nat, H' D2 = some (.lst (js.map fun j : Nat => V.int j)) ∧ (∀ j, j ∈ js ↔ j < i' ∧ ∃ r o, rows[j]? = some r ∧ rs[j]? = some o ∧ 0 < o ∧ get mh r.1 = 0) ∧ js.length ≤ i' ∧ Same H4 H') ?_ (fun _ _ _ _ => trivial) ?_ ?_
      · exact ⟨[], upd_same, fun j => ⟨fun h => (nomatch h), fun h => absurd h.1 (Nat.not_lt_zero _)⟩, Nat.le_refl _, fun c o e => upd_at e (ne_of_none e hD2)⟩
      · rintro i' x _ Hb hi' ⟨js, hDb, jm, ljs, sb⟩ ⟨rfl, ex⟩
        obtain rfl : x = V.int (i' : Int) := by rw [ex]; show V.int (0 + (i' : Int)) = _; rw [Int.zero_add]
        obtain ⟨r, hr1⟩ : ∃ r, rows[i']? = some r := ⟨rows[i']'(by omega), List.getElem?_eq_getElem (by omega)⟩
        obtain ⟨o, ho1⟩ : ∃ o, rs[i']? = some o := ⟨rs[i']'(by omega), List.getElem?_eq_getElem (by omega)⟩
        obtain ⟨tv, htv⟩ : ∃ tv, ts[i']? = some tv := ⟨ts[i']'hi', List.getElem?_eq_getElem hi'⟩
        obtain ⟨r', hr', hrv⟩ := Paired.at hts3 htv
        rw [hr1] at hr'
        cases hr'
        have sab : Same H3 Hb := fun c o e => sb _ _ (s4 _ _ e)
        obtain ⟨t1, u1, xs1, rfl, e1, e2, e3⟩ := hrv.same sab
        have hRb := sab _ _ hR3
        have hlb := sab _ _ hl3
        have hhb := sab _ _ hh1
        walk_at "go"
        refine ⟨rfl, ?_⟩
        walk_at "go"
        refine r_ixL (SqL.of hRb) (atI_nat (by rw [List.getElem?_map, ho1]; rfl)) ?_
        walk_at "go"
        have stp : ∀ c : Prop, ((0 < o ∧ get mh r.1 = 0) ↔ c) → ∀ j, (j < i' + 1 ∧ ∃ r o, rows[j]? = some r ∧ rs[j]? = some o ∧ 0 < o ∧ get mh r.1 = 0) ↔ ((j < i' ∧ ∃ r o, rows[j]? = some r ∧ rs[j]? = some o ∧ 0 < o ∧ get mh r.1 = 0) ∨ (j = i' ∧ c)) := fun c hc j => by
          constructor
          · rintro ⟨h1, r2, o2, h2, h3, h4⟩
            by_cases cj : j < i'
            · exact .inl ⟨cj, r2, o2, h2, h3, h4⟩
            · have : j = i' := by omega
              subst this
              rw [hr1] at h2
              rw [ho1] at h3
              cases h2
              cases h3
              exact .inr ⟨rfl, hc.mp h4⟩
          · rintro (⟨h1, h2⟩ | ⟨h1, h2⟩)
            · exact ⟨by omega, h2⟩
            · subst h1
              exact ⟨by omega, r, o, hr1, ho1, hc.mpr h2⟩
        have no : ¬ (0 < o ∧ get mh r.1 = 0) → ∀ j, j ∈ js ↔ j < i' + 1 ∧ ∃ r o, rows[j]? = some r ∧ rs[j]? = some o ∧ 0 < o ∧ get mh r.1 = 0 := fun hn j => by
          rw [stp False ⟨hn, False.elim⟩ j, jm]
          exact ⟨.inl, fun h => h.elim id fun h => h.2.elim⟩
        refine ite_d (fun co => ?_) fun co => ?_
        · walk_at "go"
          refine r_ixO ?_
          walk_at "go"
          refine r_ixL (SqL.of hlb) (atI_nat htv) ?_
          walk_at "go"
          refine r_ixT (SqT.of e1) (atI_nat (j := 0) rfl) ?_
          refine ⟨h, dxh, _, rfl, hhb, h, r.1, mh, rfl, Lh.same sab, ?_⟩
          walk_at "go"
          refine ite_d (fun cg => ?_) fun cg => ?_
          · have cg : get mh r.1 = 0 := by injection cg
            refine r_var rfl ⟨_, hDb, szl (by rw [List.length_map]; omega), js ++ [i'], by rw [List.map_append]; exact upd_same, fun j => ?_, by rw [List.length_append]; exact Nat.succ_le_succ ljs, fun c o e => upd_at (sb _ _ e) (ne_of_none e hD2)⟩
            rw [stp True ⟨fun _ => trivial, fun _ => ⟨co, cg⟩⟩ j, List.mem_append, jm, List.mem_singleton]
            exact ⟨fun h => h.imp id fun h => ⟨h, trivial⟩, fun h => h.imp id fun h => h.1⟩
          · exact ⟨js, hDb, no fun z => cg (by rw [z.2]), by omega, sb⟩
        · refine iteF ?_
          exact ⟨js, hDb, no fun z => co z.1, by omega, sb⟩
      rintro H5 ⟨js2, hD2x, jm2, ljs2, s5⟩
      walk_at "go"
      rename_i pe hpe
      have lrs2 : rs.length = ts.length := by omega
      obtain ⟨cj, cr, co, cj1, cj2, cj3, cj4⟩ := can_open (E := endG (get ms) (rows.zip ds)) out lrs r0 (by omega) E0
      have cjm : cj ∈ js := (jm cj).mpr ⟨by have := (List.getElem?_eq_some_iff.mp cj1).1; omega, cr, co, cj1, cj2, cj3, by rw [gh]; exact cj4⟩
      have kmh : ∀ k ∈ keys mh, k ∈ ns := kin_of ndh mph fun k hk => by
        rw [gh, Eout k hk, wsum_out (ns := ns) (by rw [zip_keys lrs]; exact rin) hk]
        rfl
      have jne : js ≠ [] := fun z => by rw [z] at cjm; cases cjm
      have s6 : Same H5 (upd H5 pe (.lst [])) := fun c o e => upd_at e (ne_of_none e hpe)
      refine r_eqNilI (s6 _ _ (s5 _ _ hDx)) upd_same ?_
      generalize upd H5 pe (.lst []) = H6 at s6 ⊢
      have s36 : Same H3 H6 := fun c o e => s6 _ _ (s5 _ _ (s4 _ _ e))
      have hR6 := s36 _ _ hR3
      have hl6 := s36 _ _ hl3
      have hD6 := s6 _ _ (s5 _ _ hDx)
      have hD26 := s6 _ _ hD2x
      have Lh6 := Lh.same s36
      have hh6 := s36 _ _ hh1
      have bx6 := bx3.same s36
      have k6 : Kp a H H6 := fun c o e n => s36 _ _ (k3 _ _ e n)
      have hts6 := RwV.all hts3 s36
      have nDa : D ≠ a := (bx3.ne hD).symm
      have nD2a : D2 ≠ a := ((bx3.same s4).ne hD2).symm
      clear s36 s6 s5 s4 hDx hD2x hD hD2 hpe bx3 k3 hR3 hl3 hh1 hts3 Lh
      refine ⟨_, rfl, ite_dF jne ?_⟩
      walk_at "go"
      refine ⟨fun σ' H' => ∃ (x9' x10' : Option V), σ' = [some (.ref a), some (.ref l), some (.ref n), some (.ref s0), some (.int (0 + (i : Int))), some (.ref R), some (.ref h), some (.ref D), some (.ref D2), x9', x10'] ∧ Bx H' a (b + (200 - 2 * (i + 1)) + 1) ∧ Kp a H6 H', ?_, ?_⟩
      · walk_at "go"
        rename_i p2 hp2
        have s7 : Same H6 (upd H6 p2 (.lst [])) := fun c o e => upd_at e (ne_of_none e hp2)
        refine r_neNilI (s7 _ _ hD26) upd_same ?_
        generalize upd H6 p2 (.lst []) = H7 at s7 ⊢
        have bx7 := bx6.same s7
        walk_at "go"
        refine ite_nd (fun jne2 => ?_) fun _ => ?_
        · walk_at "go"
          refine ⟨a, D2, b + (200 - 2 * (i + 1)) + 1, _, rfl, by rw [show b + (200 - 2 * (i + 1)) + 1 + 1 = b + (200 - 2 * i) by omega]; exact bx7, s7 _ _ hD26, nD2a, by rw [List.length_map]; exact List.length_pos_iff.mpr jne2, by rw [List.length_map]; omega, fun x j H8 hxj bx8 k8 => ?_⟩
          rw [List.getElem?_map] at hxj
          obtain ⟨j0, hj0, rfl⟩ := Option.map_eq_some_iff.mp hxj
          obtain ⟨hjl, r, o, hr1, ho1, o0, gz⟩ := (jm2 j0).mp (List.mem_of_getElem? hj0)
          have k68 : Kp a H6 H8 := fun c o e n => k8 _ _ (s7 _ _ e) n
          have kl8 : KL H6 H8 := KL.bx k68 bx6
          have hl8 := k68 _ _ hl6 nla
          obtain ⟨tv, htv⟩ : ∃ tv, ts[j0]? = some tv := ⟨ts[j0]'hjl, List.getElem?_eq_getElem hjl⟩
          obtain ⟨r', hr', hrv⟩ := Paired.at hts6 htv
          rw [hr1] at hr'
          cases hr'
          have hrm := List.mem_of_getElem? hr1
          have rk := rok r hrm
          obtain ⟨t1, u1, xs1, rfl, e1, e2, e3⟩ := id (hrv.kl kl8)
          walk_at "go"
          refine r_ixL (SqL.of hl8) (atI_nat htv) ?_
          have nha : h ≠ a := fun z => by
            obtain ⟨_, _, _, hb, _⟩ := bx6
            rw [z, hb] at hh6
            cases hh6
          have Lh8 := Lh6.klx kl8
          walk_at "go"
          refine r_mk ?_
          walk_at "go"
          refine ⟨.ref t1, r, rfl, hrv.kl kl8, rk, fun o1 H9 ho1n hop s9 => ?_⟩
          walk_at "go"
          rename_i t2 ht2 Dl hDl
          have s10 : Same H9 (upd (upd H9 t2 (.tup [V.ref o1, V.int 1])) Dl (.lst [V.ref t2])) := fun z o e => upd_at (upd_at e (ne_of_none e ht2)) (ne_of_none (upd_at e (ne_of_none e ht2)) hDl)
          have hDl2 : upd (upd H9 t2 (.tup [V.ref o1, V.int 1])) Dl (.lst [V.ref t2]) Dl = some (.lst [V.ref t2]) := upd_same
          have ht22 : upd (upd H9 t2 (.tup [V.ref o1, V.int 1])) Dl (.lst [V.ref t2]) t2 = some (.tup [V.ref o1, V.int 1]) := upd_at upd_same (ne_of_none (upd_same (o := HO.tup [V.ref o1, V.int 1])) hDl)
          generalize upd (upd H9 t2 (.tup [V.ref o1, V.int 1])) Dl (.lst [V.ref t2]) = H10 at s10 hDl2 ht22 ⊢
          refine plan1_end hDl2 ht22 (hop.same s10) rk (by have := esum_mem hrm; omega) (by decide) (by decide) (r64 r hrm) fun x m H11 hx Px af sm inn s11 => ?_
          have s811 : Same H8 H11 := fun z o e => s11 _ _ (s10 _ _ (s9 _ _ e))
          have self : tot r.2 r.1 = 0 := tot_out (out j0 j0 r r (Nat.le_refl _) hr1 hr1)
          have aft1 : ∀ k, aft (get mh) m k = get mh k + dlt k r := fun k => by rw [af, Int.one_mul]
          have aftk : aft (get mh) m r.1 = -1 := by
            rw [aft1, gz]
            unfold dlt
            rw [self, if_pos rfl]
            rfl
          have aftn : ∀ k, k ≠ r.1 → 0 ≤ aft (get mh) m k := fun k hk => by
            rw [aft1]
            unfold dlt
            rw [if_neg (fun z => hk z.symm)]
            have h1 := get_nn mph ndh k
            have h2 := tot_nn (m := r.2) (fun p hp => Int.le_of_lt (r64 r hrm p hp).1) k
            omega
          walk_at "go"
          refine ⟨x, h, m, mh, ns, rfl, Px, Lh8.same s811, sm, lns, inn ns (rin r hrm), kmh, .inr ⟨r.1, by rw [aftk]; decide, fun k hk => ?_, fun t3 H12 ht3 ht32 s12 => ?_⟩⟩
          · by_cases z : k = r.1
            · rw [z]; exact sle_refl _
            · have := aftn k z
              omega
          · rw [aftk] at ht32
            have s812 : Same H8 H12 := fun z o e => s12 _ _ (s811 _ _ e)
            walk_at "go"
            refine r_ixT (SqT.of (s812 _ _ e1)) (atI_nat (j := 0) rfl) ?_
            walk_at "go"
            rename_i t4 ht4
            have s13 : Same H12 (upd H12 t4 (.tup [V.str "short", V.str r.1, V.int 1])) := fun z o e => upd_at e (ne_of_none e ht4)
            refine ⟨_, _, rfl, sm_tupl (s13 _ _ ht32) upd_same rfl (by simp) (at3 (sm_str rfl) (sm_str rfl) (sm_int rfl)), fun H14 s14 => ⟨true, rfl, ?_⟩⟩
            refine iteF ?_
            have s814 : Same H8 H14 := fun z o e => s14 _ _ (s13 _ _ (s812 _ _ e))
            refine ⟨_, _, rfl, bx8.same s814, fun c o e n => s814 _ _ (k68 _ _ e n)⟩
        · walk_at "go"
          exact ⟨_, _, rfl, bx7.mono (by omega), fun c o e n => s7 _ _ e⟩
      · rintro σ7 H7 ⟨x9', x10', rfl, bx7, k67⟩
        have kl7 : KL H6 H7 := KL.bx k67 bx6
        have hl7 := k67 _ _ hl6 nla
        have hD7 := k67 _ _ hD6 nDa
        walk_at "go"
        refine ⟨a, D, b + (200 - 2 * (i + 1)), _, rfl, bx7, hD7, nDa, by rw [List.length_map]; exact List.length_pos_iff.mpr jne, by rw [List.length_map]; omega, fun x j H8 hxj bx8 k8 => ?_⟩
        rw [List.getElem?_map] at hxj
        obtain ⟨j0, hj0, rfl⟩ := Option.map_eq_some_iff.mp hxj
        obtain ⟨hjl, r, o, hr1, ho1, o0, gp⟩ := (jm j0).mp (List.mem_of_getElem? hj0)
        have k68 : Kp a H6 H8 := fun c o e n => k8 _ _ (k67 _ _ e n) n
        have kl8 : KL H6 H8 := KL.bx k68 bx6
        have hl8 := k68 _ _ hl6 nla
        have hR8 := k68 _ _ hR6 nRa
        have Lh8 := Lh6.klx kl8
        obtain ⟨tv, htv⟩ : ∃ tv, ts[j0]? = some tv := ⟨ts[j0]'hjl, List.getElem?_eq_getElem hjl⟩
        obtain ⟨r', hr', hrv⟩ := Paired.at hts6 htv
        rw [hr1] at hr'
        cases hr'
        have hrm := List.mem_of_getElem? hr1
        have rk := rok r hrm
        walk_at "go"
        refine r_mk ?_
        walk_at "go"
        refine r_ixL (SqL.of hl8) (atI_nat htv) ?_
        refine ⟨tv, r, rfl, hrv.kl kl8, rk, fun o1 H9 ho1n hop s9 => ?_⟩
        walk_at "go"
        rename_i t2 ht2 Dl hDl
        have s10 : Same H9 (upd (upd H9 t2 (.tup [V.ref o1, V.int 1])) Dl (.lst [V.ref t2])) := fun z o e => upd_at (upd_at e (ne_of_none e ht2)) (ne_of_none (upd_at e (ne_of_none e ht2)) hDl)
        have hDl2 : upd (upd H9 t2 (.tup [V.ref o1, V.int 1])) Dl (.lst [V.ref t2]) Dl = some (.lst [V.ref t2]) := upd_same
        have ht22 : upd (upd H9 t2 (.tup [V.ref o1, V.int 1])) Dl (.lst [V.ref t2]) t2 = some (.tup [V.ref o1, V.int 1]) := upd_at upd_same (ne_of_none (upd_same (o := HO.tup [V.ref o1, V.int 1])) hDl)
        generalize upd (upd H9 t2 (.tup [V.ref o1, V.int 1])) Dl (.lst [V.ref t2]) = H10 at s10 hDl2 ht22 ⊢
        refine plan1_end hDl2 ht22 (hop.same s10) rk (by have := esum_mem hrm; omega) (by decide) (by decide) (r64 r hrm) fun x m H11 hx Px af sm inn s11 => ?_
        have s811 : Same H8 H11 := fun z o e => s11 _ _ (s10 _ _ (s9 _ _ e))
        obtain ⟨dx, d, L1, h1, _, _, pk⟩ := id Px
        have aft1 : ∀ k, aft (get mh) m k = get mh k + dlt k r := fun k => by rw [af, Int.one_mul]
        have aftn : ∀ k, 0 ≤ aft (get mh) m k := fun k => by
          rw [aft1]
          unfold dlt
          have h1 := get_nn mph ndh k
          have h2 := tot_nn (m := r.2) (fun p hp => Int.le_of_lt (r64 r hrm p hp).1) k
          by_cases z : r.1 = k
          · rw [if_pos z, ← z]
            rw [← z] at h2
            omega
          · rw [if_neg z]
            omega
        refine ⟨x, dx, _, rfl, h1, lookP, ?_⟩
        walk_at "go"
        refine ⟨x, h, m, mh, ns, rfl, Px, Lh8.same s811, sm, lns, inn ns (rin r hrm), kmh, aftn, fun y m' H12 hy Ly g12 s12 => ?_⟩
        have s812 : Same H8 H12 := fun z o e => s12 _ _ (s811 _ _ e)
        have hR12 := s812 _ _ hR8
        have lj : j0 < rs.length := by omega
        walk_at "go"
        refine r_ixL (SqL.of hR12) (atI_nat (by rw [List.getElem?_map, ho1]; rfl)) ?_
        walk_at "go"
        refine r_setL hR12 (by rw [List.length_map]; exact ixN_lt lj) ?_
        have em : (rs.map V.int).set j0 (.int (o - 1)) = (rs.set j0 (o - 1)).map V.int := List.map_set.symm
        refine ⟨y, m', rs.set j0 (o - 1), _, _, _, _, _, rfl, by rw [← em]; exact upd_same, by rw [List.length_set]; exact lrs, fun z hz => ?_, ?_, Ly.lo.klx (KL.lst hR12), fun k => ?_, (bx8.same s812).upd nRa.symm, fun c o e n => ?_⟩
        · rcases List.mem_or_eq_of_mem_set hz with z | z
          · exact r0 _ z
          · omega
        · rw [sum_set rs j0 o (o - 1) ho1, srs]
          omega
        · rw [g12, aft1, gh, wsum_zip_set (dlt k) (o - 1) rows rs j0 r o hr1 ho1, show o - 1 - o = -1 by omega]
          omega
        · exact upd_at (s812 _ _ (k68 _ _ (k6 _ _ e n) n)) (ne_of_none e hRn)
    · rintro σ H3 ⟨h, mh, rs, x4, x7, x8, x9, x10, rfl, hR3, lrs, r0, srs, Lh, gh, bx3, k3⟩
      have z0 := sum_zero r0 (by omega)
      have gE : ∀ k, get mh k = endG (get ms) (rows.zip ds) k := fun k => by
        rw [gh, wsum_z0 fun x hx => z0 _ (List.of_mem_zip hx).2]
        omega
      obtain ⟨⟨dh, dxh, hh1, hh2⟩, ndh, mph, mlh⟩ := id Lh
      walk_at "go"
      refine r_meth0 ?_
      walk_at "go"
      refine ⟨h, dxh, _, rfl, hh1, look1, h, mh, rfl, Lh, fun t us qs H5 ht ht5 hus cn s5 => ?_⟩
      exact q t us qs mh H5 (kp_free k3 bx3 ht) ht5 hus cn ndh gE mlh ((bx3.same s5).mono (by omega)) fun c o e n => s5 _ _ (k3 _ _ e n)
end


theorem get_lit (c : Str) (n : Int) (k : Str) : get [(c, n)] k = if c = k then n else 0 := by
  rw [← tot_nodup (m := [(c, n)]) k (by simp [keys])]
  show (if c = k then n else 0) + 0 = _
  omega
theorem rwv_lit {H : Hp} {t u r : Addr} {k own : Str} {n : Int} (ht : H t = none) (hu : upd H t (.tup [.str own, .int n]) u = none) (hr : upd (upd H t (.tup [.str own, .int n])) u (.tup [.ref t]) r = none) :
    RwV (upd (upd (upd H t (.tup [.str own, .int n])) u (.tup [.ref t])) r (.tup [.str k, .ref u])) (.ref r) (k, [(own, n)]) ∧ Same H (upd (upd (upd H t (.tup [.str own, .int n])) u (.tup [.ref t])) r (.tup [.str k, .ref u])) := by
  have e1 : upd H t (.tup [.str own, .int n]) t = some (.tup [.str own, .int n]) := upd_same
  have e2 := upd_at (o := HO.tup [.ref t]) e1 (ne_of_none e1 hu)
  have e3 : upd (upd H t (.tup [.str own, .int n])) u (.tup [.ref t]) u = some (.tup [.ref t]) := upd_same
  exact ⟨⟨r, u, [.ref t], rfl, upd_same, upd_at e3 (ne_of_none e3 hr), .cons ⟨t, rfl, upd_at e2 (ne_of_none e2 hr)⟩ .nil⟩, fun z o e => by
    have h1 := upd_at (o := HO.tup [.str own, .int n]) e (ne_of_none e ht)
    have h2 := upd_at (o := HO.tup [.ref t]) h1 (ne_of_none h1 hu)
    exact upd_at h2 (ne_of_none h2 hr)⟩
theorem row_lit {k own : Str} {n : Int} (hk : KindS k) (ho : KindS own) (ne : k ≠ own) (n0 : 0 < n) : RowOk (k, [(own, n)]) :=
  ⟨hk, (fun z => nomatch z), fun p hp => by rw [List.mem_singleton.mp hp]; exact ⟨n0, ho⟩, List.pairwise_singleton _ _, fun z => ne (List.mem_singleton.mp z), by show 1 ≤ 29; omega⟩
section
variable {P : Program} {w : World} {K : PySem.W.Frag} {mg : Str → Option Value} {base : Heap} {C CO CP CS t0 : Addr}
abbrev sByHandRight : Stmt := top 47
theorem scByHandRight : FnScope ["_law_names_here", "_law_plan_so", "_law_got", "_law_low", "_law_high"] ["_law_names_here"] (defScope sByHandRight) := ⟨rfl, rfl, rfl, by decide +kernel, rfl, by decide +kernel, by decide +kernel⟩
def spHandR : Sp := fun vs H Q _ => ∃ (l : Addr) (ns : List Str), vs = [.ref l] ∧ H l = some (.lst (ns.map V.str)) ∧ ns.Nodup ∧ (∀ k ∈ ns, KindS k) ∧ 3 ≤ ns.length ∧ ns.length ≤ 13 ∧ ∀ H', Same H H' → Q (.bl true) H'
theorem ok_handR {f : Addr} {fd : FuncData} (F : Fun K "_law_by_hand_right" "_law_by_hand_right" sByHandRight f fd) (T : Txt K mg) (Tmax : mg "max" = none) (Om : OMk P w K mg base CX0 2 C "Lot" ["self", "pairs"] (spLotInit K C)) (Cpl : Cal P w K mg base CX0 6 "_law_plan" ["_law_rows_so", "_law_done"] (spLPlan P w CP)) (Ctd : Cal P w K mg base CX0 10 "_law_told" ["_law_plan_so", "_law_lot_so"] (spTold P w C CP)) (Cs : Cal P w K mg base CX0 4 "_law_same" ["_law_got", "_law_due"] (spSame K 4)) : FnOk P w K mg base CX0 11 f fd ["_law_names_here"] spHandR := by
  refine F.ok scByHandRight (fun vs H Q E h => ?_) (fun cdv A outer s H vs Q E hr h => ?_)
  · obtain ⟨l, ns, rfl, _⟩ := h
    rfl
  · obtain ⟨l, ns, rfl, hl, nd, kn, l3, l13, q⟩ := h
    refine ⟨_, (pss_cons (ps_par (i := 3) (j := 4) rfl scByHandRight.nd rfl rfl (by decide) rfl rfl (pa_cons (pe_callB (call_min2S rfl) (by rfl) T.min (by decide +kernel) (pa_cons (pe_ix ix_list (pv 0) pe_int (fun _ _ => rfl)) (pa_cons (pe_ix ix_list (pv 0) pe_int (fun _ _ => rfl)) pa_nil))) (pa_cons (pe_callB (call_max2S rfl) (by rfl) Tmax (by decide +kernel) (pa_cons (pe_ix ix_list (pv 0) pe_int (fun _ _ => rfl)) (pa_cons (pe_ix ix_list (pv 0) pe_int (fun _ _ => rfl)) pa_nil))) pa_nil)) (by rfl))
  (pss_cons (ps_set (i := 1) scByHandRight.nd rfl (Or.inl rfl) (pe_cal Cpl (hr.mono (by decide)) pass0 (pa_cons (pe_lst (pa_cons (pe_tup (pa_cons (pv 4) (pa_cons (pe_tup (pa_cons (pe_tup (pa_cons (pv 3) (pa_cons pe_int pa_nil))) pa_nil)) pa_nil))) (pa_cons (pe_tup (pa_cons (pv 3) (pa_cons (pe_tup (pa_cons (pe_tup (pa_cons (pe_ix ix_list (pv 0) pe_int (fun _ _ => rfl)) (pa_cons pe_int pa_nil))) pa_nil)) pa_nil))) pa_nil))) (pa_cons (pe_lst (pa_cons pe_int (pa_cons pe_int pa_nil))) pa_nil))))
  (pss_cons (ps_set (i := 2) scByHandRight.nd rfl (Or.inl rfl) (pe_lst (pa_cons (pe_cal Ctd (hr.mono (by decide)) pass0 (pa_cons (pv 1) (pa_cons (pe_makeO Om (hr.mono (by decide)) pass0 (pa_cons (pe_lst (pa_cons (pe_tup (pa_cons (pv 4) (pa_cons pe_int pa_nil))) pa_nil)) pa_nil)) pa_nil))) (pa_cons (pe_cal Ctd (hr.mono (by decide)) pass0 (pa_cons (pv 1) (pa_cons (pe_makeO Om (hr.mono (by decide)) pass0 (pa_cons (pe_lst (pa_cons (pe_tup (pa_cons (pv 3) (pa_cons pe_int pa_nil))) pa_nil)) pa_nil)) pa_nil))) pa_nil))))
  (pss_one (ps_ret (pe_cal Cs (hr.mono (by decide)) pass0 (pa_cons (pv 2) (pa_cons (pe_lst (pa_cons (pe_tup (pa_cons (pe_tup (pa_cons (pe_ix ix_list (pv 0) pe_int (fun _ _ => rfl)) (pa_cons pe_int pa_nil))) pa_nil)) (pa_cons (pe_tup (pa_cons pe_str (pa_cons (pv 4) (pa_cons pe_int pa_nil)))) pa_nil))) pa_nil)))))))), ?_⟩
    walk_at "in"
    walk_at "go"
    obtain ⟨a, b, c, rest, rfl⟩ : ∃ a b c rest, ns = a :: b :: c :: rest := by
      match ns, l3 with
      | a :: b :: c :: rest, _ => exact ⟨a, b, c, rest, rfl⟩
    obtain ⟨nab, nac, nbc⟩ : a ≠ b ∧ a ≠ c ∧ b ≠ c := by
      simp only [List.nodup_cons, List.mem_cons, not_or] at nd
      exact ⟨nd.1.1, nd.1.2.1, nd.2.1.1⟩
    refine r_ixL (SqL.of hl) (atI_nat (j := 0) rfl) ?_
    walk_at "go"
    refine r_ixL (SqL.of hl) (atI_nat (j := 1) rfl) ?_
    refine ⟨a, b, rfl, ?_⟩
    walk_at "go"
    refine r_ixL (SqL.of hl) (atI_nat (j := 0) rfl) ?_
    walk_at "go"
    refine r_ixL (SqL.of hl) (atI_nat (j := 1) rfl) ?_
    refine ⟨a, b, rfl, ?_⟩
    obtain ⟨lo, hi, e1, e2, hlo, hhi, nlh, nlc, nhc⟩ : ∃ lo hi, (if sle a b then a else b) = lo ∧ (if sle b a then a else b) = hi ∧ lo ∈ a :: b :: c :: rest ∧ hi ∈ a :: b :: c :: rest ∧ lo ≠ hi ∧ lo ≠ c ∧ hi ≠ c := by
      by_cases h1 : sle a b = true
      · have h2 : ¬ sle b a = true := fun z => nab (sle_anti h1 z)
        exact ⟨a, b, if_pos h1, if_neg h2, by simp, by simp, nab, nac, nbc⟩
      · have h2 : sle b a = true := (sle_total a b).resolve_left h1
        exact ⟨b, a, if_neg h1, if_pos h2, by simp, by simp, nab.symm, nbc, nac⟩
    rw [e1, e2]
    have hc : c ∈ a :: b :: c :: rest := by simp
    clear e1 e2
    walk_at "go"
    rename_i t1 ht1 u1 hu1 r1 hr1
    obtain ⟨rv1, s1⟩ := rwv_lit (k := hi) (own := lo) (n := 2) ht1 hu1 hr1
    generalize upd (upd (upd H t1 (HO.tup [V.str lo, V.int 2])) u1 (HO.tup [V.ref t1])) r1 (HO.tup [V.str hi, V.ref u1]) = H1 at rv1 s1 ⊢
    clear ht1 hu1 hr1 t1 u1
    refine r_ixL (SqL.of (s1 _ _ hl)) (atI_nat (j := 2) rfl) ?_
    walk_at "go"
    rename_i t2 ht2 u2 hu2 r2 hr2 L hL D hD
    obtain ⟨rv2, s2⟩ := rwv_lit (k := lo) (own := c) (n := 3) ht2 hu2 hr2
    generalize upd (upd (upd H1 t2 (HO.tup [V.str c, V.int 3])) u2 (HO.tup [V.ref t2])) r2 (HO.tup [V.str lo, V.ref u2]) = H2 at rv2 s2 hL hD ⊢
    clear ht2 hu2 hr2 t2 u2
    have s3 : Same H2 (upd (upd H2 L (.lst [.ref r1, .ref r2])) D (.lst [.int 1, .int 2])) := fun z o e => upd_at (upd_at e (ne_of_none e hL)) (ne_of_none (upd_at e (ne_of_none e hL)) hD)
    have hL3 : upd (upd H2 L (.lst [.ref r1, .ref r2])) D (.lst [.int 1, .int 2]) L = some (.lst [.ref r1, .ref r2]) := upd_at upd_same (ne_of_none (upd_same (o := HO.lst [V.ref r1, V.ref r2])) hD)
    have hD3 : upd (upd H2 L (.lst [.ref r1, .ref r2])) D (.lst [.int 1, .int 2]) D = some (.lst [.int 1, .int 2]) := upd_same
    generalize upd (upd H2 L (.lst [.ref r1, .ref r2])) D (.lst [.int 1, .int 2]) = H3 at s3 hL3 hD3 ⊢
    clear hL hD
    have ok1 : RowOk (hi, [(lo, 2)]) := row_lit (kn _ hhi) (kn _ hlo) nlh.symm (by decide)
    have ok2 : RowOk (lo, [(c, 3)]) := row_lit (kn _ hlo) (kn _ hc) nlc (by decide)
    refine ⟨L, D, _, [(hi, [(lo, 2)]), (lo, [(c, 3)])], [1, 2], rfl, hL3, .cons (rv1.same fun z o e => s3 _ _ (s2 _ _ e)) (.cons (rv2.same s3) .nil), hD3, rfl, fun r hr => ?_, by show 1 + (1 + 0) ≤ 28; omega, by decide, fun x m H4 hx Px ws mk s4 => ?_⟩
    · rcases List.mem_cons.mp hr with e | hr
      · rw [e]; exact ok1
      · rw [List.mem_singleton.mp hr]; exact ok2
    have s04 : Same H H4 := fun z o e => s4 _ _ (s3 _ _ (s2 _ _ (s1 _ _ e)))
    obtain ⟨_, _, _, _, _, _, pk⟩ := id Px
    have rin : RIn [hi, lo, c] [(hi, [(lo, 2)]), (lo, [(c, 3)])] := by
      intro r hr
      rcases List.mem_cons.mp hr with e | hr
      · rw [e]; exact ⟨by simp, fun k hk => by rw [List.mem_singleton.mp hk]; simp⟩
      · rw [List.mem_singleton.mp hr]; exact ⟨by simp, fun k hk => by rw [List.mem_singleton.mp hk]; simp⟩
    have one0 : (0 : Int) ≤ 1 := by decide
    have one1 : (1 : Int) ≤ 2 ^ 200 := by decide
    have two0 : (0 : Int) ≤ 2 := by decide
    have two1 : (2 : Int) ≤ 2 ^ 200 := by decide
    have two2 : (0 : Int) < 2 := by decide
    have two3 : (2 : Int) < 2 ^ 64 := by decide
    have three2 : (0 : Int) < 3 := by decide
    have three3 : (3 : Int) < 2 ^ 64 := by decide
    have inn : InNs [hi, lo, c] m := fun r hr => rin r (mk r hr)
    have sm : SmallP m := small_of pk ws (fun y hy => ?_) (by show 2 ≤ 60; omega) fun r hr p hp => ?_
    rotate_left
    · rcases List.mem_cons.mp hy with e | hy
      · rw [e]; exact ⟨one0, one1⟩
      · rw [List.mem_singleton.mp hy]; exact ⟨two0, two1⟩
    · rcases List.mem_cons.mp (mk r hr) with e | hr
      · rw [e] at hp; rw [List.mem_singleton.mp hp]; exact ⟨two2, two3⟩
      · rw [List.mem_singleton.mp hr] at hp; rw [List.mem_singleton.mp hp]; exact ⟨three2, three3⟩
    have ef : ∀ g k, aft g m k = g k + ((if lo = k then 2 else 0) - (if hi = k then 1 else 0) + 2 * ((if c = k then 3 else 0) - (if lo = k then 1 else 0))) := fun g k => by
      unfold aft
      rw [ws]
      show _ + (1 * dlt k (hi, [(lo, 2)]) + (2 * dlt k (lo, [(c, 3)]) + 0)) = _
      unfold dlt
      show g k + (1 * ((if lo = k then 2 else 0) + 0 - (if hi = k then 1 else 0)) + (2 * ((if c = k then 3 else 0) + 0 - (if lo = k then 1 else 0)) + 0)) = _
      generalize (if lo = k then (2 : Int) else 0) = A1
      generalize (if hi = k then (1 : Int) else 0) = A2
      generalize (if c = k then (3 : Int) else 0) = A3
      generalize (if lo = k then (1 : Int) else 0) = A4
      omega
    walk_at "go"
    refine r_mk ?_
    walk_at "go"
    rename_i q1 hq1 E1 hE1
    have s5 : Same H4 (upd (upd H4 q1 (.tup [V.str hi, V.int 1])) E1 (.lst [.ref q1])) := fun z o e => upd_at (upd_at e (ne_of_none e hq1)) (ne_of_none (upd_at e (ne_of_none e hq1)) hE1)
    have hE : upd (upd H4 q1 (.tup [V.str hi, V.int 1])) E1 (.lst [.ref q1]) E1 = some (.lst [.ref q1]) := upd_same
    have hq : upd (upd H4 q1 (.tup [V.str hi, V.int 1])) E1 (.lst [.ref q1]) q1 = some (.tup [V.str hi, V.int 1]) := upd_at upd_same (ne_of_none (upd_same (o := HO.tup [V.str hi, V.int 1])) hE1)
    generalize upd (upd H4 q1 (.tup [V.str hi, V.int 1])) E1 (.lst [.ref q1]) = H5 at s5 hE hq ⊢
    clear hq1 hE1
    refine init_end (ps := [(hi, 1)]) hE (.cons ⟨q1, rfl, hq⟩ .nil) (by show 1 ≤ 30; omega) (fun p hp => by rw [List.mem_singleton.mp hp]; exact one0) fun x1 m1 H6 hx1 L1 g1 s6 => ?_
    obtain ⟨_, nd1, mp1, _⟩ := id L1.lo
    have g1' : ∀ k, get m1 k = if hi = k then 1 else 0 := fun k => by
      rw [g1]
      show (if hi = k then 1 else 0) + 0 = _
      omega
    have k1 : ∀ k ∈ keys m1, k ∈ [hi, lo, c] := kin_of nd1 mp1 fun k hk => by
      rw [g1', if_neg fun z => hk (by rw [← z]; simp)]
    have s46 : Same H4 H6 := fun z o e => s6 _ _ (s5 _ _ e)
    have eg1 : ∀ k, aft (get m1) m k = if c = k then 6 else 0 := fun k => by
      rw [ef, g1']
      by_cases z1 : hi = k
      · have n1 : ¬ lo = k := fun z => nlh (z.trans z1.symm)
        have n2 : ¬ c = k := fun z => nhc (z1.trans z.symm)
        simp only [if_pos z1, if_neg n1, if_neg n2]
        decide
      · simp only [if_neg z1]
        by_cases z2 : lo = k
        · have n2 : ¬ c = k := fun z => nlc (z2.trans z.symm)
          simp only [if_pos z2, if_neg n2]
          decide
        · simp only [if_neg z2]
          split <;> omega
    walk_at "go"
    refine ⟨x, x1, m, m1, _, rfl, Px.same s46, L1.lo, sm, by show 3 ≤ 13; omega, inn, k1, .inl ⟨fun k => ?_, fun T1 us qs m2 H7 hT1 hT17 hus cn1 nd2 g2 _ s7 => ?_⟩⟩
    · rw [eg1]
      split <;> omega
    walk_at "go"
    refine r_mk ?_
    walk_at "go"
    rename_i q2 hq2 E2 hE2
    have s8 : Same H7 (upd (upd H7 q2 (.tup [V.str lo, V.int 2])) E2 (.lst [.ref q2])) := fun z o e => upd_at (upd_at e (ne_of_none e hq2)) (ne_of_none (upd_at e (ne_of_none e hq2)) hE2)
    have hE' : upd (upd H7 q2 (.tup [V.str lo, V.int 2])) E2 (.lst [.ref q2]) E2 = some (.lst [.ref q2]) := upd_same
    have hq' : upd (upd H7 q2 (.tup [V.str lo, V.int 2])) E2 (.lst [.ref q2]) q2 = some (.tup [V.str lo, V.int 2]) := upd_at upd_same (ne_of_none (upd_same (o := HO.tup [V.str lo, V.int 2])) hE2)
    generalize upd (upd H7 q2 (.tup [V.str lo, V.int 2])) E2 (.lst [.ref q2]) = H8 at s8 hE' hq' ⊢
    clear hq2 hE2
    refine init_end (ps := [(lo, 2)]) hE' (.cons ⟨q2, rfl, hq'⟩ .nil) (by show 1 ≤ 30; omega) (fun p hp => by rw [List.mem_singleton.mp hp]; exact two0) fun x2 m3 H9 hx2 L3 g3 s9 => ?_
    obtain ⟨_, nd3, mp3, _⟩ := id L3.lo
    have g3' : ∀ k, get m3 k = if lo = k then 2 else 0 := fun k => by
      rw [g3]
      show (if lo = k then 2 else 0) + 0 = _
      omega
    have k3 : ∀ k ∈ keys m3, k ∈ [hi, lo, c] := kin_of nd3 mp3 fun k hk => by
      rw [g3', if_neg fun z => hk (by rw [← z]; simp)]
    have s49 : Same H4 H9 := fun z o e => s9 _ _ (s8 _ _ (s7 _ _ (s46 _ _ e)))
    have eg3 : ∀ k, aft (get m3) m k = if hi = k then -1 else if c = k then 6 else if lo = k then 2 else 0 := fun k => by
      rw [ef, g3']
      by_cases z1 : hi = k
      · have n1 : ¬ lo = k := fun z => nlh (z.trans z1.symm)
        have n2 : ¬ c = k := fun z => nhc (z1.trans z.symm)
        simp only [if_pos z1, if_neg n1, if_neg n2]
        decide
      · simp only [if_neg z1]
        by_cases z2 : lo = k
        · have n2 : ¬ c = k := fun z => nlc (z2.trans z.symm)
          simp only [if_pos z2, if_neg n2]
          decide
        · simp only [if_neg z2]
          split <;> omega
    have ehi : aft (get m3) m hi = -1 := by rw [eg3, if_pos rfl]
    walk_at "go"
    refine ⟨x, x2, m, m3, _, rfl, Px.same s49, L3.lo, sm, by show 3 ≤ 13; omega, inn, k3, .inr ⟨hi, by rw [ehi]; decide, fun k hk => ?_, fun T2 Ha hT2 hT2a sa => ?_⟩⟩
    · rw [eg3] at hk
      by_cases z1 : hi = k
      · rw [z1]; exact sle_refl _
      · rw [if_neg z1] at hk
        by_cases z2 : c = k
        · rw [if_pos z2] at hk; omega
        · rw [if_neg z2] at hk
          split at hk <;> omega
    · rw [ehi] at hT2a
      have s7a : Same H7 Ha := fun z o e => sa _ _ (s9 _ _ (s8 _ _ e))
      have e26 : qs = [(c, 6)] := cn_unique (m' := [(c, 6)]) nd2 (by simp [keys]) cn1 ⟨List.Perm.refl _, List.pairwise_singleton _ _⟩ fun k _ => by
        rw [g2, eg1]
        exact (get_lit c 6 k).symm
      subst e26
      have hT1a := s7a _ _ hT17
      have husa := PrA.all hus s7a
      walk_at "go"
      rename_i G hG
      have sg : Same Ha (upd Ha G (.lst [V.ref T1, V.ref T2])) := fun z o e => upd_at e (ne_of_none e hG)
      have hGg : upd Ha G (.lst [V.ref T1, V.ref T2]) G = some (.lst [V.ref T1, V.ref T2]) := upd_same
      generalize upd Ha G (.lst [V.ref T1, V.ref T2]) = Hb at sg hGg ⊢
      have s0b : Same H Hb := fun z o e => sg _ _ (s7a _ _ (s7 _ _ (s46 _ _ (s04 _ _ e))))
      refine r_ixL (SqL.of (s0b _ _ hl)) (atI_nat (j := 2) rfl) ?_
      walk_at "go"
      rename_i v1 hv1 v2 hv2 v3 hv3 v4 hv4
      have e1 : upd Hb v1 (.tup [V.str c, V.int 6]) v1 = some (.tup [V.str c, V.int 6]) := upd_same
      have e2 := upd_at (o := HO.tup [.ref v1]) e1 (ne_of_none e1 hv2)
      have f2 : upd (upd Hb v1 (.tup [V.str c, V.int 6])) v2 (.tup [.ref v1]) v2 = some (.tup [.ref v1]) := upd_same
      have g0 : Same Hb (upd (upd Hb v1 (.tup [V.str c, V.int 6])) v2 (.tup [.ref v1])) := fun z o e => by
        have h1 := upd_at (o := HO.tup [V.str c, V.int 6]) e (ne_of_none e hv1)
        exact upd_at h1 (ne_of_none h1 hv2)
      generalize upd (upd Hb v1 (.tup [V.str c, V.int 6])) v2 (.tup [.ref v1]) = Hc at e2 f2 g0 hv3 hv4 ⊢
      clear hv1 hv2 e1
      have sc : Same Hc (upd (upd Hc v3 (.tup [V.str "short", V.str hi, V.int 1])) v4 (.lst [V.ref v2, V.ref v3])) := fun z o e => by
        have h1 := upd_at (o := HO.tup [V.str "short", V.str hi, V.int 1]) e (ne_of_none e hv3)
        exact upd_at h1 (ne_of_none h1 hv4)
      have f3 : upd Hc v3 (.tup [V.str "short", V.str hi, V.int 1]) v3 = some (.tup [V.str "short", V.str hi, V.int 1]) := upd_same
      have f4 := upd_at (o := HO.lst [V.ref v2, V.ref v3]) f3 (ne_of_none f3 hv4)
      have f5 : upd (upd Hc v3 (.tup [V.str "short", V.str hi, V.int 1])) v4 (.lst [V.ref v2, V.ref v3]) v4 = some (.lst [V.ref v2, V.ref v3]) := upd_same
      generalize upd (upd Hc v3 (.tup [V.str "short", V.str hi, V.int 1])) v4 (.lst [V.ref v2, V.ref v3]) = Hd at sc f4 f5 ⊢
      have sad : Same Ha Hd := fun z o e => sc _ _ (g0 _ _ (sg _ _ e))
      refine ⟨_, _, rfl, sm_lst (sc _ _ (g0 _ _ hGg)) f5 rfl (by simp) (at2 (sm_prs (qs := [(c, 6)]) (sad _ _ hT1a) (sc _ _ f2) (PrA.all husa sad) (.cons ⟨v1, rfl, sc _ _ e2⟩ .nil) (by show 1 ≤ 1000; omega)) (sm_tupl (sad _ _ hT2a) f4 rfl (by simp) (at3 (sm_str rfl) (sm_str rfl) (sm_int rfl)))), fun H' s' => ?_⟩
      exact q H' fun z o e => s' _ _ (sc _ _ (g0 _ _ (s0b _ _ e)))
end


/-! what _law_right needs besides -/
theorem get_of {m : AL} (nd : (keys m).Nodup) {p : Str × Int} (h : p ∈ m) : get m p.1 = p.2 := by
  unfold get
  rw [(look_mem nd).mpr h]
  rfl
theorem nn_of {m : AL} (nd : (keys m).Nodup) (h : ∀ k, 0 ≤ get m k) : ∀ p ∈ m, 0 ≤ p.2 := fun p hp => by
  rw [← get_of nd hp]
  exact h p.1
theorem keys_len {m : AL} {ns : List Str} (nd : (keys m).Nodup) (h : ∀ k ∈ keys m, k ∈ ns) : m.length ≤ ns.length := by
  have := nodup_sub_len nd h
  rwa [show (keys m).length = m.length from List.length_map _] at this
theorem PlanA.kl {P : Program} {w : World} {CP : Addr} {H H' : Hp} {p : Addr} {m : PL} (h : PlanA P w CP H p m) (s : KL H H') : PlanA P w CP H' p m := by
  obtain ⟨dx, d, L, h1, h2, h3, h4⟩ := h
  exact ⟨dx, d, L, s _ _ h1 (fun _ z => nomatch z), s _ _ h2 (fun _ z => nomatch z), Paired.mapP h3 fun _ _ z => ⟨z.1, z.2.1, z.2.2.kl s⟩, h4⟩
theorem wsum_scale (n : Int) (f : Row → Int) : ∀ xs : PL, wsum (xs.map fun x => (x.1, n * x.2)) f = n * wsum xs f
  | [] => (Int.mul_zero _).symm
  | x :: xs => by
    rw [List.map_cons, wsum_cons, wsum_cons, wsum_scale n f xs, Int.mul_add, Int.mul_assoc]
theorem wsum_le {B : Int} {f : Row → Int} (b0 : 0 ≤ B) : ∀ {xs : PL} {n : Nat}, (∀ x ∈ xs, x.2 * f x.1 ≤ B) → xs.length ≤ n → wsum xs f ≤ n * B
  | [], n, _, _ => Int.mul_nonneg (by omega) b0
  | x :: xs, n, h, hn => by
    rw [wsum_cons]
    obtain ⟨n, rfl⟩ : ∃ k, n = k + 1 := ⟨n - 1, by simp only [List.length_cons] at hn; omega⟩
    have h1 := wsum_le b0 (n := n) (fun y hy => h y (List.mem_cons_of_mem _ hy)) (by simp only [List.length_cons] at hn; omega)
    have h2 := h x List.mem_cons_self
    have e : ((n + 1 : Nat) : Int) * B = n * B + B := by
      show ((n : Int) + 1) * B = _
      rw [Int.add_mul, Int.one_mul]
    omega
theorem get_lt {m : AL} {B : Int} (b0 : 0 < B) (h : ∀ p ∈ m, p.2 < B) (nd : (keys m).Nodup) (k : Str) : get m k < B := by
  unfold get
  cases e : look m k with
  | none => exact b0
  | some v => exact h _ ((look_mem nd).mp e)
/-- an end's numbers stay small -/
theorem end_lt {g : Str → Int} {rows : List Row} {ds : List Int} {k : Str} (gk : g k ≤ 2 ^ 64) (d0 : ∀ d ∈ ds, 0 ≤ d ∧ d ≤ 2 ^ 64) (r64 : ∀ r ∈ rows, ∀ p ∈ r.2, 0 < p.2 ∧ p.2 < 2 ^ 64) (rok : ∀ r ∈ rows, RowOk r) (l : rows.length ≤ 28) : endG g (rows.zip ds) k ≤ 2 ^ 140 := by
  rw [endG_sum]
  have h1 := wsum_le (B := 2 ^ 64 * 2 ^ 64) (f := dlt k) (by decide) (xs := rows.zip ds) (n := 28) (fun x hx => ?_) (by rw [List.length_zip]; omega)
  · have h2 : (28 : Nat) * ((2 : Int) ^ 64 * 2 ^ 64) + 2 ^ 64 ≤ 2 ^ 140 := by decide
    omega
  · obtain ⟨h2, h3⟩ := List.of_mem_zip hx
    obtain ⟨c0, c1⟩ := d0 _ h3
    have h4 : dlt k x.1 ≤ 2 ^ 64 := by
      unfold dlt
      rw [tot_nodup k (rok _ h2).nd]
      have := get_lt (m := x.1.2) (B := 2 ^ 64) (by decide) (fun p hp => (r64 _ h2 p hp).2) (rok _ h2).nd k
      split <;> omega
    exact Int.le_trans (Int.mul_le_mul_of_nonneg_left h4 c0) (Int.mul_le_mul_of_nonneg_right c1 (by decide))
theorem abs_lt {x B : Int} {n : Nat} (h0 : 0 ≤ x) (h1 : x ≤ B) (h2 : B < n) : x.natAbs < n := by omega
theorem Feas.d0 {g : Str → Int} {rows : List Row} {ds : List Int} (fe : Feas g (rows.zip ds)) (l : ds.length = rows.length) : ∀ d ∈ ds, 0 ≤ d := fun d hd => by
  obtain ⟨i, hi⟩ := List.mem_iff_getElem?.mp hd
  have li := (List.getElem?_eq_some_iff.mp hi).1
  have := fe i (rows[i]'(by omega), d) (List.getElem?_zip_eq_some.mpr ⟨List.getElem?_eq_getElem (by omega), hi⟩)
  exact this.1
theorem Feas.e0 {g : Str → Int} {rows : List Row} {ds : List Int} (fe : Feas g (rows.zip ds)) (g0 : ∀ k, 0 ≤ g k) (r64 : ∀ r ∈ rows, ∀ p ∈ r.2, 0 < p.2 ∧ p.2 < 2 ^ 64) (k : Str) : 0 ≤ endG g (rows.zip ds) k := by
  have := fe.nn g0 (fun x hx k => tot_nn (fun p hp => Int.le_of_lt (r64 x.1 (List.of_mem_zip hx).1 p hp).1) k) (rows.zip ds).length k
  rwa [List.take_length] at this
/-- a plan as drawn: small, over the names -/
theorem plan_small {m : PL} {rows : List Row} {ds : List Int} (pk : PlOk m) (ws : ∀ f, wsum m f = wsum (rows.zip ds) f) (mk : ∀ r ∈ pkeys m, r ∈ rows) (d0 : ∀ d ∈ ds, 0 ≤ d ∧ d ≤ 2 ^ 64) (l : rows.length ≤ 28) (r64 : ∀ r ∈ rows, ∀ p ∈ r.2, 0 < p.2 ∧ p.2 < 2 ^ 64) : SmallP m :=
  small_of pk ws (fun y hy => ⟨(d0 _ (List.of_mem_zip hy).2).1, Int.le_trans (d0 _ (List.of_mem_zip hy).2).2 (by decide)⟩) (by rw [List.length_zip]; omega) fun r hr => r64 r (mk r hr)
theorem rin_ns {m : PL} {rows : List Row} {ns : List Str} (rin : RIn ns rows) (mk : ∀ r ∈ pkeys m, r ∈ rows) : InNs ns m := fun r hr => rin r (mk r hr)


section
variable {P : Program} {w : World} {K : PySem.W.Frag} {mg : Str → Option Value} {base : Heap}
abbrev sNames : Stmt := top 31
theorem scNames : FnScope ["_law_box_here", "_law_some", "_law_letters", "_law_base", "_law_first_so", "_law_step", "_law_done", "_law_k", "_law_far", "_law_place", "_law_near", "_law_size_so", "_law_word", "_law_at_so", "_law_sign_so", "_law_turn"] ["_law_box_here", "_law_some"] (defScope sNames) := ⟨rfl, rfl, rfl, by decide +kernel, rfl, by decide +kernel, by decide +kernel⟩
def spNames : Sp := fun vs H Q _ => ∃ (a : Addr) (b n : Nat), vs = [.ref a, .int n] ∧ n ≤ 13 ∧ Bx H a (b + (13 + 9 * n)) ∧
  ∀ (p : Addr) (ws : List Str) (H' : Hp), H p = none → ws.length = n → ws.Nodup → (∀ s ∈ ws, KindS s) → H' p = some (.lst (ws.map V.str)) → Bx H' a b → Kp a H H' → Q (.ref p) H'
/-- [letters[take(box, 26)] for .. in range(m)] -/
theorem lc_letters {σ : L2.St} {H : Hp} {Q : VK} {j m b : Nat} {a : Addr} {wi : TI} (hwi : ∀ R : It → Hp → Prop, R (Itr 0 m) H → wi σ H R) (h2 : ∀ v, ((wipe σ [j]).set j v)[2]? = some (some (.str (Str.ofString "abcdefghijklmnopqrstuvwxyz")))) (h0 : ∀ v, ((wipe σ [j]).set j v)[0]? = some (some (.ref a)))
    (hw : ∀ v, wipe ((wipe σ [j]).set j v) [j] = wipe σ [j]) (bx : Bx H a (b + m)) (hm : m ≤ 100)
    (hd : ∀ D H' (acc : List Str), H D = none → H' D = some (.lst (acc.map V.str)) → acc.length = m → (∀ s ∈ acc, Lt1 s) → Bx H' a b → Kp a H H' → Q (.ref D) H') :
    tLc wi (gName j) tYes (tOp rIxS (tVar 2) (tCal spTake E0 (tCons (tVar 0) (tCons (tC (.int 26)) tNil)))) [j] σ H Q := by
  refine r_lc (hwi _ fun D hD => ?_)
  have nDa : a ≠ D := bx.ne hD
  refine lc_it (walk_range (n := m)) (fun i H' => ∃ acc : List Str, H' D = some (.lst (acc.map V.str)) ∧ acc.length = i ∧ (∀ s ∈ acc, Lt1 s) ∧ Bx H' a (b + (m - i)) ∧ Kp a H H') ?_ (fun _ _ _ _ => trivial) ?_ ?_
  · exact ⟨[], upd_same, rfl, fun s h => by simp at h, by walk_at "bx", fun c o e n => by walk_at "hp"⟩
  · rintro i x H1 _ hi ⟨acc, hD1, hl, hacc, bx1, kp1⟩ ⟨rfl, rfl⟩
    refine r_gname ⟨hw _, ?_⟩
    refine r_yes (iteT ?_)
    refine r_op (r_var (h2 _) (r_cal (r_cons (r_var (h0 _) (r_cons (r_c (r_nil ?_)))))))
    refine ⟨a, b + (m - (i + 1)), 26, rfl, by walk_at "bx", by decide, by decide, fun d H2 d0 d1 bx2 kp2 => ?_⟩
    obtain ⟨k, rfl⟩ : ∃ k : Nat, d = k := ⟨d.toNat, by omega⟩
    refine r_ixSl ⟨by omega, ?_⟩
    refine ⟨acc.map V.str, by walk_at "hp", szl (by rw [List.length_map]; omega), acc ++ [⟨#[97 + k]⟩], by rw [List.map_append]; exact upd_same, by rw [List.length_append, hl]; rfl, fun s hs => ?_, by walk_at "bx", fun c o e n => ?_⟩
    · rcases List.mem_append.mp hs with hs | hs
      · exact hacc s hs
      · have : s = ⟨#[97 + k]⟩ := by simpa using hs
        exact ⟨97 + k, this, by omega, by omega⟩
    · have n2 : c ≠ D := ne_of_none e hD
      walk_at "hp"
  · rintro H1 ⟨acc, hD1, hl, hacc, bx1, kp1⟩
    exact hd D H1 acc hD hD1 hl hacc (by walk_at "bx") kp1
theorem ok_names {f : Addr} {fd : FuncData} (F : Fun K "_law_names" "_law_names" sNames f fd) (T : Txt K mg) (Ct : Cal P w K mg base CX0 1 "_law_take" ["_law_box_here", "_law_below"] spTake) (Co : Cal P w K mg base CX0 2 "_law_of" ["_law_box_here", "_law_some"] spOf) : FnOk P w K mg base CX0 3 f fd ["_law_box_here", "_law_some"] spNames := by
  refine F.ok scNames (fun vs H Q E h => ?_) (fun cdv A outer s H vs Q E hr h => ?_)
  · obtain ⟨a, b, n, rfl, _⟩ := h
    rfl
  · obtain ⟨a, b, n, rfl, hn, hb, q⟩ := h
    have hr1 : Room 1 _ := hr.mono (by decide)
    refine ⟨_, (pss_cons (ps_set (i := 2) scNames.nd rfl (Or.inr rfl) pe_str)
  (Evl.pss_cut (ps_set (i := 3) scNames.nd rfl (Or.inl rfl) (pe_joinR pe_str (pe_lc (own := [("_law_k", 7)]) (g := gName 7) (tt := tYes) rfl scNames.nd (pi_range1 rfl T.range (pa_cons pe_int pa_nil)) (blkOk_by (N := ["_law_box_here", "_law_some", "_law_letters", "_law_base", "_law_first_so", "_law_step", "_law_done", "_law_k", "_law_far", "_law_place", "_law_near", "_law_size_so", "_law_word", "_law_at_so", "_law_sign_so", "_law_turn"]) (sc := defScope sNames) (by decide +kernel)) (fun _ _ _ _ _ => (pg_name (i := 7) scNames.nd rfl (Or.inl rfl))) (fun _ _ _ _ _ => pts_nil) (fun _ _ _ _ _ => (pe_ix ix_str (pv 2) (pe_cal Ct hr1 pass0 (pa_cons (pv 0) (pa_cons pe_int pa_nil))) (fun _ _ => rfl))))))
  (pss_cons (ps_par3 (i := 8) (j := 9) (l := 10) rfl scNames.nd rfl rfl rfl (by decide) (by decide) (by decide) rfl rfl rfl (pa_cons (pe_op op_add pe_int (pe_cal Ct hr1 pass0 (pa_cons (pv 0) (pa_cons pe_int pa_nil)))) (pa_cons (pe_cal Ct hr1 pass0 (pa_cons (pv 0) (pa_cons pe_int pa_nil))) (pa_cons (pe_cal Ct hr1 pass0 (pa_cons (pv 0) (pa_cons pe_int pa_nil))) pa_nil))) (by rfl))
  (pss_cons (ps_set (i := 4) scNames.nd rfl (Or.inl rfl) (pe_cal Ct hr1 pass0 (pa_cons (pv 0) (pa_cons pe_int pa_nil))))
  (pss_cons (ps_set (i := 5) scNames.nd rfl (Or.inl rfl) (pe_cal Co hr pass0 (pa_cons (pv 0) (pa_cons (pe_lst (pa_cons pe_int (pa_cons pe_int (pa_cons pe_int (pa_cons pe_int (pa_cons pe_int (pa_cons pe_int (pa_cons pe_int (pa_cons pe_int (pa_cons pe_int (pa_cons pe_int (pa_cons pe_int (pa_cons pe_int pa_nil))))))))))))) pa_nil))))
  (pss_cons (ps_set (i := 6) scNames.nd rfl (Or.inl rfl) (pe_lst pa_nil))
  (pss_cons (ps_for PassesOwn.never rfl (pi_range1 rfl T.range (pa_cons (pv 1) pa_nil)) (pg_name (i := 7) scNames.nd rfl (Or.inl rfl))
  (Evl.pss_cut (ps_set (i := 11) scNames.nd rfl (Or.inl rfl) (pe_ifExp (pt_cmpR op_eq (pv 10) pe_int (nomark _)) (pv 8) (pe_op op_add pe_int (pe_cal Ct hr1 pass0 (pa_cons (pv 0) (pa_cons pe_int pa_nil))))))
  (pss_cons (ps_set (i := 12) scNames.nd rfl (Or.inl rfl) (pe_slice sl_str (pv 3) po_none (po_some (pv 11))))
  (Evl.pss_cut (ps_if (pt_cmpR op_gt (pv 10) pe_int (nomark _))
  (pss_one (ps_set (i := 12) scNames.nd rfl (Or.inl rfl) (pe_joinR pe_str (pe_lc (own := [("_law_turn", 15)]) (g := gName 15) (tt := tYes) rfl scNames.nd (pi_range1 rfl T.range (pa_cons (pv 11) pa_nil)) (blkOk_by (N := ["_law_box_here", "_law_some", "_law_letters", "_law_base", "_law_first_so", "_law_step", "_law_done", "_law_k", "_law_far", "_law_place", "_law_near", "_law_size_so", "_law_word", "_law_at_so", "_law_sign_so", "_law_turn"]) (sc := defScope sNames) (by decide +kernel)) (fun _ _ _ _ _ => (pg_name (i := 15) scNames.nd rfl (Or.inl rfl))) (fun _ _ _ _ _ => pts_nil) (fun _ _ _ _ _ => (pe_ix ix_str (pv 2) (pe_cal Ct hr1 pass0 (pa_cons (pv 0) (pa_cons pe_int pa_nil))) (fun _ _ => rfl)))))))
  pss_nil)
  (pss_cons (ps_set (i := 13) scNames.nd rfl (Or.inl rfl) (pe_op op_mod (pe_callTy c_int (by rfl) T.int (by decide +kernel) (pa_cons (pv 9) pa_nil)) (pv 11)))
  (pss_cons (ps_set (i := 14) scNames.nd rfl (Or.inl rfl) (pe_ix ix_str (pv 2) (pe_op op_mod (pe_callTy c_int (by rfl) T.int (by decide +kernel) (pa_cons (pe_op op_add (pv 4) (pe_op op_mul (pv 5) (pv 7))) pa_nil)) pe_int) (fun _ _ => rfl)))
  (pss_one (ps_expr (pe_bm PySem.F.plainAttrs_list PySem.F.slot_list_append PySem.F.type_list_append mt_append (pv 6) (pa_cons (pe_op o_catS (pe_op o_catS (pe_slice sl_str (pv 12) po_none (po_some (pv 13))) (pv 14)) (pe_slice sl_str (pv 12) (po_some (pe_op op_add (pv 13) pe_int)) po_none)) pa_nil))))))))))
  (pss_one (ps_ret (pv 6)))))))))), ?_⟩
    walk_at "in"
    walk_at "go"
    refine ⟨fun σ' H' => ∃ (z : Str), σ' = [some (.ref a), some (.int n), some (.str (Str.ofString "abcdefghijklmnopqrstuvwxyz")), some (.str z), none, none, none, none, none, none, none, none, none, none, none, none] ∧ (cds z).length = 8 ∧ AllL (cds z) ∧ Bx H' a (b + (5 + 9 * n)) ∧ Kp a H H', ?_, ?_⟩
    · refine r_asg (r_m1 (r_c (r_strV ?_)))
      refine lc_letters (a := a) (m := 8) (b := b + (5 + 9 * n)) (fun R h => ?_) (fun v => rfl) (fun v => rfl) (fun v => rfl) (by walk_at "bx") (by decide) fun D H1 acc hD hD1 hl hacc bx1 kp1 => ?_
      · walk_at "go"
        exact h
      refine r_join (ys := acc) (by walk_at "sq") (by rw [sum_len acc hacc, hl, empty_len]; omega) ?_
      walk_at "go"
      exact ⟨_, rfl, by rw [cds_join, (flat_len acc hacc).1, hl], by rw [cds_join]; exact (flat_len acc hacc).2, bx1, kp1⟩
    · rintro σ1 H1 ⟨z, rfl, z1, z2, bx1, kp1⟩
      walk_at "go"
      refine ⟨a, b + (4 + 9 * n), 8, rfl, by walk_at "bx", by decide, by decide, fun far H2 f0 f1 bx2 kp2 => ?_⟩
      walk_at "go"
      refine ⟨a, b + (3 + 9 * n), 8, rfl, by walk_at "bx", by decide, by decide, fun place H3 p0 p1 bx3 kp3 => ?_⟩
      walk_at "go"
      refine ⟨a, b + (2 + 9 * n), 2, rfl, by walk_at "bx", by decide, by decide, fun near H4 n0 n1 bx4 kp4 => ?_⟩
      walk_at "go"
      refine ⟨a, b + (1 + 9 * n), 26, rfl, by walk_at "bx", by decide, by decide, fun first H5 g0 g1 bx5 kp5 => ?_⟩
      walk_at "go"
      rename_i pl hpl
      refine ⟨a, pl, b + 9 * n, steps.map (fun (s : Nat) => V.int (s : Int)), rfl, by walk_at "bx", by walk_at "hp", by walk_at "ne", by decide, by decide, fun x i H6 hx bx6 kp6 => ?_⟩
      obtain ⟨st, rfl, hst⟩ := map_some hx
      have hst : st ∈ steps := List.mem_of_getElem? hst
      obtain ⟨far, rfl⟩ : ∃ k : Nat, far = k := ⟨far.toNat, by omega⟩
      obtain ⟨place, rfl⟩ : ∃ k : Nat, place = k := ⟨place.toNat, by omega⟩
      obtain ⟨first, rfl⟩ : ∃ k : Nat, first = k := ⟨first.toNat, by omega⟩
      have kp : Kp a H H6 := fun c o e nc => by walk_at "hp"
      walk_at "go"
      rename_i pd hpd
      have npd : pd ≠ a := by walk_at "ne"
      have hpd0 : H pd = none := kp.free hpd npd
      refine for_it (walk_range (n := n)) (fun i σ H' => ∃ (ws : List Str) (x7 x11 x12 x13 x14 : Option V), σ = [some (.ref a), some (.int n), some (.str (Str.ofString "abcdefghijklmnopqrstuvwxyz")), some (.str z), some (.int first), some (.int st), some (.ref pd), x7, some (.int (1 + far)), some (.int place), some (.int near), x11, x12, x13, x14, none] ∧ ws.length = i ∧ (∀ (k : Nat) (w : Str), ws[k]? = some w → NameAt w place (97 + (first + st * k) % 26 : Nat)) ∧ H' pd = some (.lst (ws.map V.str)) ∧ Bx H' a (b + 9 * (n - i)) ∧ Kp a H H') ?_ (fun _ _ _ _ _ => trivial) ?_ ?_
      · exact ⟨[], none, none, none, none, none, rfl, rfl, fun k w h => by simp at h, by walk_at "hp", by walk_at "bx", fun c o e nc => by walk_at "hp"⟩
      · rintro i x σ H7 _ hi ⟨ws, x7, x11, x12, x13, x14, rfl, wl, hws, hp7, bx7, kp7⟩ ⟨rfl, rfl⟩
        walk_at "go"
        refine ⟨fun σ' H' => ∃ (sz : Nat), σ' = [some (.ref a), some (.int n), some (.str (Str.ofString "abcdefghijklmnopqrstuvwxyz")), some (.str z), some (.int first), some (.int st), some (.ref pd), some (.int (0 + (i : Int))), some (.int (1 + far)), some (.int place), some (.int near), some (.int sz), x12, x13, x14, none] ∧ 1 ≤ sz ∧ sz ≤ 8 ∧ H' pd = some (.lst (ws.map V.str)) ∧ Bx H' a (b + 9 * (n - i - 1) + 8) ∧ Kp a H H', ?_, ?_⟩
        · walk_at "go"
          refine ite_d (fun c => ?_) (fun c => ?_)
          · walk_at "go"
            exact ⟨1 + far, rfl, by omega, by omega, hp7, by walk_at "bx", kp7⟩
          · walk_at "go"
            refine ⟨a, b + 9 * (n - i - 1) + 8, 8, rfl, by walk_at "bx", by decide, by decide, fun d H8 d0 d1 bx8 kp8 => ?_⟩
            obtain ⟨d, rfl⟩ : ∃ k : Nat, d = k := ⟨d.toNat, by omega⟩
            walk_at "go"
            exact ⟨1 + d, rfl, by omega, by omega, by walk_at "hp", by walk_at "bx", kp7.trans kp8⟩
        · rintro σ8 H8 ⟨sz, rfl, s1, s8, hp8, bx8, kp8⟩
          walk_at "go"
          have hk : (sz : Int) ≤ 8 := by omega
          refine r_slS (My.sz (by rw [len_cds, z1]; decide)) ?_
          walk_at "go"
          refine ⟨fun σ' H' => ∃ (wd : Str), σ' = [some (.ref a), some (.int n), some (.str (Str.ofString "abcdefghijklmnopqrstuvwxyz")), some (.str z), some (.int first), some (.int st), some (.ref pd), some (.int (0 + (i : Int))), some (.int (1 + far)), some (.int place), some (.int near), some (.int sz), some (.str wd), x13, x14, none] ∧ (cds wd).length = sz ∧ AllL (cds wd) ∧ H' pd = some (.lst (ws.map V.str)) ∧ Bx H' a (b + 9 * (n - (i + 1))) ∧ Kp a H H', ?_, ?_⟩
          · walk_at "go"
            refine ite_d (fun c => ?_) (fun c => ?_)
            · refine r_asg (r_m1 (r_c (r_strV ?_)))
              refine lc_letters (a := a) (m := sz) (b := b + 9 * (n - (i + 1))) (fun R h => ?_) (fun v => rfl) (fun v => rfl) (fun v => rfl) (by walk_at "bx") (by omega) fun D H9 acc hD hD1 hl hacc bx9 kp9 => ?_
              · walk_at "go"
                exact h
              refine r_join (ys := acc) (by walk_at "sq") (by rw [sum_len acc hacc, hl, empty_len]; omega) ?_
              walk_at "go"
              exact ⟨_, rfl, by rw [cds_join, (flat_len acc hacc).1, hl], by rw [cds_join]; exact (flat_len acc hacc).2, by walk_at "hp", bx9, kp8.trans kp9⟩
            · walk_at "go"
              exact ⟨_, rfl, by rw [cds_to, List.length_take, z1]; omega, by rw [cds_to]; exact fun d hd => z2 d (List.mem_of_mem_take hd), hp8, by walk_at "bx", kp8⟩
          · rintro σ9 H9 ⟨wd, rfl, w1, w2, hp9, bx9, kp9⟩
            walk_at "go"
            have e1 : (((first : Int) + (st : Int) * (0 + (i : Int))) % 26) = (((first + st * i) % 26 : Nat) : Int) := by rw [Int.zero_add]; rfl
            rw [e1]
            refine r_ixSl ⟨Nat.mod_lt _ (by decide), ?_⟩
            walk_at "go"
            have e2 : ((place : Int) % (sz : Int)) = ((place % sz : Nat) : Int) := rfl
            have hp1 : place % sz < sz := Nat.mod_lt _ (by omega)
            refine r_slS (My.sz (by rw [len_cds, w1]; omega)) ?_
            walk_at "go"
            rw [e2]
            refine r_catS (My.sz (by rw [len_cds, cds_to, List.length_take, w1]; show min (place % sz) sz + 1 ≤ 100000; omega)) ?_
            walk_at "go"
            refine r_slS (My.sz (by rw [len_cds, w1]; omega)) ?_
            walk_at "go"
            have e3 : (((place % sz : Nat) : Int) + 1) = ((place % sz + 1 : Nat) : Int) := rfl
            rw [e3]
            have ew : cds (cutS wd none (some ((place % sz : Nat) : Int)) ++ (⟨#[97 + (first + st * i) % 26]⟩ : Str) ++ cutS wd (some ((place % sz + 1 : Nat) : Int)) none) = (cds wd).take (place % sz) ++ [97 + (first + st * i) % 26] ++ (cds wd).drop (place % sz + 1) := by
              rw [cds_app, cds_app, cds_to, cds_from]
            have hw : NameAt (cutS wd none (some ((place % sz : Nat) : Int)) ++ (⟨#[97 + (first + st * i) % 26]⟩ : Str) ++ cutS wd (some ((place % sz + 1 : Nat) : Int)) none) place (97 + (first + st * i) % 26) := put_letter w1 w2 ⟨s1, s8⟩ (by omega) ew
            refine r_catS (My.sz (by rw [len_cds, len_cds, cds_app, cds_to, cds_from, List.length_append, List.length_take, List.length_drop, w1]; show min (place % sz) sz + 1 + (sz - (place % sz + 1)) ≤ 100000; omega)) ?_
            generalize (cutS wd none (some ((place % sz : Nat) : Int)) ++ (⟨#[97 + (first + st * i) % 26]⟩ : Str) ++ cutS wd (some ((place % sz + 1 : Nat) : Int)) none) = w' at hw
            walk_at "go"
            refine ⟨ws ++ [w'], _, _, _, _, _, rfl, by rw [List.length_append, wl]; rfl, fun k w hk => ?_, by rw [List.map_append]; exact upd_same, by walk_at "bx", fun c o e nc => ?_⟩
            · by_cases hk2 : k < ws.length
              · rw [List.getElem?_append_left hk2] at hk
                exact hws k w hk
              · rw [List.getElem?_append_right (by omega)] at hk
                obtain ⟨h1, h2⟩ := List.getElem?_eq_some_iff.mp hk
                have h3 : k = i := by simp at h1; omega
                subst h3
                have h4 : w' = w := by simpa using h2
                rw [← h4]
                exact hw
            · have n2 : c ≠ pd := ne_of_none e hpd0
              walk_at "hp"
      · rintro σ7 H7 ⟨ws, x7, x11, x12, x13, x14, rfl, wl, hws, hp7, bx7, kp7⟩
        walk_at "go"
        exact q pd ws H7 hpd0 wl (names_nodup hst (by omega) hws) (fun s hs => by
          obtain ⟨k, hk, e⟩ := List.getElem_of_mem hs
          exact (hws k s (by rw [List.getElem?_eq_getElem hk, e])).kind) hp7 (by walk_at "bx") kp7
end


section
variable {P : Program} {w : World} {K : PySem.W.Frag} {mg : Str → Option Value} {base : Heap} {C CO CP CS t0 : Addr}
abbrev sRight : Stmt := top 48
theorem scRight : FnScope ["_law_box_here", "_law_names_here", "_law_rows_so", "_law_held", "_law_due", "_law_got", "_law_far", "_law_ends", "_law_more", "_law_wide", "_law_done", "_law_lot_so", "_law_one_so", "_law_two_so", "_law_by_so", "_law_k", "_law_row", "_law_much", "_law_told_here"] ["_law_box_here"] (defScope sRight) := ⟨rfl, rfl, rfl, by decide +kernel, rfl, by decide +kernel, by decide +kernel⟩
def spRight (_ : Unit) : Sp := fun vs H Q _ => ∃ (a : Addr) (b : Nat), vs = [.ref a] ∧ Bx H a (b + 2000) ∧ ∀ H', Bx H' a b → Kp a H H' → Q (.bl true) H'
theorem ok_right {f : Addr} {fd : FuncData} (F : Fun K "_law_right" "_law_right" sRight f fd) (T : Txt K mg) (L : TxL K C) (PT : TxP K CP) (M : TxM K C) (MP : TxM K CP) (Op : OCal P w K mg base CX0 2 C "pairs" ["self"] (spLotPairs C)) (Ou : OCal P w K mg base CX0 4 C (PySem.dunder Operator.Mult.info.2) ["self", "other"] (spLotMul C)) (Oe : OCal P w K mg base CX0 1 C "__eq__" ["self", "other"] (spLotEq C)) (Pad : OCal P w K mg base CX0 7 CP (PySem.dunder Operator.Add.info.2) ["self", "other"] (spPlanAdd P w CP)) (Pmu : OCal P w K mg base CX0 7 CP (PySem.dunder Operator.Mult.info.2) ["self", "other"] (spPlanMul P w CP)) (Paf : OCal P w K mg base CX0 9 CP "after" ["self", "stock"] (spPlanAft P w C CP)) (PafK : OCalK P w K mg base CX0 9 CP "after" ["self", "stock"] ["stock"] (spPlanAft P w C CP)) (Cnm : Cal P w K mg base CX0 3 "_law_names" ["_law_box_here", "_law_some"] spNames) (Cany : Cal P w K mg base CX0 3 "_law_any" ["_law_box_here", "_law_names_here", "_law_far"] spAny) (Cst : Cal P w K mg base CX0 3 "_law_stock" ["_law_box_here", "_law_names_here", "_law_below"] spStock) (Cc : Cal P w K mg base CX0 1 "_law_counted" ["_law_pairs_so"] (spCountedT K)) (Ccn : Cal P w K mg base CX0 3 "_law_counts" ["_law_box_here", "_law_rows_so", "_law_numbers_so", "_law_cap"] spLCounts) (Cl : Cal P w K mg base CX0 4 "_law_lot" ["_law_numbers_so"] (spLLot C)) (Cp : Cal P w K mg base CX0 2 "_law_pairs" ["_law_numbers_so"] spPairs) (Cen : Cal P w K mg base CX0 3 "_law_end" ["_law_rows_so", "_law_done", "_law_numbers_so"] spLEnd) (Ctd : Cal P w K mg base CX0 10 "_law_told" ["_law_plan_so", "_law_lot_so"] (spTold P w C CP)) (Cpl : Cal P w K mg base CX0 6 "_law_plan" ["_law_rows_so", "_law_done"] (spLPlan P w CP)) (Cwk : Cal P w K mg base CX0 11 "_law_walked" ["_law_box_here", "_law_rows_so", "_law_done", "_law_lot_so"] (spWalked C)) (Cba : Cal P w K mg base CX0 10 "_law_batched" ["_law_rows_so", "_law_done", "_law_lot_so"] (spBatched C)) (Cs : Cal P w K mg base CX0 4 "_law_same" ["_law_got", "_law_due"] (spSame K 4)) (Chr : Cal P w K mg base CX0 11 "_law_by_hand_right" ["_law_names_here"] spHandR) (Co : Cal P w K mg base CX0 2 "_law_of" ["_law_box_here", "_law_some"] spOf) (Ct : Cal P w K mg base CX0 1 "_law_take" ["_law_box_here", "_law_below"] spTake) : FnOk P w K mg base CX0 12 f fd ["_law_box_here"] (spRight ()) := by
  refine F.ok scRight (fun vs H Q E h => ?_) (fun cdv A outer s H vs Q E hr h => ?_)
  · obtain ⟨a, b, rfl, _⟩ := h
    rfl
  · obtain ⟨a, b, rfl, bx0, q⟩ := h
    obtain ⟨fo, i1⟩ := M.i1
    obtain ⟨ro, i2⟩ := M.i2
    obtain ⟨f2, hc2⟩ := M.c2
    obtain ⟨fp2, hcp2⟩ := MP.c2
    have hu := hu_of hr
    refine ⟨_, (pss_cons (ps_set (i := 1) scRight.nd rfl (Or.inl rfl) (pe_cal Cnm (hr.mono (by decide)) pass0 (pa_cons (pv 0) (pa_cons pe_int pa_nil))))
  (pss_cons (ps_set (i := 2) scRight.nd rfl (Or.inl rfl) (pe_cal Cany (hr.mono (by decide)) pass0 (pa_cons (pv 0) (pa_cons (pv 1) (pa_cons pe_int pa_nil)))))
  (pss_cons (ps_set (i := 3) scRight.nd rfl (Or.inl rfl) (pe_cal Cc (hr.mono (by decide)) pass0 (pa_cons (pe_cal Cst (hr.mono (by decide)) pass0 (pa_cons (pv 0) (pa_cons (pv 1) (pa_cons pe_int pa_nil)))) pa_nil)))
  (pss_cons (ps_par (i := 10) (j := 11) rfl scRight.nd rfl rfl (by decide) rfl rfl (pa_cons (pe_cal Ccn (hr.mono (by decide)) pass0 (pa_cons (pv 0) (pa_cons (pv 2) (pa_cons (pv 3) (pa_cons pe_int pa_nil))))) (pa_cons (pe_cal Cl (hr.mono (by decide)) pass0 (pa_cons (pv 3) pa_nil)) pa_nil)) (by rfl))
  (pss_cons (ps_set (i := 4) scRight.nd rfl (Or.inl rfl) (pe_cal Cp (hr.mono (by decide)) pass0 (pa_cons (pe_cal Cen (hr.mono (by decide)) pass0 (pa_cons (pv 2) (pa_cons (pv 10) (pa_cons (pv 3) pa_nil)))) pa_nil)))
  (pss_cons (ps_set (i := 5) scRight.nd rfl (Or.inl rfl) (pe_lst (pa_cons (pe_cal Ctd (hr.mono (by decide)) pass0 (pa_cons (pe_cal Cpl (hr.mono (by decide)) pass0 (pa_cons (pv 2) (pa_cons (pv 10) pa_nil))) (pa_cons (pv 11) pa_nil))) (pa_cons (pe_cal Cwk (hr.mono (by decide)) pass0 (pa_cons (pv 0) (pa_cons (pv 2) (pa_cons (pv 10) (pa_cons (pv 11) pa_nil))))) pa_nil))))
  (pss_cons (ps_set (i := 5) scRight.nd rfl (Or.inl rfl) (pe_op op_cat (pv 5) (pe_lst (pa_cons (pe_cal Cwk (hr.mono (by decide)) pass0 (pa_cons (pv 0) (pa_cons (pv 2) (pa_cons (pv 10) (pa_cons (pv 11) pa_nil))))) (pa_cons (pe_methO0 Op L.oc.cl (hr.mono (by decide)) pass0 (pv 11)) pa_nil)))))
  (Evl.pss_cut (ps_if (PW.pt (pw_or (pt_not (pt_val (pe_cal Cs (hr.mono (by decide)) pass0 (pa_cons (pv 5) (pa_cons (pe_lst (pa_cons (pv 4) (pa_cons (pv 4) (pa_cons (pv 4) (pa_cons (pe_cal Cp (hr.mono (by decide)) pass0 (pa_cons (pv 3) pa_nil)) pa_nil))))) pa_nil))))) (pw_or1 (pt_not (pt_val (pe_cal Chr (hr.mono (by decide)) pass0 (pa_cons (pv 1) pa_nil)))))))
  pss_never
  pss_nil)
  (pss_cons (ps_set (i := 6) scRight.nd rfl (Or.inl rfl) (pe_cal Co (hr.mono (by decide)) pass0 (pa_cons (pv 0) (pa_cons (pe_lst (pa_cons pe_int (pa_cons pe_int (pa_cons (pe_op op_pow pe_int pe_int) pa_nil)))) pa_nil))))
  (pss_cons (ps_set (i := 2) scRight.nd rfl (Or.inl rfl) (pe_cal Cany (hr.mono (by decide)) pass0 (pa_cons (pv 0) (pa_cons (pv 1) (pa_cons (pv 6) pa_nil)))))
  (pss_cons (ps_set (i := 3) scRight.nd rfl (Or.inl rfl) (pe_cal Cc (hr.mono (by decide)) pass0 (pa_cons (pe_cal Cst (hr.mono (by decide)) pass0 (pa_cons (pv 0) (pa_cons (pv 1) (pa_cons (pe_op op_pow pe_int pe_int) pa_nil)))) pa_nil)))
  (pss_cons (ps_par (i := 10) (j := 11) rfl scRight.nd rfl rfl (by decide) rfl rfl (pa_cons (pe_cal Ccn (hr.mono (by decide)) pass0 (pa_cons (pv 0) (pa_cons (pv 2) (pa_cons (pv 3) (pa_cons (pe_op op_fdiv (pe_op op_pow pe_int pe_int) (pv 6)) pa_nil))))) (pa_cons (pe_cal Cl (hr.mono (by decide)) pass0 (pa_cons (pv 3) pa_nil)) pa_nil)) (by rfl))
  (pss_cons (ps_set (i := 7) scRight.nd rfl (Or.inl rfl) (pe_cal Cen (hr.mono (by decide)) pass0 (pa_cons (pv 2) (pa_cons (pv 10) (pa_cons (pv 3) pa_nil)))))
  (Evl.pss_cut (ps_set (i := 8) scRight.nd rfl (Or.inl rfl) (pe_cal Ccn (hr.mono (by decide)) pass0 (pa_cons (pv 0) (pa_cons (pv 2) (pa_cons (pv 7) (pa_cons (pe_op op_fdiv (pe_op op_pow pe_int pe_int) (pv 6)) pa_nil))))))
  (pss_cons (ps_par3 (i := 12) (j := 13) (l := 14) rfl scRight.nd rfl rfl rfl (by decide) (by decide) (by decide) rfl rfl rfl (pa_cons (pe_cal Cpl (hr.mono (by decide)) pass0 (pa_cons (pv 2) (pa_cons (pv 10) pa_nil))) (pa_cons (pe_cal Cpl (hr.mono (by decide)) pass0 (pa_cons (pv 2) (pa_cons (pv 8) pa_nil))) (pa_cons (pe_cal Ct (hr.mono (by decide)) pass0 (pa_cons (pv 0) (pa_cons pe_int pa_nil))) pa_nil))) (by rfl))
  (pss_cons (ps_set (i := 4) scRight.nd rfl (Or.inl rfl) (pe_lst (pa_cons (pe_cal Cp (hr.mono (by decide)) pass0 (pa_cons (pv 7) pa_nil)) (pa_cons (pe_cal Cp (hr.mono (by decide)) pass0 (pa_cons (pe_cal Cen (hr.mono (by decide)) pass0 (pa_cons (pv 2) (pa_cons (pv 8) (pa_cons (pv 7) pa_nil)))) pa_nil)) pa_nil))))
  (pss_cons (ps_set (i := 5) scRight.nd rfl (Or.inl rfl) (pe_lst (pa_cons (pe_cal Ctd (hr.mono (by decide)) pass0 (pa_cons (pv 12) (pa_cons (pv 11) pa_nil))) (pa_cons (pe_cal Ctd (hr.mono (by decide)) pass0 (pa_cons (pv 13) (pa_cons (pe_cal Cl (hr.mono (by decide)) pass0 (pa_cons (pv 7) pa_nil)) pa_nil))) (pa_cons (pe_cal Ctd (hr.mono (by decide)) pass0 (pa_cons (pe_bin Pad PT.oc (hr.mono (by decide)) passE0 (pv 12) (pv 13)) (pa_cons (pv 11) pa_nil))) pa_nil)))))
  (Evl.pss_cut (ps_if (pt_not (pt_val (pe_cal Cs (hr.mono (by decide)) pass0 (pa_cons (pv 5) (pa_cons (pe_op op_cat (pv 4) (pe_lst (pa_cons (pe_ix ix_list (pv 4) pe_int (fun _ _ => rfl)) pa_nil))) pa_nil)))))
  pss_never
  pss_nil)
  (Evl.pss_cut (ps_if (pt_not (pt_val (pe_cal Cs (hr.mono (by decide)) pass0 (pa_cons (pe_lst (pa_cons (pe_cal Cba (hr.mono (by decide)) pass0 (pa_cons (pv 2) (pa_cons (pv 10) (pa_cons (pv 11) pa_nil)))) (pa_cons (pe_methO0 Op L.oc.cl (hr.mono (by decide)) pass0 (pv 11)) pa_nil))) (pa_cons (pe_lst (pa_cons (pe_ix ix_list (pv 4) pe_int (fun _ _ => rfl)) (pa_cons (pe_cal Cp (hr.mono (by decide)) pass0 (pa_cons (pv 3) pa_nil)) pa_nil))) pa_nil)))))
  pss_never
  pss_nil)
  (Evl.pss_cut (ps_set (i := 9) scRight.nd rfl (Or.inl rfl) (pe_methO Paf PT.oc.cl (hr.mono (by decide)) pass0 (pe_binI Pmu PT.oc (hr.mono (by decide)) passE0 hcp2 (Or.inr ⟨_, rfl⟩) i1 i2 (pv 12) (pv 14)) (pa_cons (pe_binI Ou L.oc (hr.mono (by decide)) passE0 hc2 (Or.inr ⟨_, rfl⟩) i1 i2 (pv 11) (pv 14)) pa_nil)))
  (Evl.pss_cut (ps_if (pt_not (pt_val (pe_cal Cs (hr.mono (by decide)) pass0 (pa_cons (pe_cmpR (op_eqO Oe (hr.mono (by decide)) pass0) (pv 9) (pe_binI Ou L.oc (hr.mono (by decide)) passE0 hc2 (Or.inr ⟨_, rfl⟩) i1 i2 (pe_methOK PafK PT.oc.cl (hr.mono (by decide)) pass0 (pv 12) (pk_cons (pv 11) pk_nil)) (pv 14)) (nomark _)) (pa_cons pe_bl pa_nil)))))
  pss_never
  pss_nil)
  (pss_cons (ps_for PassesOwn.never rfl (pi_enum (by rfl) T.enumerate (pa_cons (pv 2) pa_nil)) (pg_tup rfl (pgs_cons (pg_name (i := 15) scRight.nd rfl (Or.inl rfl)) (pgs_cons (pg_name (i := 16) scRight.nd rfl (Or.inl rfl)) pgs_nil)))
  (pss_cons (ps_set (i := 17) scRight.nd rfl (Or.inl rfl) (pe_callTy c_list (by rfl) T.list (by decide +kernel) (pa_cons (pv 10) pa_nil)))
  (pss_cons (ps_asg (pe_op op_add (pe_op op_add (pe_ix ix_list (pv 10) (pv 15) (fun _ _ => rfl)) (pe_dget2 hu (pv 7) (pe_ix ix_tup (pv 16) pe_int (fun _ _ => rfl)) pe_int ⟨rfl, rfl, rfl, rfl⟩)) pe_int) (pg_sub (pv 17) (pv 15) set_list))
  (pss_cons (ps_set (i := 18) scRight.nd rfl (Or.inl rfl) (pe_ifExp (pt_cmpR op_lt (pe_ix ix_list (pv 17) (pv 15) (fun _ _ => rfl)) (pe_op op_pow pe_int pe_int) (nomark _)) (pe_cal Ctd (hr.mono (by decide)) pass0 (pa_cons (pe_cal Cpl (hr.mono (by decide)) pass0 (pa_cons (pv 2) (pa_cons (pv 17) pa_nil))) (pa_cons (pv 11) pa_nil))) (pe_tup (pa_cons pe_str (pa_cons (pe_ix ix_tup (pv 16) pe_int (fun _ _ => rfl)) (pa_cons pe_int pa_nil))))))
  (pss_one (ps_if (pt_not (pt_val (pe_cal Cs (hr.mono (by decide)) pass0 (pa_cons (pv 18) (pa_cons (pe_tup (pa_cons pe_str (pa_cons (pe_ix ix_tup (pv 16) pe_int (fun _ _ => rfl)) (pa_cons pe_int pa_nil)))) pa_nil)))))
  pss_never
  pss_nil))))))
  (pss_one (ps_ret pe_bl)))))))))))))))))))))))), ?_⟩
    walk_at "in"
    walk_at "go"
    refine ⟨a, b + 1900, 7, rfl, by omega, bx0.mono (by omega), fun l wd H1 hl lw ndw kw hl1 bx1 k1 => ?_⟩
    have nla : l ≠ a := (bx0.ne hl).symm
    walk_at "go"
    refine ⟨a, l, wd, 3, b + 1700, rfl, by decide, by decide, bx1.mono (by omega), hl1, nla, ndw, kw, by omega, fun R ts rows H2 hR hR2 hts dr bx2 k2 => ?_⟩
    have nRa : R ≠ a := (bx1.ne hR).symm
    walk_at "go"
    refine ⟨a, l, wd, 4, b + 1600, rfl, by decide, bx2.mono (by omega), k2 _ _ hl1 nla, nla, ndw, by omega, fun p us qs H3 hp hp3 hus ndq _ q4 lq bx3 k3 => ?_⟩
    walk_at "go"
    refine ⟨p, us, qs, rfl, SqT.of hp3, hus, by rw [Paired.len hus]; omega, fun dH mh H4 hdH hdH4 ndh gh kh _ s4 => ?_⟩
    have rin := dr.rin
    have rok := dr.ok ndw kw
    have es28 := dr.es
    have r64 := dr.sm (by decide)
    have of := dr.outF ndw
    have l28 := dr.ln
    have kmh : ∀ k ∈ keys mh, k ∈ wd := fun k hk => by
      obtain ⟨y, hy, rfl⟩ := List.mem_map.mp (kh k hk)
      exact (q4 y hy).2.2
    have g0 : ∀ k, 0 ≤ get mh k := fun k => by
      rw [gh]
      exact tot_nn (fun y hy => Int.le_of_lt (q4 y hy).1) k
    have lmh := keys_len ndh kmh
    have nnh := nn_of ndh g0
    have k24 : Kp a H2 H4 := fun c o e n => s4 _ _ (k3 _ _ e n)
    have bx4 := bx3.same s4
    have hR4 := k24 _ _ hR2 nRa
    have hts4 : Paired (RwV H4) ts rows := Paired.mapP hts fun _ _ z => z.kl (KL.bx k24 bx2)
    have k14 : Kp a H1 H4 := fun c o e n => k24 _ _ (k2 _ _ e n) n
    clear k3 k2 hp3 hus hR2 hts s4 bx3 bx2 k24
    walk_at "go"
    refine ⟨a, R, dH, 3, ts, rows, mh, b + 1500, rfl, by decide, by decide, hR4, hts4, hdH4, ndh, by omega, nnh, by omega, by omega, fun r hr => ⟨(rok r hr).nd, r64 r hr⟩, bx4.mono (by omega), nRa, fun Dn ds H5 hDn hDn5 lds fe dc bx5 k5 => ?_⟩
    have nDn : Dn ≠ a := (bx4.ne hDn).symm
    have d0 := fe.d0 lds
    have hdH5 := k5 _ _ hdH4 (fun z => by
      obtain ⟨_, _, _, hbb, _⟩ := bx4
      rw [z, hbb] at hdH4
      cases hdH4)
    have hR5 := k5 _ _ hR4 nRa
    have hts5 : Paired (RwV H5) ts rows := Paired.mapP hts4 fun _ _ z => z.kl (KL.bx k5 bx4)
    have k15 : Kp a H1 H5 := fun c o e n => k5 _ _ (k14 _ _ e n) n
    clear k5 k14 hR4 hts4 bx4 hdH4
    walk_at "go"
    refine ⟨dH, mh, rfl, hdH5, ndh, by omega, nnh, fun s1 ml H6 hs1 Ls gl s6 => ?_⟩
    have kml : ∀ k ∈ keys ml, k ∈ wd := kin_of Ls.lo.nd Ls.lo.ps fun k hk => by
      rw [gl]
      exact get_none fun z => hk (kmh k z)
    have gl' : get ml = get mh := funext gl
    have k16 : Kp a H1 H6 := fun c o e n => s6 _ _ (k15 _ _ e n)
    have hR6 := s6 _ _ hR5
    have hts6 := RwV.all hts5 s6
    have hDn6 := s6 _ _ hDn5
    have hdH6 := s6 _ _ hdH5
    have bx6 := bx5.same s6
    have Ls6 := Ls.lo
    obtain ⟨⟨dl, dxl, hs61, hs62⟩, ndl, mpl, mll⟩ := id Ls6
    clear hR5 hts5 hDn5 hdH5 bx5 Ls s6 k15
    walk_at "go"
    refine ⟨R, Dn, dH, ts, rows, ds, mh, wd, rfl, kmh, rin, hR6, hts6, hDn6, lds, hdH6, ndh, by omega, nnh, by omega, by omega, r64, fun dE me H7 hE hE7 nde ge _ ke s7 => ?_⟩
    have ge0 : ∀ k, 0 ≤ get me k := fun k => by
      rw [ge]
      exact fe.e0 g0 r64 k
    have lme := keys_len nde ke
    walk_at "go"
    refine ⟨dE, me, rfl, hE7, nde, by omega, fun DU us1 qs1 H8 hDU hDU8 hus1 cn1 s8 => ?_⟩
    walk_at "go"
    have s68 : Same H6 H8 := fun c o e => s8 _ _ (s7 _ _ e)
    refine ⟨R, Dn, ts, rows, ds, rfl, s68 _ _ hR6, RwV.all hts6 s68, s68 _ _ hDn6, lds, rok, es28, d0, fun o1 m1 H9 ho1 P1 ws1 mk1 s9 => ?_⟩
    obtain ⟨_, _, _, _, _, _, pk1⟩ := id P1
    have d64 : ∀ d ∈ ds, 0 ≤ d ∧ d ≤ 2 ^ 64 := fun d hd => ⟨d0 d hd, Int.le_trans (dc d hd) (by decide)⟩
    have aft1 : ∀ k, aft (get ml) m1 k = endG (get mh) (rows.zip ds) k := fun k => by rw [aft_end ws1, gl']
    have s69 : Same H6 H9 := fun c o e => s9 _ _ (s68 _ _ e)
    walk_at "go"
    refine ⟨o1, s1, m1, ml, wd, rfl, P1, Ls6.same s69, plan_small pk1 ws1 mk1 d64 l28 r64, by omega, rin_ns rin mk1, kml, .inl ⟨fun k => by rw [aft1, ← ge]; exact ge0 k, fun T1 us2 qs2 m2 H10 hT1 hT110 hus2 cn2 nd2 g2 _ s10 => ?_⟩⟩
    have e2 : qs2 = qs1 := cn_unique nd2 nde cn2 cn1 fun k _ => by rw [g2, aft1, ge]
    subst e2
    have fe' : Feas (get ml) (rows.zip ds) := by rw [gl']; exact fe
    have s610 : Same H6 H10 := fun c o e => s10 _ _ (s69 _ _ e)
    have s810 : Same H8 H10 := fun c o e => s10 _ _ (s9 _ _ e)
    have hDU10 := s810 _ _ hDU8
    have hus110 := PrA.all hus1 s810
    clear s69 s68 s9 s10 s8 s7 hDU8 hus1 P1
    walk_at "go"
    refine ⟨a, R, Dn, s1, ts, rows, ds, ml, wd, b + 1200, rfl, s610 _ _ hR6, RwV.all hts6 s610, s610 _ _ hDn6, lds, Ls6.same s610, rok, es28, r64, dc, by omega, rin, of, kml, fe', (bx6.same s610).mono (by omega), nRa, nDn, fun T2 us3 qs3 m3 H11 hT2 hT211 hus3 cn3 nd3 g3 _ bx11 k11 => ?_⟩
    have e3 : qs3 = qs2 := cn_unique nd3 nde cn3 cn1 fun k _ => by rw [g3, ge, gl']
    subst e3
    have bx10 := bx6.same s610
    have kl11 : KL H10 H11 := KL.bx k11 bx10
    have hR11 := k11 _ _ (s610 _ _ hR6) nRa
    have hts11 : Paired (RwV H11) ts rows := Paired.mapP (RwV.all hts6 s610) fun _ _ z => z.kl kl11
    have hDn11 := k11 _ _ (s610 _ _ hDn6) nDn
    have Ls11 := (Ls6.same s610).klx kl11
    have hs11 := kl11 _ _ (s610 _ _ hs61) (fun _ z => nomatch z)
    have hdH11 := kl11 _ _ (s610 _ _ hdH6) (fun _ z => nomatch z)
    have hDU11 := kl11 _ _ hDU10 (fun _ z => nomatch z)
    have hus111 : Paired (PrA H11) us1 qs3 := Paired.mapP hus110 fun _ _ z => z.kl kl11
    have hT111 := kl11 _ _ hT110 (fun _ z => nomatch z)
    have hus211 : Paired (PrA H11) us2 qs3 := Paired.mapP hus2 fun _ _ z => z.kl kl11
    have k111 : Kp a H1 H11 := fun c o e n => k11 _ _ (s610 _ _ (k16 _ _ e n)) n
    clear hR6 hts6 hDn6 Ls6 hs61 hdH6 hDU10 hus110 hT110 hus2 k11 s610 kl11 bx6 bx10 k16
    walk_at "go"
    rename_i G hG
    have nGa : G ≠ a := (bx11.ne hG).symm
    have s12 : Same H11 (upd H11 G (.lst [V.ref T1, V.ref T2])) := fun c o e => upd_at e (ne_of_none e hG)
    have hG12 : upd H11 G (.lst [V.ref T1, V.ref T2]) G = some (.lst [V.ref T1, V.ref T2]) := upd_same
    generalize upd H11 G (.lst [V.ref T1, V.ref T2]) = H12 at s12 hG12 ⊢
    clear hG
    have bx12 := bx11.same s12
    refine ⟨a, R, Dn, s1, ts, rows, ds, ml, wd, b + 1000, rfl, s12 _ _ hR11, RwV.all hts11 s12, s12 _ _ hDn11, lds, Ls11.same s12, rok, es28, r64, dc, by omega, rin, of, kml, fe', bx12, nRa, nDn, fun T3 us4 qs4 m4 H13 hT3 hT313 hus4 cn4 nd4 g4 _ bx13 k13 => ?_⟩
    have e4 : qs4 = qs3 := cn_unique nd4 nde cn4 cn1 fun k _ => by rw [g4, ge, gl']
    subst e4
    have kl13 : KL H12 H13 := KL.bx k13 bx12
    have hR13 := k13 _ _ (s12 _ _ hR11) nRa
    have Ls13 := (Ls11.same s12).klx kl13
    have hs13 := kl13 _ _ (s12 _ _ hs11) (fun _ z => nomatch z)
    have hdH13 := kl13 _ _ (s12 _ _ hdH11) (fun _ z => nomatch z)
    have hDU13 := kl13 _ _ (s12 _ _ hDU11) (fun _ z => nomatch z)
    have hus113 : Paired (PrA H13) us1 qs4 := Paired.mapP (PrA.all hus111 s12) fun _ _ z => z.kl kl13
    have hT113 := kl13 _ _ (s12 _ _ hT111) (fun _ z => nomatch z)
    have hus213 : Paired (PrA H13) us2 qs4 := Paired.mapP (PrA.all hus211 s12) fun _ _ z => z.kl kl13
    have hT213 := kl13 _ _ (s12 _ _ hT211) (fun _ z => nomatch z)
    have hus313 : Paired (PrA H13) us3 qs4 := Paired.mapP (PrA.all hus3 s12) fun _ _ z => z.kl kl13
    have hG13 := k13 _ _ hG12 nGa
    have k113 : Kp a H1 H13 := fun c o e n => k13 _ _ (s12 _ _ (k111 _ _ e n)) n
    clear hR11 hts11 hDn11 Ls11 hs11 hdH11 hDU11 hus111 hT111 hus211 hT211 hus3 hG12 s12 k13 kl13 bx11 bx12 k111
    walk_at "go"
    refine r_meth0 ?_
    walk_at "go"
    refine ⟨s1, dxl, _, rfl, hs13, look1, s1, ml, rfl, Ls13, fun T4 us5 qs5 H14 hT4 hT414 hus5 cn5 s14 => ?_⟩
    walk_at "go"
    rename_i G2 hG2
    have s15 : Same H14 (upd H14 G2 (.lst [V.ref T3, V.ref T4])) := fun c o e => upd_at e (ne_of_none e hG2)
    have hG215 : upd H14 G2 (.lst [V.ref T3, V.ref T4]) G2 = some (.lst [V.ref T3, V.ref T4]) := upd_same
    generalize upd H14 G2 (.lst [V.ref T3, V.ref T4]) = H15 at s15 hG215 ⊢
    clear hG2
    refine r_cat (s15 _ _ (s14 _ _ hG13)) hG215 (szl (by simp)) fun G3 hG3 => ?_
    have s16 : Same H15 (upd H15 G3 (.lst ([V.ref T1, V.ref T2] ++ [V.ref T3, V.ref T4]))) := fun c o e => upd_at e (ne_of_none e hG3)
    have hG316 : upd H15 G3 (.lst ([V.ref T1, V.ref T2] ++ [V.ref T3, V.ref T4])) G3 = some (.lst [V.ref T1, V.ref T2, V.ref T3, V.ref T4]) := upd_same
    generalize upd H15 G3 (.lst ([V.ref T1, V.ref T2] ++ [V.ref T3, V.ref T4])) = H16 at s16 hG316 ⊢
    clear hG3
    have s136 : Same H13 H16 := fun c o e => s16 _ _ (s15 _ _ (s14 _ _ e))
    have s146 : Same H14 H16 := fun c o e => s16 _ _ (s15 _ _ e)
    have bx16 := bx13.same s136
    have hdH16 := s136 _ _ hdH13
    have hDU16 := s136 _ _ hDU13
    have hus116 := PrA.all hus113 s136
    have hT116 := s136 _ _ hT113
    have hus216 := PrA.all hus213 s136
    have hT216 := s136 _ _ hT213
    have hus316 := PrA.all hus313 s136
    have hT316 := s136 _ _ hT313
    have hus416 := PrA.all hus4 s136
    have hT416 := s146 _ _ hT414
    have hus516 := PrA.all hus5 s146
    have k116 : Kp a H1 H16 := fun c o e n => s136 _ _ (k113 _ _ e n)
    clear s136 s146 s16 s15 s14 hG13 hG215 hdH13 hDU13 hus113 hT113 hus213 hT213 hus313 hT313 hus4 hT414 hus5 bx13 k113 hR13 Ls13 hs13 hT4
    walk_at "go"
    refine ⟨fun σ' H' => ∃ x2 x3 x4 x5 x6 x7 x8 x9 x10 x11 x12 x13 x14 x15 x16 x17 x18 : Option V, σ' = [some (.ref a), some (.ref l), x2, x3, x4, x5, x6, x7, x8, x9, x10, x11, x12, x13, x14, x15, x16, x17, x18] ∧ Bx H' a (b + 1000) ∧ Kp a H1 H', ?_, ?_⟩
    · walk_at "go"
      refine ⟨dH, mh, rfl, hdH16, ndh, by omega, fun PH us6 qs6 H17 hPH hPH17 hus6 cn6 s17 => ?_⟩
      walk_at "go"
      rename_i W hW
      have s18 : Same H17 (upd H17 W (.lst [V.ref DU, V.ref DU, V.ref DU, V.ref PH])) := fun c o e => upd_at e (ne_of_none e hW)
      have hW18 : upd H17 W (.lst [V.ref DU, V.ref DU, V.ref DU, V.ref PH]) W = some (.lst [V.ref DU, V.ref DU, V.ref DU, V.ref PH]) := upd_same
      generalize upd H17 W (.lst [V.ref DU, V.ref DU, V.ref DU, V.ref PH]) = H18 at s18 hW18 ⊢
      have e6 : qs5 = qs6 := cn_unique ndl ndh cn5 cn6 fun k _ => gl k
      subst e6
      have s168 : Same H16 H18 := fun c o e => s18 _ _ (s17 _ _ e)
      have l5 := cn5.len mpl
      have l4 : qs4.length ≤ 1000 := by rw [cn1.1.length_eq]; exact Nat.le_trans (List.length_filter_le _ _) (by omega)
      have SD := fun (t : Addr) (us : List V) (ht : H16 t = some (.tup us)) (hu' : Paired (PrA H16) us qs4) => (sm_prs (K := K) (n := 0) (s168 _ _ ht) (s168 _ _ hDU16) (PrA.all hu' s168) (PrA.all hus116 s168) l4)
      refine ⟨_, _, rfl, sm_lst (s168 _ _ hG316) hW18 rfl (by simp) (at4 (SD _ _ hT116 hus216) (SD _ _ hT216 hus316) (SD _ _ hT316 hus416) (sm_prs (s168 _ _ hT416) (s18 _ _ hPH17) (PrA.all hus516 s168) (PrA.all hus6 s18) (by omega))), fun H19 s19 => ?_⟩
      refine ⟨true, rfl, iteF ?_⟩
      have s1619 : Same H16 H19 := fun c o e => s19 _ _ (s168 _ _ e)
      walk_at "go"
      refine ⟨l, wd, rfl, s1619 _ _ (k116 _ _ hl1 nla), ndw, kw, by omega, by omega, fun H20 s20 => ⟨true, rfl, ?_⟩⟩
      refine iteF ?_
      walk_at "go"
      exact ⟨_, _, _, _, _, _, _, _, _, _, _, _, _, _, _, _, _, rfl, bx16.same fun c o e => s20 _ _ (s1619 _ _ e), fun c o e n => s20 _ _ (s1619 _ _ (k116 _ _ e n))⟩
    · clear hG316 bx16 hdH16 hDU16 hus116 hT116 hus216 hT216 hus316 hT316 hus416 hT416 hus516 k116 cn5 cn4 nd4 g4 cn2 nd2 g2 fe' ge lme ke ge0 nde cn1 aft1 pk1 ws1 mk1 hs62 mpl mll ndl kml gl gl' lmh nnh g0 kmh es28 rok rin r64 of l28 dr gh kh ndh fe dc d0 d64 lds nd3 g3 cn3 q4 lq ndq
      rintro σ H2 ⟨x2, x3, x4, x5, x6, x7, x8, x9, x10, x11, x12, x13, x14, x15, x16, x17, x18, rfl, bx2, k2⟩
      walk_at "go"
      rename_i M_ hM
      have ten : (10 : Int) ^ Int.toNat 9 = 1000000000 := by decide
      rw [ten]
      have s3 : Same H2 (upd H2 M_ (.lst [V.int 3, V.int 1000, V.int 1000000000])) := fun c o e => upd_at e (ne_of_none e hM)
      have hM3 : upd H2 M_ (.lst [V.int 3, V.int 1000, V.int 1000000000]) M_ = some (.lst [V.int 3, V.int 1000, V.int 1000000000]) := upd_same
      generalize upd H2 M_ (.lst [V.int 3, V.int 1000, V.int 1000000000]) = H3 at s3 hM3 ⊢
      have nMa : M_ ≠ a := (bx2.ne hM).symm
      refine ⟨a, M_, b + 999, _, rfl, bx2.same s3, hM3, nMa, by show 0 < 3; omega, by show 3 ≤ 1000; omega, fun x j H4 hxj bx4 k4 => ?_⟩
      obtain ⟨far, rfl, f0, f1⟩ : ∃ v : Int, x = .int v ∧ 0 < v ∧ v ≤ 1000000000 := by
        match j, hxj with
        | 0, h => cases h; exact ⟨3, rfl, by omega, by omega⟩
        | 1, h => cases h; exact ⟨1000, rfl, by omega, by omega⟩
        | 2, h => cases h; exact ⟨1000000000, rfl, by omega, by omega⟩
      have k24 : Kp a H2 H4 := fun c o e n => k4 _ _ (s3 _ _ e) n
      have k14 : Kp a H1 H4 := fun c o e n => k24 _ _ (k2 _ _ e n) n
      clear s3 hM3 k4 hxj bx2 k2 hM k24 nMa
      walk_at "go"
      refine ⟨a, l, wd, far, b + 898, rfl, f0, by omega, bx4.mono (by omega), k14 _ _ hl1 nla, nla, ndw, kw, by omega, fun R ts rows H5 hR hR5 hts dr bx5 k5 => ?_⟩
      have nRa : R ≠ a := (bx4.ne hR).symm
      walk_at "go"
      have el : (10 : Int) ^ Int.toNat 11 = 100000000000 := by decide
      rw [el]
      refine ⟨a, l, wd, 100000000000, b + 800, rfl, by decide, bx5.mono (by omega), k5 _ _ (k14 _ _ hl1 nla) nla, nla, ndw, by omega, fun p us qs H6 hp hp6 hus ndq _ q4 lq bx6 k6 => ?_⟩
      walk_at "go"
      refine ⟨p, us, qs, rfl, SqT.of hp6, hus, by rw [Paired.len hus]; omega, fun dH mh H7 hdH hdH7 ndh gh kh _ s7 => ?_⟩
      have rin := dr.rin
      have rok := dr.ok ndw kw
      have es28 := dr.es
      have r64 := dr.sm (by omega)
      have l28 := dr.ln
      have kmh : ∀ k ∈ keys mh, k ∈ wd := fun k hk => by
        obtain ⟨y, hy, rfl⟩ := List.mem_map.mp (kh k hk)
        exact (q4 y hy).2.2
      have g0 : ∀ k, 0 ≤ get mh k := fun k => by
        rw [gh]
        exact tot_nn (fun y hy => Int.le_of_lt (q4 y hy).1) k
      have g1 : ∀ k, get mh k ≤ 100000000000 := fun k => by
        rw [gh, tot_nodup k ndq]
        have := get_lt (m := qs) (B := 100000000001) (by decide) (fun y hy => by have := (q4 y hy).2.1; omega) ndq k
        omega
      have lmh := keys_len ndh kmh
      have nnh := nn_of ndh g0
      have k57 : Kp a H5 H7 := fun c o e n => s7 _ _ (k6 _ _ e n)
      have bx7 := bx6.same s7
      have hR7 := k57 _ _ hR5 nRa
      have hts7 : Paired (RwV H7) ts rows := Paired.mapP hts fun _ _ z => z.kl (KL.bx k57 bx5)
      have k17 : Kp a H1 H7 := fun c o e n => k57 _ _ (k5 _ _ (k14 _ _ e n) n) n
      clear k5 k6 hp6 hus hR5 hts s7 bx4 bx5 bx6 k57 k14 gh kh q4 lq ndq hR hp
      have c0 : 0 ≤ 100000000000 / far := Int.ediv_nonneg (by omega) (by omega)
      have c1 : 100000000000 / far ≤ 100000000000 := Int.ediv_le_self _ (by omega)
      walk_at "go"
      rw [el]
      walk_at "go"
      refine ⟨a, R, dH, 100000000000 / far, ts, rows, mh, b + 700, rfl, c0, by omega, hR7, hts7, hdH7, ndh, by omega, nnh, by omega, by omega, fun r hr => ⟨(rok r hr).nd, r64 r hr⟩, bx7.mono (by omega), nRa, fun Dn ds H8 hDn hDn8 lds fe dc bx8 k8 => ?_⟩
      have nDn : Dn ≠ a := (bx7.ne hDn).symm
      have d0 := fe.d0 lds
      have d64 : ∀ d ∈ ds, 0 ≤ d ∧ d ≤ 2 ^ 64 := fun d hd => ⟨d0 d hd, by have := dc d hd; omega⟩
      have kl8 := KL.bx k8 bx7
      have hdH8 := kl8 _ _ hdH7 (fun _ z => nomatch z)
      have hR8 := k8 _ _ hR7 nRa
      have hts8 : Paired (RwV H8) ts rows := Paired.mapP hts7 fun _ _ z => z.kl kl8
      have k18 : Kp a H1 H8 := fun c o e n => k8 _ _ (k17 _ _ e n) n
      clear k8 k17 hR7 hts7 bx7 hdH7 kl8 hDn
      walk_at "go"
      refine ⟨dH, mh, rfl, hdH8, ndh, by omega, nnh, fun s1 ml H9 hs1 Ls gl s9 => ?_⟩
      have kml : ∀ k ∈ keys ml, k ∈ wd := kin_of Ls.lo.nd Ls.lo.ps fun k hk => by
        rw [gl]
        exact get_none fun z => hk (kmh k z)
      have gl' : get ml = get mh := funext gl
      have Ls9 := Ls.lo
      clear Ls
      walk_at "go"
      refine ⟨R, Dn, dH, ts, rows, ds, mh, wd, rfl, kmh, rin, s9 _ _ hR8, RwV.all hts8 s9, s9 _ _ hDn8, lds, s9 _ _ hdH8, ndh, by omega, nnh, by omega, by omega, r64, fun dE me H10 hE hE10 nde ge _ ke s10 => ?_⟩
      have ge0 : ∀ k, 0 ≤ get me k := fun k => by
        rw [ge]
        exact fe.e0 g0 r64 k
      have ge1 : ∀ k, get me k ≤ 2 ^ 140 := fun k => by
        rw [ge]
        exact end_lt (by have := g1 k; omega) d64 r64 rok l28
      have lme := keys_len nde ke
      have nne := nn_of nde ge0
      have s810 : Same H8 H10 := fun c o e => s10 _ _ (s9 _ _ e)
      have hR10 := s810 _ _ hR8
      have hts10 := RwV.all hts8 s810
      have hDn10 := s810 _ _ hDn8
      have hdH10 := s810 _ _ hdH8
      have Ls10 := Ls9.same s10
      have bx10 := bx8.same s810
      have k110 : Kp a H1 H10 := fun c o e n => s810 _ _ (k18 _ _ e n)
      clear hR8 hts8 hDn8 hdH8 Ls9 bx8 k18 s810 s9 s10 hE hs1 hdH
      walk_at "go"
      refine ⟨fun σ' H' => ∃ (x4 x5 x9 x12 x13 x14 x15 x16 x17 x18 : Option V) (Mo : Addr) (es : List Int), σ' = [some (.ref a), some (.ref l), some (.ref R), some (.ref dH), x4, x5, some (.int far), some (.ref dE), some (.ref Mo), x9, some (.ref Dn), some (.ref s1), x12, x13, x14, x15, x16, x17, x18] ∧ H' Mo = some (.lst (es.map V.int)) ∧ Mo ≠ a ∧ es.length = rows.length ∧ Feas (get me) (rows.zip es) ∧ (∀ d ∈ es, d ≤ 100000000000) ∧ Bx H' a (b + 600) ∧ Kp a H10 H', ?_, ?_⟩
      · walk_at "go"
        rw [el]
        walk_at "go"
        refine ⟨a, R, dE, 100000000000 / far, ts, rows, me, b + 600, rfl, c0, by omega, hR10, hts10, hE10, nde, by omega, nne, by omega, by omega, fun r hr => ⟨(rok r hr).nd, r64 r hr⟩, bx10.mono (by omega), nRa, fun Mo es H11 hMo hMo11 les fe2 ec bx11 k11 => ?_⟩
        walk_at "go"
        exact ⟨_, _, _, _, _, _, _, _, _, _, Mo, es, rfl, hMo11, (bx10.ne hMo).symm, les, fe2, fun d hd => Int.le_trans (ec d hd) c1, bx11, k11⟩
      · rintro σ H11 ⟨x4, x5, x9, x12, x13, x14, x15, x16, x17, x18, Mo, es, rfl, hMo, nMo, les, fe2, ec, bx11, k11⟩
        have kl11 := KL.bx k11 bx10
        have hR11 := k11 _ _ hR10 nRa
        have hts11 : Paired (RwV H11) ts rows := Paired.mapP hts10 fun _ _ z => z.kl kl11
        have hDn11 := k11 _ _ hDn10 nDn
        have hdH11 := kl11 _ _ hdH10 (fun _ z => nomatch z)
        have hE11 := kl11 _ _ hE10 (fun _ z => nomatch z)
        have Ls11 := Ls10.klx kl11
        have k111 : Kp a H1 H11 := fun c o e n => k11 _ _ (k110 _ _ e n) n
        have e0 := fe2.d0 les
        have e64 : ∀ d ∈ es, 0 ≤ d ∧ d ≤ 2 ^ 64 := fun d hd => ⟨e0 d hd, by have := ec d hd; omega⟩
        clear hR10 hts10 hDn10 hdH10 hE10 Ls10 k11 k110 bx10 kl11
        walk_at "go"
        refine ⟨R, Dn, ts, rows, ds, rfl, hR11, hts11, hDn11, lds, rok, es28, d0, fun o1 m1 H12 ho1 P1 ws1 mk1 s12 => ?_⟩
        walk_at "go"
        refine ⟨R, Mo, ts, rows, es, rfl, s12 _ _ hR11, RwV.all hts11 s12, s12 _ _ hMo, les, rok, es28, e0, fun o2 m2 H13 ho2 P2 ws2 mk2 s13 => ?_⟩
        have s1113 : Same H11 H13 := fun c o e => s13 _ _ (s12 _ _ e)
        have bx13 := bx11.same s1113
        walk_at "go"
        refine ⟨a, b + 599, 4, rfl, bx13, by decide, by decide, fun by_ H14 y0 y1 bx14 k14 => ?_⟩
        have kl14 := KL.bx k14 bx13
        have hR14 := k14 _ _ (s1113 _ _ hR11) nRa
        have hts14 : Paired (RwV H14) ts rows := Paired.mapP (RwV.all hts11 s1113) fun _ _ z => z.kl kl14
        have hDn14 := k14 _ _ (s1113 _ _ hDn11) nDn
        have hMo14 := k14 _ _ (s1113 _ _ hMo) nMo
        have hdH14 := kl14 _ _ (s1113 _ _ hdH11) (fun _ z => nomatch z)
        have hE14 := kl14 _ _ (s1113 _ _ hE11) (fun _ z => nomatch z)
        have Ls14 := (Ls11.same s1113).klx kl14
        have P114 := (P1.same s13).kl kl14
        have P214 := P2.kl kl14
        obtain ⟨_, _, _, _, _, _, pk1⟩ := id P1
        obtain ⟨_, _, _, _, _, _, pk2⟩ := id P2
        have sm1 := plan_small pk1 ws1 mk1 d64 l28 r64
        have sm2 := plan_small pk2 ws2 mk2 e64 l28 r64
        have aft1 : ∀ k, aft (get ml) m1 k = get me k := fun k => by rw [aft_end ws1, gl', ge]
        have k114 : Kp a H1 H14 := fun c o e n => k14 _ _ (s1113 _ _ (k111 _ _ e n)) n
        clear hR11 hts11 hDn11 hMo hdH11 hE11 Ls11 P1 P2 k14 k111 bx11 bx13 kl14 s12 s13 s1113 ho1 ho2
        walk_at "go"
        refine ⟨dE, me, rfl, hE14, nde, by omega, fun D1 us1 qs1 H15 hD1 hD115 hus1 cn1 s15 => ?_⟩
        walk_at "go"
        refine ⟨R, Mo, dE, ts, rows, es, me, wd, rfl, ke, rin, s15 _ _ hR14, RwV.all hts14 s15, s15 _ _ hMo14, les, s15 _ _ hE14, nde, by omega, nne, by omega, by omega, r64, fun dF mf H16 hF hF16 ndf gf _ kf s16 => ?_⟩
        have gf0 : ∀ k, 0 ≤ get mf k := fun k => by
          rw [gf]
          exact fe2.e0 ge0 r64 k
        have lmf := keys_len ndf kf
        walk_at "go"
        refine ⟨dF, mf, rfl, hF16, ndf, by omega, fun D2 us2 qs2 H17 hD2 hD217 hus2 cn2 s17 => ?_⟩
        walk_at "go"
        rename_i DU hDU
        have s18 : Same H17 (upd H17 DU (.lst [V.ref D1, V.ref D2])) := fun c o e => upd_at e (ne_of_none e hDU)
        have hDU18 : upd H17 DU (.lst [V.ref D1, V.ref D2]) DU = some (.lst [V.ref D1, V.ref D2]) := upd_same
        generalize upd H17 DU (.lst [V.ref D1, V.ref D2]) = H18 at s18 hDU18 ⊢
        have s1518 : Same H15 H18 := fun c o e => s18 _ _ (s17 _ _ (s16 _ _ e))
        have s1418 : Same H14 H18 := fun c o e => s1518 _ _ (s15 _ _ e)
        have hD118 := s1518 _ _ hD115
        have hus118 := PrA.all hus1 s1518
        have hD218 := s18 _ _ hD217
        have hus218 := PrA.all hus2 s18
        have hE18 := s1418 _ _ hE14
        have bx18 := bx14.same s1418
        clear hD115 hus1 hD217 hus2 s1518 s15 s16 s17 s18 hF16 hDU hD1 hD2 hF
        refine ⟨o1, s1, m1, ml, wd, rfl, P114.same s1418, Ls14.same s1418, sm1, by omega, rin_ns rin mk1, kml, .inl ⟨fun k => by rw [aft1]; exact ge0 k, fun T1 us3 qs3 m3 H19 hT1 hT119 hus3 cn3 nd3 g3 _ s19 => ?_⟩⟩
        walk_at "go"
        refine ⟨dE, me, rfl, s19 _ _ hE18, nde, by omega, nne, fun s2 ml2 H20 hs2 Ls2 gl2 s20 => ?_⟩
        have kml2 : ∀ k ∈ keys ml2, k ∈ wd := kin_of Ls2.lo.nd Ls2.lo.ps fun k hk => by
          rw [gl2]
          exact get_none fun z => hk (ke k z)
        have aft2 : ∀ k, aft (get ml2) m2 k = get mf k := fun k => by rw [aft_end ws2, funext gl2, gf]
        have s1820 : Same H18 H20 := fun c o e => s20 _ _ (s19 _ _ e)
        have s1420 : Same H14 H20 := fun c o e => s1820 _ _ (s1418 _ _ e)
        walk_at "go"
        refine ⟨o2, s2, m2, ml2, wd, rfl, P214.same s1420, Ls2.lo, sm2, by omega, rin_ns rin mk2, kml2, .inl ⟨fun k => by rw [aft2]; exact gf0 k, fun T2 us4 qs4 m4 H21 hT2 hT221 hus4 cn4 nd4 g4 _ s21 => ?_⟩⟩
        have s1821 : Same H18 H21 := fun c o e => s21 _ _ (s1820 _ _ e)
        have s1421 : Same H14 H21 := fun c o e => s21 _ _ (s1420 _ _ e)
        have s1921 : Same H19 H21 := fun c o e => s21 _ _ (s20 _ _ e)
        walk_at "go"
        obtain ⟨dx1, dd1, L1, h11, h12, h13, h14⟩ := id (P114.same s1421)
        obtain ⟨dx2, dd2, L2_, h21, h22, h23, h24⟩ := id (P214.same s1421)
        refine r_opS ?_
        walk_at "go"
        refine ⟨o1, o2, dx1, dx2, _, _, rfl, rfl, h11, h21, o1, o2, m1, m2, rows, rfl, P114.same s1421, P214.same s1421, es28, mk1, mk2, fun o3 m5 H22 ho3 P3 ws3 mk3 s22 => ?_⟩
        have pk3 : PlOk m5 := by obtain ⟨_, _, _, _, _, _, z⟩ := id P3; exact z
        have ws3' : ∀ f, wsum m5 f = wsum (rows.zip ds ++ rows.zip es) f := fun f => by rw [ws3, ws1, ws2, wsum_app]
        have sm3 : SmallP m5 := small_of pk3 ws3' (fun y hy => by
          rcases List.mem_append.mp hy with z | z
          · exact ⟨d0 _ (List.of_mem_zip z).2, Int.le_trans (d64 _ (List.of_mem_zip z).2).2 (by decide)⟩
          · exact ⟨e0 _ (List.of_mem_zip z).2, Int.le_trans (e64 _ (List.of_mem_zip z).2).2 (by decide)⟩) (by rw [List.length_append, List.length_zip, List.length_zip]; omega) fun r hr => r64 r (mk3 r hr)
        have aft3 : ∀ k, aft (get ml) m5 k = get mf k := fun k => by rw [aft_end ws3', endG_app, gl', gf, funext ge]
        walk_at "go"
        refine ⟨o3, s1, m5, ml, wd, rfl, P3, (Ls14.same s1421).same s22, sm3, by omega, rin_ns rin mk3, kml, .inl ⟨fun k => by rw [aft3]; exact gf0 k, fun T3 us5 qs5 m6 H23 hT3 hT323 hus5 cn5 nd5 g5 _ s23 => ?_⟩⟩
        have s2123 : Same H21 H23 := fun c o e => s23 _ _ (s22 _ _ e)
        have e3 : qs3 = qs1 := cn_unique nd3 nde cn3 cn1 fun k _ => by rw [g3, aft1]
        have e4 : qs4 = qs2 := cn_unique nd4 ndf cn4 cn2 fun k _ => by rw [g4, aft2]
        have e5 : qs5 = qs2 := cn_unique nd5 ndf cn5 cn2 fun k _ => by rw [g5, aft3]
        subst e3 e4 e5
        walk_at "go"
        rename_i G hG
        have s24 : Same H23 (upd H23 G (.lst [V.ref T1, V.ref T2, V.ref T3])) := fun c o e => upd_at e (ne_of_none e hG)
        have hG24 : upd H23 G (.lst [V.ref T1, V.ref T2, V.ref T3]) G = some (.lst [V.ref T1, V.ref T2, V.ref T3]) := upd_same
        generalize upd H23 G (.lst [V.ref T1, V.ref T2, V.ref T3]) = H24 at s24 hG24 ⊢
        have s2124 : Same H21 H24 := fun c o e => s24 _ _ (s2123 _ _ e)
        have s1424 : Same H14 H24 := fun c o e => s2124 _ _ (s1421 _ _ e)
        have s1824 : Same H18 H24 := fun c o e => s2124 _ _ (s1821 _ _ e)
        have s1924 : Same H19 H24 := fun c o e => s2124 _ _ (s1921 _ _ e)
        have hR24 := s1424 _ _ hR14
        have hts24 := RwV.all hts14 s1424
        have hDn24 := s1424 _ _ hDn14
        have hdH24 := s1424 _ _ hdH14
        have hE24 := s1424 _ _ hE14
        have Ls24 := Ls14.same s1424
        have P124 := P114.same s1424
        have hDU24 := s1824 _ _ hDU18
        have hD124 := s1824 _ _ hD118
        have hus124 := PrA.all hus118 s1824
        have hD224 := s1824 _ _ hD218
        have hus224 := PrA.all hus218 s1824
        have hT124 := s1924 _ _ hT119
        have hus324 := PrA.all hus3 s1924
        have hT224 := s2124 _ _ hT221
        have hus424 := PrA.all hus4 s2124
        have hT324 := s24 _ _ hT323
        have hus524 := PrA.all hus5 s24
        have l1 : qs3.length ≤ 1000 := by rw [cn1.1.length_eq]; exact Nat.le_trans (List.length_filter_le _ _) (by omega)
        have l2 : qs5.length ≤ 1000 := by rw [cn2.1.length_eq]; exact Nat.le_trans (List.length_filter_le _ _) (by omega)
        have fin : ∀ H', Same H24 H' → Q (.bl true) H' := fun H' s' => q H' (((bx14.same s1424).same s').mono (by omega)) fun c o e n => s' _ _ (s1424 _ _ (k114 _ _ (k1 _ _ e n) n))
        clear hR14 hts14 hDn14 hMo14 hdH14 hE14 Ls14 P114 P214 hDU18 hD118 hus118 hD218 hus218 hT119 hus3 hT221 hus4 hT323 hus5 bx14 k114 q s24 s2123 s2124 s1424 s1824 s1924 s1921 s1421 s1821 s1820 s1420 s1418 s19 s20 s21 s22 s23 hG h11 h12 h13 h14 h21 h22 h23 h24 P3 ws3 ws3' sm3 aft3 pk3 mk3 Ls2 kml2 aft2 hE18 bx18 cn3 cn4 nd3 nd4 g3 g4 g5 nd5 cn5 hT1 hT2 hT3 hs2 ho3
        refine ⟨fun σ' H' => σ' = [some (.ref a), some (.ref l), some (.ref R), some (.ref dH), some (.ref DU), some (.ref G), some (.int far), some (.ref dE), some (.ref Mo), x9, some (.ref Dn), some (.ref s1), some (.ref o1), some (.ref o2), some (.int by_), x15, x16, x17, x18] ∧ Same H24 H', ?_, ?_⟩
        · walk_at "go"
          rename_i W hW
          have s1 : Same H24 (upd H24 W (.lst [V.ref D2])) := fun c o e => upd_at e (ne_of_none e hW)
          refine r_cat (s1 _ _ hDU24) upd_same (szl (by simp)) fun W2 hW2 => ?_
          generalize upd H24 W (.lst [V.ref D2]) = H25 at s1 hW2 ⊢
          have s2 : Same H25 (upd H25 W2 (.lst ([V.ref D1, V.ref D2] ++ [V.ref D2]))) := fun c o e => upd_at e (ne_of_none e hW2)
          have hW26 : upd H25 W2 (.lst ([V.ref D1, V.ref D2] ++ [V.ref D2])) W2 = some (.lst [V.ref D1, V.ref D2, V.ref D2]) := upd_same
          generalize upd H25 W2 (.lst ([V.ref D1, V.ref D2] ++ [V.ref D2])) = H26 at s2 hW26 ⊢
          have ss : Same H24 H26 := fun c o e => s2 _ _ (s1 _ _ e)
          walk_at "go"
          refine ⟨_, _, rfl, sm_lst (ss _ _ hG24) hW26 rfl (by simp) (at3 (sm_prs (ss _ _ hT124) (ss _ _ hD124) (PrA.all hus324 ss) (PrA.all hus124 ss) l1) (sm_prs (ss _ _ hT224) (ss _ _ hD224) (PrA.all hus424 ss) (PrA.all hus224 ss) l2) (sm_prs (ss _ _ hT324) (ss _ _ hD224) (PrA.all hus524 ss) (PrA.all hus224 ss) l2)), fun H27 s27 => ⟨true, rfl, iteF ?_⟩⟩
          walk_at "go"
          exact ⟨rfl, fun c o e => s27 _ _ (ss _ _ e)⟩
        rintro _ H25 ⟨rfl, s25⟩
        walk_at "go"
        refine ⟨fun σ' H' => σ' = [some (.ref a), some (.ref l), some (.ref R), some (.ref dH), some (.ref DU), some (.ref G), some (.int far), some (.ref dE), some (.ref Mo), x9, some (.ref Dn), some (.ref s1), some (.ref o1), some (.ref o2), some (.int by_), x15, x16, x17, x18] ∧ Same H24 H', ?_, ?_⟩
        · walk_at "go"
          refine ⟨R, Dn, s1, ts, rows, ds, ml, wd, rfl, s25 _ _ hR24, RwV.all hts24 s25, s25 _ _ hDn24, lds, Ls24.same s25, rok, es28, r64, fun d hd => Int.le_trans (d64 d hd).2 (by decide), by omega, rin, kml, by rw [gl']; exact fe, fun T4 us6 qs6 m7 H26 hT4 hT426 hus6 cn6 nd6 g6 _ s26 => ?_⟩
          have s2426 : Same H24 H26 := fun c o e => s26 _ _ (s25 _ _ e)
          obtain ⟨⟨dl, dxl, hs1, hs2⟩, ndl, mpl, mll⟩ := id (Ls24.same s2426)
          walk_at "go"
          refine r_meth0 ?_
          walk_at "go"
          refine ⟨s1, dxl, _, rfl, hs1, look1, s1, ml, rfl, Ls24.same s2426, fun T5 us7 qs7 H27 hT5 hT527 hus7 cn7 s27 => ?_⟩
          walk_at "go"
          rename_i W hW
          have s28 : Same H27 (upd H27 W (.lst [V.ref T4, V.ref T5])) := fun c o e => upd_at e (ne_of_none e hW)
          have hW28 : upd H27 W (.lst [V.ref T4, V.ref T5]) W = some (.lst [V.ref T4, V.ref T5]) := upd_same
          generalize upd H27 W (.lst [V.ref T4, V.ref T5]) = H28 at s28 hW28 ⊢
          have s2428 : Same H24 H28 := fun c o e => s28 _ _ (s27 _ _ (s2426 _ _ e))
          walk_at "go"
          refine ⟨dH, mh, rfl, s2428 _ _ hdH24, ndh, by omega, fun PH us8 qs8 H29 hPH hPH29 hus8 cn8 s29 => ?_⟩
          walk_at "go"
          rename_i W2 hW2
          have s30 : Same H29 (upd H29 W2 (.lst [V.ref D1, V.ref PH])) := fun c o e => upd_at e (ne_of_none e hW2)
          have hW30 : upd H29 W2 (.lst [V.ref D1, V.ref PH]) W2 = some (.lst [V.ref D1, V.ref PH]) := upd_same
          generalize upd H29 W2 (.lst [V.ref D1, V.ref PH]) = H30 at s30 hW30 ⊢
          have s2830 : Same H28 H30 := fun c o e => s30 _ _ (s29 _ _ e)
          have s2730 : Same H27 H30 := fun c o e => s2830 _ _ (s28 _ _ e)
          have s2630 : Same H26 H30 := fun c o e => s2730 _ _ (s27 _ _ e)
          have s2430 : Same H24 H30 := fun c o e => s2630 _ _ (s2426 _ _ e)
          have e6 : qs6 = qs3 := cn_unique nd6 nde cn6 cn1 fun k _ => by rw [g6, ge, gl']
          have e7 : qs8 = qs7 := cn_unique ndh ndl cn8 cn7 fun k _ => (gl k).symm
          subst e6 e7
          have l7 := cn7.len mpl
          refine ⟨_, _, rfl, sm_lst (s2830 _ _ hW28) hW30 rfl (by simp) (at2 (sm_prs (s2630 _ _ hT426) (s2430 _ _ hD124) (PrA.all hus6 s2630) (PrA.all hus124 s2430) l1) (sm_prs (s2730 _ _ hT527) (s30 _ _ hPH29) (PrA.all hus7 s2730) (PrA.all hus8 s30) (by omega))), fun H31 s31 => ⟨true, rfl, iteF ?_⟩⟩
          walk_at "go"
          exact ⟨rfl, fun c o e => s31 _ _ (s2430 _ _ e)⟩
        rintro _ H25 ⟨rfl, s25⟩
        walk_at "go"
        refine ⟨fun σ' H' => ∃ (y : Addr) (my : AL), σ' = [some (.ref a), some (.ref l), some (.ref R), some (.ref dH), some (.ref DU), some (.ref G), some (.int far), some (.ref dE), some (.ref Mo), some (.ref y), some (.ref Dn), some (.ref s1), some (.ref o1), some (.ref o2), some (.int by_), x15, x16, x17, x18] ∧ LoA C H' y my ∧ (∀ k, get my k = by_ * get me k) ∧ Same H24 H', ?_, ?_⟩
        · walk_at "go"
          obtain ⟨dx1, dd1, L1_, h11, h12, h13, pk1⟩ := id (P124.same s25)
          obtain ⟨⟨dl, dxl, hs1, hs2⟩, ndl, mpl, mll⟩ := id (Ls24.same s25)
          unfold tMeth
          refine r_opS ?_
          walk_at "go"
          refine ⟨o1, dx1, _, by_, rfl, rfl, h11, o1, by_, m1, rfl, P124.same s25, y0, by omega, fun x hx => (sm1 x hx).1, fun ox mx H26 hox Px wsx mkx s26 => ?_⟩
          obtain ⟨dxx, ddx, Lx_, hx1, _, _, pkx⟩ := id Px
          have wsx' : ∀ f, wsum mx f = wsum ((rows.zip ds).map fun x => (x.1, by_ * x.2)) f := fun f => by rw [wsx, ws1, wsum_scale]
          have smx : SmallP mx := small_of pkx wsx' (fun y hy => by
            obtain ⟨x, hx, rfl⟩ := List.mem_map.mp hy
            obtain ⟨z0, z1⟩ := d64 _ (List.of_mem_zip hx).2
            refine ⟨Int.mul_nonneg y0 z0, Int.le_trans (Int.mul_le_mul (show by_ ≤ 4 by omega) z1 z0 (by decide)) (by decide)⟩) (by rw [List.length_map, List.length_zip]; omega) fun r hr => r64 r (mk1 r (mkx r hr))
          have s2426 : Same H24 H26 := fun c o e => s26 _ _ (s25 _ _ e)
          walk_at "go"
          refine ⟨ox, dxx, _, rfl, hx1, lookP, ?_⟩
          refine r_cons ?_
          refine r_opS ?_
          walk_at "go"
          refine ⟨s1, dxl, _, by_, rfl, rfl, s26 _ _ hs1, s1, by_, ml, rfl, Ls24.same s2426, y0, by omega, fun p hp => ?_, fun z mz H27 hz Lz gz s27 => ?_⟩
          · have h1 := mpl p hp
            have h2 := get_of ndl hp
            rw [gl] at h2
            have h3 := g1 p.1
            omega
          have kmz : ∀ k ∈ keys mz, k ∈ wd := kin_of Lz.lo.nd Lz.lo.ps fun k hk => by
            rw [gz, gl, get_none fun z => hk (kmh k z), Int.zero_mul]
          have aftx : ∀ k, aft (get mz) mx k = by_ * get me k := fun k => by
            rw [← aft1 k]
            unfold aft
            rw [gz, wsx, Int.mul_add, Int.mul_comm (get ml k)]
          walk_at "go"
          refine ⟨ox, z, mx, mz, wd, rfl, Px.same s27, Lz.lo, smx, by omega, fun r hr => rin r (mk1 r (mkx r hr)), kmz, fun k => by rw [aftx]; exact Int.mul_nonneg y0 (ge0 k), fun y my H28 hy Ly gy s28 => ?_⟩
          walk_at "go"
          exact ⟨y, my, rfl, Ly.lo, fun k => by rw [gy, aftx], fun c o e => s28 _ _ (s27 _ _ (s2426 _ _ e))⟩
        rintro _ H25 ⟨y, my, rfl, Ly, gy, s25⟩
        walk_at "go"
        refine ⟨fun σ' H' => σ' = [some (.ref a), some (.ref l), some (.ref R), some (.ref dH), some (.ref DU), some (.ref G), some (.int far), some (.ref dE), some (.ref Mo), some (.ref y), some (.ref Dn), some (.ref s1), some (.ref o1), some (.ref o2), some (.int by_), x15, x16, x17, x18] ∧ Same H24 H', ?_, ?_⟩
        · walk_at "go"
          obtain ⟨dx1, dd1, L1_, h11, h12, h13, pk1⟩ := id (P124.same s25)
          obtain ⟨⟨dy, dxy, hy1, hy2⟩, ndy, mpy, mly⟩ := id Ly
          refine r_opS ?_
          refine r_methK ?_
          walk_at "go"
          refine ⟨o1, dx1, _, rfl, h11, lookP, ?_⟩
          walk_at "go"
          refine ⟨o1, s1, m1, ml, wd, rfl, P124.same s25, Ls24.same s25, sm1, by omega, rin_ns rin mk1, kml, fun k => by rw [aft1]; exact ge0 k, fun v mv H26 hv Lv gv s26 => ?_⟩
          obtain ⟨⟨dv, dxv, hv1, hv2⟩, ndv, mpv, mlv⟩ := id Lv.lo
          walk_at "go"
          refine ⟨v, dxv, _, by_, rfl, rfl, hv1, v, by_, mv, rfl, Lv.lo, y0, by omega, fun p hp => ?_, fun u mu H27 hu' Lu gu s27 => ?_⟩
          · have h1 := mpv p hp
            have h2 := get_of ndv hp
            rw [gv, aft1] at h2
            have h3 := ge1 p.1
            exact abs_lt (Int.le_of_lt h1) (by rw [← h2]; exact h3) (by decide)
          obtain ⟨⟨du, dxu, hu1, hu2⟩, ndu, mpu, mlu⟩ := id Lu.lo
          have s2527 : Same H25 H27 := fun c o e => s27 _ _ (s26 _ _ e)
          walk_at "go"
          refine ⟨y, u, dxy, dxu, _, _, rfl, rfl, s2527 _ _ hy1, hu1, y, u, my, mu, rfl, Ly.same s2527, Lu.lo, fun H28 s28 => ?_⟩
          have e1 : dEq my mu = true := (dEq_iff ndy ndu mpy mpu).mpr fun k => by rw [gy, gu, gv, aft1, Int.mul_comm]
          rw [e1]
          walk_at "go"
          refine ⟨_, _, rfl, sm_bl rfl, fun H29 s29 => ⟨true, rfl, iteF ?_⟩⟩
          walk_at "go"
          exact ⟨rfl, fun c o e => s29 _ _ (s28 _ _ (s2527 _ _ (s25 _ _ e)))⟩
        rintro _ H25 ⟨rfl, s25⟩
        walk_at "go"
        refine ⟨R, ts, rfl, SqL.of (s25 _ _ hR24), ?_⟩
        refine for_it (walk_enum (xs := ts)) (fun i σ H' => ∃ (z15 z16 z17 z18 : Option V), σ = [some (.ref a), some (.ref l), some (.ref R), some (.ref dH), some (.ref DU), some (.ref G), some (.int far), some (.ref dE), some (.ref Mo), some (.ref y), some (.ref Dn), some (.ref s1), some (.ref o1), some (.ref o2), some (.int by_), z15, z16, z17, z18] ∧ Same H24 H') ?_ ?_ ?_ ?_
        · exact ⟨_, _, _, _, rfl, s25⟩
        · rintro i σ H' _ ⟨_, _, _, _, _, s3⟩
          exact SqL.of (s3 _ _ hR24)
        · rintro i x σ H3 H4 hi ⟨z15, z16, z17, z18, rfl, s3⟩ ⟨t, u, v, rfl, ht, rfl, hu1, hv⟩
          obtain rfl : V.int (i : Nat) = u := Option.some.inj hu1
          obtain ⟨r, hr1, hrv⟩ := Paired.at hts24 hv
          obtain ⟨dn, hdn⟩ : ∃ d, ds[i]? = some d := ⟨ds[i]'(by have := (List.getElem?_eq_some_iff.mp hr1).1; omega), List.getElem?_eq_getElem _⟩
          have li : i < ds.length := (List.getElem?_eq_some_iff.mp hdn).1
          have s4 : Same H24 (upd H3 t (.tup [V.int (i : Nat), v])) := fun c o e => upd_at (s3 _ _ e) (ne_of_none (s3 _ _ e) ht)
          have ht4 : upd H3 t (.tup [V.int (i : Nat), v]) t = some (.tup [V.int (i : Nat), v]) := upd_same
          generalize upd H3 t (.tup [V.int (i : Nat), v]) = H4 at s4 ht4 ⊢
          obtain ⟨t1, u1, xs1, rfl, e1, e2, e3⟩ := hrv.same s4
          walk_at "go"
          rename_i Mu hMu
          have s5 : Same H4 (upd H4 Mu (.lst (ds.map V.int))) := fun c o e => upd_at e (ne_of_none e hMu)
          have hMu5 : upd H4 Mu (.lst (ds.map V.int)) Mu = some (.lst (ds.map V.int)) := upd_same
          have hMu0 : H24 Mu = none := s4.free hMu
          generalize upd H4 Mu (.lst (ds.map V.int)) = H5 at s5 hMu5 ⊢
          clear hMu
          have s245 : Same H24 H5 := fun c o e => s5 _ _ (s4 _ _ e)
          walk_at "go"
          refine r_ixL (SqL.of (s245 _ _ hDn24)) (atI_nat (by rw [List.getElem?_map, hdn]; rfl)) ?_
          walk_at "go"
          refine ⟨Or.inl ⟨enc me, Or.inl (s245 _ _ hE24)⟩, ?_⟩
          walk_at "go"
          refine r_ixT (SqT.of (s5 _ _ e1)) (atI_nat (j := 0) rfl) ?_
          walk_at "go"
          refine ⟨_, DGet_enc (r := look me r.1) (Or.inl (s245 _ _ hE24)) rfl, ?_⟩
          rw [get_look]
          walk_at "go"
          refine r_setL hMu5 (by rw [List.length_map]; exact ixN_lt li) ?_
          have em : (ds.map V.int).set i (.int (dn + get me r.1 + 1)) = (ds.set i (dn + get me r.1 + 1)).map V.int := List.map_set.symm
          rw [em]
          have s6 : Same H24 (upd H5 Mu (.lst ((ds.set i (dn + get me r.1 + 1)).map V.int))) := fun c o e => upd_at (s245 _ _ e) (ne_of_none e hMu0)
          have hMu6 : upd H5 Mu (.lst ((ds.set i (dn + get me r.1 + 1)).map V.int)) Mu = some (.lst ((ds.set i (dn + get me r.1 + 1)).map V.int)) := upd_same
          have e16 : upd H5 Mu (.lst ((ds.set i (dn + get me r.1 + 1)).map V.int)) t1 = some (.tup [V.str r.1, .ref u1]) := upd_at (s5 _ _ e1) (fun z => by have := s5 _ _ e1; rw [z, hMu5] at this; cases this)
          generalize upd H5 Mu (.lst ((ds.set i (dn + get me r.1 + 1)).map V.int)) = H6 at s6 hMu6 e16 ⊢
          have hrm := List.mem_of_getElem? hr1
          have dn0 := d0 dn (List.mem_of_getElem? hdn)
          have em0 := ge0 r.1
          have lo12 : (10 : Int) ^ Int.toNat 12 = 1000000000000 := by decide
          walk_at "go"
          refine r_ixL (SqL.of hMu6) (atI_nat (by rw [List.getElem?_map, List.getElem?_set_self li]; rfl)) ?_
          walk_at "go"
          rw [lo12]
          refine ite_d (fun c12 => ?_) fun _ => ?_
          · walk_at "go"
            refine ⟨R, Mu, ts, rows, ds.set i (dn + get me r.1 + 1), rfl, s6 _ _ hR24, RwV.all hts24 s6, hMu6, by rw [List.length_set]; exact lds, rok, es28, fun d hd => ?_, fun o9 m9 H7 ho9 P9 ws9 mk9 s7 => ?_⟩
            · rcases List.mem_or_eq_of_mem_set hd with z | z
              · exact d0 d z
              · omega
            have pk9 : PlOk m9 := by obtain ⟨_, _, _, _, _, _, z⟩ := id P9; exact z
            have sm9 := plan_small pk9 ws9 mk9 (fun d hd => by
              rcases List.mem_or_eq_of_mem_set hd with z | z
              · exact d64 d z
              · exact ⟨by omega, by omega⟩) l28 r64
            have aft9 : ∀ k, aft (get ml) m9 k = get me k + (get me r.1 + 1) * dlt k r := fun k => by
              unfold aft
              rw [ws9, wsum_zip_set (dlt k) _ rows ds i r dn hr1 hdn, ← Int.add_assoc, show dn + get me r.1 + 1 - dn = get me r.1 + 1 by omega, gl', ge k, endG_sum]
            have self : tot r.2 r.1 = 0 := tot_out (rok r hrm).no
            have aft9s : aft (get ml) m9 r.1 = -1 := by
              rw [aft9]
              unfold dlt
              rw [self, if_pos rfl, show ((0 : Int) - 1) = -1 from rfl, Int.mul_neg, Int.mul_one]
              omega
            have aft9n : ∀ k, k ≠ r.1 → 0 ≤ aft (get ml) m9 k := fun k hk => by
              rw [aft9]
              have h2 := tot_nn (m := r.2) (fun p hp => Int.le_of_lt (r64 r hrm p hp).1) k
              have h3 : 0 ≤ (get me r.1 + 1) * dlt k r := by
                refine Int.mul_nonneg (by omega) ?_
                unfold dlt
                rw [if_neg fun z => hk z.symm]
                omega
              have := ge0 k
              omega
            have s247 : Same H24 H7 := fun c o e => s7 _ _ (s6 _ _ e)
            walk_at "go"
            refine ⟨o9, s1, m9, ml, wd, rfl, P9, Ls24.same s247, sm9, by omega, rin_ns rin mk9, kml, .inr ⟨r.1, by rw [aft9s]; decide, fun k hk => ?_, fun t3 H8 ht3 ht38 s8 => ?_⟩⟩
            · by_cases z : k = r.1
              · rw [z]; exact sle_refl _
              · have := aft9n k z
                omega
            rw [aft9s] at ht38
            have s78 : Same H6 H8 := fun c o e => s8 _ _ (s7 _ _ e)
            walk_at "go"
            refine r_ixT (SqT.of (s78 _ _ e16)) (atI_nat (j := 0) rfl) ?_
            walk_at "go"
            rename_i t4 ht4'
            have s9 : Same H8 (upd H8 t4 (.tup [V.str "short", V.str r.1, V.int 1])) := fun z o e => upd_at e (ne_of_none e ht4')
            refine ⟨_, _, rfl, sm_tupl (s9 _ _ ht38) upd_same rfl (by simp) (at3 (sm_str rfl) (sm_str rfl) (sm_int rfl)), fun H10 s10 => ⟨true, rfl, iteF ?_⟩⟩
            walk_at "go"
            exact ⟨_, _, _, _, rfl, fun c o e => s10 _ _ (s9 _ _ (s78 _ _ (s6 _ _ e)))⟩
          · walk_at "go"
            refine r_ixT (SqT.of e16) (atI_nat (j := 0) rfl) ?_
            walk_at "go"
            rename_i t3 ht3
            have s8 : Same H6 (upd H6 t3 (.tup [V.str "short", V.str r.1, V.int 1])) := fun z o e => upd_at e (ne_of_none e ht3)
            have ht38 : upd H6 t3 (.tup [V.str "short", V.str r.1, V.int 1]) t3 = some (.tup [V.str "short", V.str r.1, V.int 1]) := upd_same
            generalize upd H6 t3 (.tup [V.str "short", V.str r.1, V.int 1]) = H8 at s8 ht38 ⊢
            refine r_ixT (SqT.of (s8 _ _ e16)) (atI_nat (j := 0) rfl) ?_
            walk_at "go"
            rename_i t4 ht4'
            have s9 : Same H8 (upd H8 t4 (.tup [V.str "short", V.str r.1, V.int 1])) := fun z o e => upd_at e (ne_of_none e ht4')
            refine ⟨_, _, rfl, sm_tupl (s9 _ _ ht38) upd_same rfl (by simp) (at3 (sm_str rfl) (sm_str rfl) (sm_int rfl)), fun H10 s10 => ⟨true, rfl, iteF ?_⟩⟩
            walk_at "go"
            exact ⟨_, _, _, _, rfl, fun c o e => s10 _ _ (s9 _ _ (s8 _ _ (s6 _ _ e)))⟩
        · rintro σ H3 ⟨z15, z16, z17, z18, rfl, s3⟩
          walk_at "go"
          exact fin H3 s3
end


section
variable {P : Program} {w : World} {K : PySem.W.Frag} {mg : Str → Option Value} {base : Heap} {C CN : Addr}
abbrev sLaw : Stmt := top 49
theorem scLaw : FnScope ["_law_script", "_law_cells_here", "_law_k"] ["_law_script"] (defScope sLaw) := ⟨rfl, rfl, rfl, by decide +kernel, rfl, by decide +kernel, by decide +kernel⟩
def spLaw (K : PySem.W.Frag) : Sp := fun vs H Q _ => ∃ (a : Addr) (ns : List Int), vs = [.ref a] ∧ SqL K H a (ns.map V.int) ∧ ns.length ≤ 63 ∧ ∀ H', Q (.bl true) H'
theorem ok_law {f : Addr} {fd : FuncData} (F : Fun K "law" "law" sLaw f fd) (T : Txt K mg) (Cc : Cal P w K mg base CX0 1 "_law_cells" ["_law_script", "_law_most_so"] (spCells K)) (Cb : Cal P w K mg base CX0 1 "_law_box" ["_law_script", "_law_k"] (spBox K)) (Cr : Cal P w K mg base CX0 12 "_law_right" ["_law_box_here"] (spRight ())) : FnOk P w K mg base CX0 13 f fd ["_law_script"] (spLaw K) := by
  refine F.ok scLaw (fun vs H Q E h => ?_) (fun cdv A outer s H vs Q E hr h => ?_)
  · obtain ⟨a, ns, rfl, _⟩ := h
    rfl
  · obtain ⟨a, ns, rfl, hx, hl, q⟩ := h
    refine ⟨_, (pss_cons (ps_set (i := 1) scLaw.nd rfl (Or.inr rfl) (pe_cal Cc (hr.mono (by decide)) pass0 (pa_cons (pv 0) (pa_cons pe_int pa_nil))))
  (pss_one (ps_ret (pe_callB (cr_all rfl) (by rfl) T.all (by decide +kernel) (pa_cons (pe_lc (own := [("_law_k", 2)]) (g := gName 2) (tt := tYes) rfl scLaw.nd (pi_range1 rfl T.range (pa_cons (pe_callB c_lenL (by rfl) T.len (by decide +kernel) (pa_cons (pv 1) pa_nil)) pa_nil)) (blkOk_by (N := ["_law_script", "_law_cells_here", "_law_k"]) (sc := defScope sLaw) (by decide +kernel)) (fun _ _ _ _ _ => (pg_name (i := 2) scLaw.nd rfl (Or.inl rfl))) (fun _ _ _ _ _ => pts_nil) (fun _ _ _ _ _ => (pe_cal Cr hr pass0 (pa_cons (pe_cal Cb (hr.mono (by decide)) pass0 (pa_cons (pv 1) (pa_cons (pv 2) pa_nil))) pa_nil)))) pa_nil))))), ?_⟩
    walk_at "in"
    walk_at "go"
    refine ⟨a, ns, rfl, hx, hl, fun p ms H1 hp m1 m3 hp1 s1 => ?_⟩
    walk_at "go"
    refine ⟨by rw [List.length_map]; omega, by rw [List.length_map]; omega, ?_⟩
    intro D hD
    have nDp : D ≠ p := fun z => by rw [z, hp1] at hD; cases hD
    have el : (((ms.map V.int).length : Nat) : Int).toNat = ms.length := by rw [List.length_map]; rfl
    rw [el]
    refine lc_it (walk_range (n := ms.length)) (fun i H' => H' D = some (.lst ((List.replicate i true).map V.bl)) ∧ Same H1 H') ?_ ?_ ?_ ?_
    · exact ⟨upd_same, fun c o e => upd_at e (ne_of_none e hD)⟩
    · intro _ _ _ _
      trivial
    · rintro i _ _ H2 hi ⟨hD2, s2⟩ ⟨rfl, rfl⟩
      walk_at "go"
      refine ⟨rfl, ?_⟩
      walk_at "go"
      refine iteT ?_
      walk_at "go"
      refine ⟨p, ms, i, ?_, SqL.of (s2 _ _ hp1), hi, by omega, fun b H3 hb hb3 s3 => ?_⟩
      · show [V.ref p, V.int (0 + (i : Int))] = _
        rw [Int.zero_add]
      walk_at "go"
      refine ⟨b, 899990000, rfl, hb3.mono (by decide), fun H4 _ k4 => ?_⟩
      have keep : ∀ c o, H2 c = some o → H4 c = some o := fun c o e => k4 _ _ (s3 _ _ e) (ne_of_none e hb)
      refine ⟨_, keep _ _ hD2, szl (by rw [List.length_map, List.length_replicate]; omega), ?_, fun c o e => ?_⟩
      · rw [List.replicate_succ', List.map_append]
        exact upd_same
      · exact upd_at (keep _ _ (s2 _ _ e)) (ne_of_none e hD)
    · rintro H2 ⟨hD2, s2⟩
      walk_at "go"
      refine r_all (SqL.of hD2) ?_
      rw [List.all_replicate]
      have e : (if ms.length = 0 then true else id true) = true := by split <;> rfl
      first | rw [e] | skip
      exact q _
end


theorem r_ost {K : PySem.W.Frag} {f : Str} {to te : TE} {D : Ends} {σ : L2.St} {H : Hp} (h : te σ H fun y H1 => to σ H1 fun x H2 => ∃ a C : Addr, x = .ref a ∧ OexC K C ∧ PySem.W.findIn K (.ref C) f = some none ∧ ((H2 a = some (exo a C none) ∧ ∀ dx, H2 dx = none → dx ≠ a → D.nx σ (upd (upd H2 dx (exd dx [(f, y)])) a (exo a C (some dx)))) ∨ ∃ (dx : Addr) (fs : List (Str × V)), H2 a = some (exo a C (some dx)) ∧ H2 dx = some (exd dx fs) ∧ fs.length ≤ 900 ∧ D.nx σ (upd H2 dx (exd dx ((f, y) :: fs))))) : tOst K f to te D σ H := h
section
variable {P : Program} {w : World} {K : PySem.W.Frag} {mg : Str → Option Value} {base : Heap} {C : Addr}
abbrev sBelowInit : Stmt := inClass (top 2) 0
abbrev sShortInit : Stmt := inClass (top 5) 0
theorem scShortInit : FnScope ["self", "kind", "lacking"] ["self", "kind", "lacking"] (defScope sShortInit) := ⟨rfl, rfl, rfl, by decide +kernel, rfl, by decide +kernel, by decide +kernel⟩
theorem ok_iShort {f : Addr} {fd : FuncData} (F : Fun K "__init__" "Short.__init__" sShortInit f fd) (T : OexC K C) (h1 : PySem.W.findIn K (.ref C) "kind" = some none) (h2 : PySem.W.findIn K (.ref C) "lacking" = some none) : FnOk P w K mg base CX0 1 f fd ["self", "kind", "lacking"] (spI2 C "kind" "lacking") := by
  refine F.ok scShortInit (fun vs H Q E h => ?_) (fun cdv A outer s H vs Q E hr h => ?_)
  · obtain ⟨a, y, z, rfl, _⟩ := h
    rfl
  · obtain ⟨a, y, z, rfl, ha, q⟩ := h
    refine ⟨_, pss_cons (ps_ost (pv 0) (pv 1)) (pss_one (ps_ost (pv 0) (pv 2))), ?_⟩
    walk_at "in"
    refine r_seq (r_ost (r_var rfl (r_var rfl ⟨a, C, rfl, T, h1, .inl ⟨ha, fun d hd nda => ?_⟩⟩)))
    exact r_ost (r_var rfl (r_var rfl ⟨a, C, rfl, T, h2, .inr ⟨d, [("kind", y)], upd_same, by rw [upd_ne nda]; exact upd_same, by simp, q d hd nda⟩⟩))
end
end My
namespace My
end My

namespace My
open PySem L2

theorem same0 {P : Program} {w : World} {K : PySem.W.Frag} {mg : Str → Option Value} {base : Heap} {f : Addr} {fd : FuncData} : FnOk P w K mg base CX0 0 f fd ["_law_got", "_law_due"] (spSame K 0) :=
  ⟨fun vs H Q E h => by obtain ⟨x, y, rfl, _⟩ := h; rfl, fun A outer s H args us vs Q E hr e b r h => by obtain ⟨x, y, _, hs, _⟩ := h; exact hs.elim⟩

theorem all_mk {l : PySem.W.OpenLaw} {w : World} {K : PySem.W.Frag} {h : Heap} {mg : Str → Option Value} {fa : Addr} (X : K.In h) (G : h.Ns mainGlobals mg) (hfa : mg "law" = some (.ref fa))
    {C : Addr} {CO : Addr} {CP : Addr} {fm0 : Addr} {fm1 : Addr} {fm2 : Addr} {fm3 : Addr} {fc0 : Addr} {fc1 : Addr} {fc2 : Addr} {fiC t0C : Addr} {fm4 : Addr} {fc3 : Addr} {fc4 : Addr} {fc5 : Addr} {fc6 : Addr} {fm5 : Addr} {fiCO : Addr} {fc7 : Addr} {fc8 : Addr} {fc9 : Addr} {fc10 : Addr} {fiCP t0CP : Addr} {fm6 : Addr} {fc11 : Addr} {fc12 : Addr} {fc13 : Addr} {fc14 : Addr} {fc15 : Addr} {ppOpeningContents pgOpeningContents : Addr} {restOpeningContents : List Value} {fc16 : Addr} {fc17 : Addr} {fc18 : Addr} {fm7 : Addr} {fm8 : Addr} {fm9 : Addr} {fm10 : Addr} {fm11 : Addr} {fm12 : Addr} {fm13 : Addr} {fm14 : Addr} {fm15 : Addr} {fm16 : Addr} {fm17 : Addr} {fm18 : Addr} {fm19 : Addr} {fm20 : Addr} {fm21 : Addr} {fm22 : Addr} {fm23 : Addr} {fm24 : Addr} {fm25 : Addr} {fm26 : Addr} {fm27 : Addr} {CS fiS : Addr} {fo ro : Option Value} {fr1 fr2 fr3 fr4 : Addr}
    (aC : PySem.W.nsIn K mainGlobals "Lot" = some (some (.ref C)))
    (KC : CC K C)
    (nC_many : PySem.W.findIn K (.ref C) "_many" = some none)
    (aCO : PySem.W.nsIn K mainGlobals "Opening" = some (some (.ref CO)))
    (KCO : CC K CO)
    (nCO_kind : PySem.W.findIn K (.ref CO) "kind" = some none)
    (nCO_pairs : PySem.W.findIn K (.ref CO) "_pairs" = some none)
    (aCP : PySem.W.nsIn K mainGlobals "Plan" = some (some (.ref CP)))
    (KCP : CC K CP)
    (nCP_counts : PySem.W.findIn K (.ref CP) "_counts" = some none)
    (am0 : PySem.W.nsIn K mainGlobals "law" = some (some (.ref fm0)))
    (Dm0 : ∃ fd, Fun K "law" "law" sLaw fm0 fd)
    (am1 : PySem.W.nsIn K mainGlobals "_law_cells" = some (some (.ref fm1)))
    (Dm1 : ∃ fd, Fun K "_law_cells" "_law_cells" sCells fm1 fd)
    (am2 : PySem.W.nsIn K mainGlobals "_law_box" = some (some (.ref fm2)))
    (Dm2 : ∃ fd, Fun K "_law_box" "_law_box" sBox fm2 fd)
    (am3 : PySem.W.nsIn K mainGlobals "_law_right" = some (some (.ref fm3)))
    (Dm3 : ∃ fd, Fun K "_law_right" "_law_right" sRight fm3 fd)
    (ac0 : PySem.W.findIn K (.ref C) "pairs" = some (some (.ref fc0)))
    (ic0 : PySem.W.isFn K (.ref fc0) = true)
    (nc0 : PySem.W.fnIn K fc0 = true)
    (Dc0 : ∃ fd, Fun K "pairs" "Lot.pairs" sLotPairs fc0 fd)
    (ac1 : PySem.W.findIn K (.ref C) "kinds" = some (some (.ref fc1)))
    (ic1 : PySem.W.isFn K (.ref fc1) = true)
    (nc1 : PySem.W.fnIn K fc1 = true)
    (Dc1 : ∃ fd, Fun K "kinds" "Lot.kinds" sLotKinds fc1 fd)
    (ac2 : PySem.W.findIn K (.ref C) "__mul__" = some (some (.ref fc2)))
    (ic2 : PySem.W.isFn K (.ref fc2) = true)
    (nc2 : PySem.W.fnIn K fc2 = true)
    (Dc2 : ∃ fd, Fun K "__mul__" "Lot.__mul__" sLotMul fc2 fd)
    (aiC : PySem.W.findIn K (.ref C) "__init__" = some (some (.ref fiC)))
    (iiC : PySem.W.isFn K (.ref fiC) = true)
    (DiC : ∃ fd, FunD K "__init__" "Lot.__init__" (defArgs sLotInit) (defBody sLotInit) (defScope sLotInit) [.ref t0C] [] fiC fd)
    (S0C : ∀ H, SqT K H t0C [])
    (am4 : PySem.W.nsIn K mainGlobals "counted_lots" = some (some (.ref fm4)))
    (Dm4 : ∃ fd, Fun K "_counted" "_counted" sOwnCounted fm4 fd)
    (ac3 : PySem.W.findIn K (.ref C) "__eq__" = some (some (.ref fc3)))
    (ic3 : PySem.W.isFn K (.ref fc3) = true)
    (nc3 : PySem.W.fnIn K fc3 = true)
    (Dc3 : ∃ fd, Fun K "__eq__" "Lot.__eq__" sLotEq fc3 fd)
    (ac4 : PySem.W.findIn K (.ref CP) "__add__" = some (some (.ref fc4)))
    (ic4 : PySem.W.isFn K (.ref fc4) = true)
    (nc4 : PySem.W.fnIn K fc4 = true)
    (Dc4 : ∃ fd, Fun K "__add__" "Plan.__add__" sPlanAdd fc4 fd)
    (ac5 : PySem.W.findIn K (.ref CP) "counts" = some (some (.ref fc5)))
    (ic5 : PySem.W.isFn K (.ref fc5) = true)
    (nc5 : PySem.W.fnIn K fc5 = true)
    (Dc5 : ∃ fd, Fun K "counts" "Plan.counts" sPlanCounts fc5 fd)
    (ac6 : PySem.W.findIn K (.ref CP) "openings" = some (some (.ref fc6)))
    (ic6 : PySem.W.isFn K (.ref fc6) = true)
    (nc6 : PySem.W.fnIn K fc6 = true)
    (Dc6 : ∃ fd, Fun K "openings" "Plan.openings" sPlanOpenings fc6 fd)
    (am5 : PySem.W.nsIn K mainGlobals "counted_lots" = some (some (.ref fm5)))
    (Dm5 : ∃ fd, Fun K "_counted" "_counted" sOwnCountedT fm5 fd)
    (aiCO : PySem.W.findIn K (.ref CO) "__init__" = some (some (.ref fiCO)))
    (iiCO : PySem.W.isFn K (.ref fiCO) = true)
    (DiCO : ∃ fd, Fun K "__init__" "Opening.__init__" sOpeningInit fiCO fd)
    (ac7 : PySem.W.findIn K (.ref C) "__len__" = some (some (.ref fc7)))
    (ic7 : PySem.W.isFn K (.ref fc7) = true)
    (nc7 : PySem.W.fnIn K fc7 = true)
    (Dc7 : ∃ fd, Fun K "__len__" "Lot.__len__" sLotLen fc7 fd)
    (ac8 : PySem.W.findIn K (.ref C) "__contains__" = some (some (.ref fc8)))
    (ic8 : PySem.W.isFn K (.ref fc8) = true)
    (nc8 : PySem.W.fnIn K fc8 = true)
    (Dc8 : ∃ fd, Fun K "__contains__" "Lot.__contains__" sLotContains fc8 fd)
    (ac9 : PySem.W.findIn K (.ref CP) "__getitem__" = some (some (.ref fc9)))
    (ic9 : PySem.W.isFn K (.ref fc9) = true)
    (nc9 : PySem.W.fnIn K fc9 = true)
    (Dc9 : ∃ fd, Fun K "__getitem__" "Plan.__getitem__" sPlanGetitem fc9 fd)
    (ac10 : PySem.W.findIn K (.ref CO) "place" = some (some (.ref fc10)))
    (ic10 : PySem.W.isFn K (.ref fc10) = true)
    (nc10 : PySem.W.fnIn K fc10 = true)
    (Dc10 : ∃ fd, Fun K "place" "Opening.place" sOpeningPlace fc10 fd)
    (aiCP : PySem.W.findIn K (.ref CP) "__init__" = some (some (.ref fiCP)))
    (iiCP : PySem.W.isFn K (.ref fiCP) = true)
    (DiCP : ∃ fd, FunD K "__init__" "Plan.__init__" (defArgs sPlanInit) (defBody sPlanInit) (defScope sPlanInit) [.ref t0CP] [] fiCP fd)
    (S0CP : ∀ H, SqT K H t0CP [])
    (am6 : PySem.W.nsIn K mainGlobals "counted_plans" = some (some (.ref fm6)))
    (Dm6 : ∃ fd, Fun K "_counted" "_counted" sPCounted fm6 fd)
    (ac11 : PySem.W.findIn K (.ref CP) "__mul__" = some (some (.ref fc11)))
    (ic11 : PySem.W.isFn K (.ref fc11) = true)
    (nc11 : PySem.W.fnIn K fc11 = true)
    (Dc11 : ∃ fd, Fun K "__mul__" "Plan.__mul__" sPlanMul fc11 fd)
    (ac12 : PySem.W.findIn K (.ref CP) "after" = some (some (.ref fc12)))
    (ic12 : PySem.W.isFn K (.ref fc12) = true)
    (nc12 : PySem.W.fnIn K fc12 = true)
    (Dc12 : ∃ fd, Fun K "after" "Plan.after" sPlanAfter fc12 fd)
    (ac13 : PySem.W.findIn K (.ref CP) "left" = some (some (.ref fc13)))
    (ic13 : PySem.W.isFn K (.ref fc13) = true)
    (nc13 : PySem.W.fnIn K fc13 = true)
    (Dc13 : ∃ fd, Fun K "left" "Plan.left" sPlanLeft fc13 fd)
    (ac14 : PySem.W.findIn K (.ref CP) "gone" = some (some (.ref fc14)))
    (ic14 : PySem.W.isFn K (.ref fc14) = true)
    (nc14 : PySem.W.fnIn K fc14 = true)
    (Dc14 : ∃ fd, Fun K "gone" "Plan.gone" sPlanGone fc14 fd)
    (ac15 : PySem.W.findIn K (.ref CP) "come" = some (some (.ref fc15)))
    (ic15 : PySem.W.isFn K (.ref fc15) = true)
    (nc15 : PySem.W.fnIn K fc15 = true)
    (Dc15 : ∃ fd, Fun K "come" "Plan.come" sPlanCome fc15 fd)
    (apOpeningContents : PySem.W.findIn K (.ref CO) "contents" = some (some (.ref ppOpeningContents)))
    (rpOpeningContents : PySem.W.recIn K ppOpeningContents "property" = some (.ref pgOpeningContents :: restOpeningContents))
    (gpOpeningContents : PySem.W.specialIn K (.ref ppOpeningContents) "__get__" = some (some (.builtin "property.__get__")))
    (tpOpeningContents : PySem.W.takesIn K (.ref ppOpeningContents) = some true)
    (DpOpeningContents : ∃ fd, Fun K "contents" "Opening.contents" sOpeningContents pgOpeningContents fd)
    (ac16 : PySem.W.findIn K (.ref C) "__add__" = some (some (.ref fc16)))
    (ic16 : PySem.W.isFn K (.ref fc16) = true)
    (nc16 : PySem.W.fnIn K fc16 = true)
    (Dc16 : ∃ fd, Fun K "__add__" "Lot.__add__" sLotAdd fc16 fd)
    (ac17 : PySem.W.findIn K (.ref C) "__sub__" = some (some (.ref fc17)))
    (ic17 : PySem.W.isFn K (.ref fc17) = true)
    (nc17 : PySem.W.fnIn K fc17 = true)
    (Dc17 : ∃ fd, Fun K "__sub__" "Lot.__sub__" sLotSub fc17 fd)
    (ac18 : PySem.W.findIn K (.ref C) "__getitem__" = some (some (.ref fc18)))
    (ic18 : PySem.W.isFn K (.ref fc18) = true)
    (nc18 : PySem.W.fnIn K fc18 = true)
    (Dc18 : ∃ fd, Fun K "__getitem__" "Lot.__getitem__" sLotGetitem fc18 fd)
    (am7 : PySem.W.nsIn K mainGlobals "_law_names" = some (some (.ref fm7)))
    (Dm7 : ∃ fd, Fun K "_law_names" "_law_names" sNames fm7 fd)
    (am8 : PySem.W.nsIn K mainGlobals "_law_take" = some (some (.ref fm8)))
    (Dm8 : ∃ fd, Fun K "_law_take" "_law_take" sTake fm8 fd)
    (am9 : PySem.W.nsIn K mainGlobals "_law_of" = some (some (.ref fm9)))
    (Dm9 : ∃ fd, Fun K "_law_of" "_law_of" sOf fm9 fd)
    (am10 : PySem.W.nsIn K mainGlobals "_law_any" = some (some (.ref fm10)))
    (Dm10 : ∃ fd, Fun K "_law_any" "_law_any" sAny fm10 fd)
    (am11 : PySem.W.nsIn K mainGlobals "_law_tree" = some (some (.ref fm11)))
    (Dm11 : ∃ fd, Fun K "_law_tree" "_law_tree" sTree fm11 fd)
    (am12 : PySem.W.nsIn K mainGlobals "_law_rising" = some (some (.ref fm12)))
    (Dm12 : ∃ fd, Fun K "_law_rising" "_law_rising" sRising fm12 fd)
    (am13 : PySem.W.nsIn K mainGlobals "_law_ways" = some (some (.ref fm13)))
    (Dm13 : ∃ fd, Fun K "_law_ways" "_law_ways" sWays fm13 fd)
    (am14 : PySem.W.nsIn K mainGlobals "_law_single" = some (some (.ref fm14)))
    (Dm14 : ∃ fd, Fun K "_law_single" "_law_single" sSingle fm14 fd)
    (am15 : PySem.W.nsIn K mainGlobals "_law_stock" = some (some (.ref fm15)))
    (Dm15 : ∃ fd, Fun K "_law_stock" "_law_stock" sStock fm15 fd)
    (am16 : PySem.W.nsIn K mainGlobals "_law_pairs" = some (some (.ref fm16)))
    (Dm16 : ∃ fd, Fun K "_law_pairs" "_law_pairs" sPairs fm16 fd)
    (am17 : PySem.W.nsIn K mainGlobals "_law_counted" = some (some (.ref fm17)))
    (Dm17 : ∃ fd, Fun K "_law_counted" "_law_counted" sCounted fm17 fd)
    (am18 : PySem.W.nsIn K mainGlobals "_law_counts" = some (some (.ref fm18)))
    (Dm18 : ∃ fd, Fun K "_law_counts" "_law_counts" sCounts fm18 fd)
    (am19 : PySem.W.nsIn K mainGlobals "_law_lot" = some (some (.ref fm19)))
    (Dm19 : ∃ fd, Fun K "_law_lot" "_law_lot" sLot fm19 fd)
    (am20 : PySem.W.nsIn K mainGlobals "_law_end" = some (some (.ref fm20)))
    (Dm20 : ∃ fd, Fun K "_law_end" "_law_end" sEnd fm20 fd)
    (am21 : PySem.W.nsIn K mainGlobals "_law_told" = some (some (.ref fm21)))
    (Dm21 : ∃ fd, Fun K "_law_told" "_law_told" sTold fm21 fd)
    (am22 : PySem.W.nsIn K mainGlobals "_law_plan" = some (some (.ref fm22)))
    (Dm22 : ∃ fd, Fun K "_law_plan" "_law_plan" sPlan fm22 fd)
    (am23 : PySem.W.nsIn K mainGlobals "_law_walked" = some (some (.ref fm23)))
    (Dm23 : ∃ fd, Fun K "_law_walked" "_law_walked" sWalked fm23 fd)
    (am24 : PySem.W.nsIn K mainGlobals "_law_way" = some (some (.ref fm24)))
    (Dm24 : ∃ fd, Fun K "_law_way" "_law_way" sWay fm24 fd)
    (am25 : PySem.W.nsIn K mainGlobals "_law_same" = some (some (.ref fm25)))
    (Dm25 : ∃ fd, Fun K "_law_same" "_law_same" sSame fm25 fd)
    (am26 : PySem.W.nsIn K mainGlobals "_law_batched" = some (some (.ref fm26)))
    (Dm26 : ∃ fd, Fun K "_law_batched" "_law_batched" sBatched fm26 fd)
    (am27 : PySem.W.nsIn K mainGlobals "_law_by_hand_right" = some (some (.ref fm27)))
    (Dm27 : ∃ fd, Fun K "_law_by_hand_right" "_law_by_hand_right" sByHandRight fm27 fd)
    (aeS : PySem.W.nsIn K mainGlobals "Short" = some (some (.ref CS)))
    (EfS : EF K CS)
    (LkS : LK K CS bmV "ValueError.__new__")
    (aiS : PySem.W.findIn K (.ref CS) "__init__" = some (some (.ref fiS)))
    (tiS : PySem.W.typeIn K (.ref fiS) = some (.type "function"))
    (DiS : ∃ fd, Fun K "__init__" "Short.__init__" sShortInit fiS fd)
    (q3 : PySem.W.findIn K (.type "int") (PySem.dunder Operator.Mult.info.2) = some fo)
    (q4 : PySem.W.findIn K (.type "int") (dunderR Operator.Mult.info.2) = some ro)
    (mu1 : PySem.W.findIn K (.ref C) (PySem.dunder Operator.Mult.info.2) = some (some (.ref fr1)))
    (mu2 : PySem.W.findIn K (.ref C) (dunderR Operator.Mult.info.2) = some (some (.ref fr2)))
    (mu3 : PySem.W.findIn K (.ref CP) (PySem.dunder Operator.Mult.info.2) = some (some (.ref fr3)))
    (mu4 : PySem.W.findIn K (.ref CP) (dunderR Operator.Mult.info.2) = some (some (.ref fr4)))
    (ci1 : PySem.W.subIn K (.ref C) (.type "int") = some false)
    (ci2 : PySem.W.subIn K (.ref CP) (.type "int") = some false)
    (hn : PySem.W.specialIn K (.builtin "object.__class__") "__get__" = some (some (.builtin "getset_descriptor.__get__")))
    (ht : PySem.W.takesIn K (.builtin "object.__class__") = some true)
    (z_int : PySem.W.nsIn K mainGlobals "int" = some none)
    (z_len : PySem.W.nsIn K mainGlobals "len" = some none)
    (z_abs : PySem.W.nsIn K mainGlobals "abs" = some none)
    (z_list : PySem.W.nsIn K mainGlobals "list" = some none)
    (z_tuple : PySem.W.nsIn K mainGlobals "tuple" = some none)
    (z_range : PySem.W.nsIn K mainGlobals "range" = some none)
    (z_enumerate : PySem.W.nsIn K mainGlobals "enumerate" = some none)
    (z_isinstance : PySem.W.nsIn K mainGlobals "isinstance" = some none)
    (z_all : PySem.W.nsIn K mainGlobals "all" = some none)
    (z_zip : PySem.W.nsIn K mainGlobals "zip" = some none)
    (z_dict : PySem.W.nsIn K mainGlobals "dict" = some none)
    (z_bool : PySem.W.nsIn K mainGlobals "bool" = some none)
    (z_str : PySem.W.nsIn K mainGlobals "str" = some none)
    (z_set : PySem.W.nsIn K mainGlobals "set" = some none)
    (z_sorted : PySem.W.nsIn K mainGlobals "sorted" = some none)
    (z_min : PySem.W.nsIn K mainGlobals "min" = some none)
    (z_sum : PySem.W.nsIn K mainGlobals "sum" = some none)
    (z_max : PySem.W.nsIn K mainGlobals "max" = some none) :
    ∃ fd : FuncData, (∀ (s : Shared) (v : Value), BindsTo s fd ⟨[v], []⟩ [("_law_script", v)]) ∧ ∀ base : Heap, K.In base → base.Ns mainGlobals mg → FnOk l.prog w K mg base CX0 13 fa fd ["_law_script"] (spLaw K) := by
  have e := hfa.symm.trans (PySem.W.mg_of X G am0)
  cases e
  have T : Txt K mg := ⟨PySem.W.mg_none_of X G z_int, PySem.W.mg_none_of X G z_len, PySem.W.mg_none_of X G z_abs, PySem.W.mg_none_of X G z_list, PySem.W.mg_none_of X G z_tuple, PySem.W.mg_none_of X G z_range, PySem.W.mg_none_of X G z_enumerate, PySem.W.mg_none_of X G z_isinstance, PySem.W.mg_none_of X G z_all, PySem.W.mg_none_of X G z_zip, PySem.W.mg_none_of X G z_dict, PySem.W.mg_none_of X G z_bool, PySem.W.mg_none_of X G z_str, PySem.W.mg_none_of X G z_set, PySem.W.mg_none_of X G z_sorted, PySem.W.mg_none_of X G z_min, PySem.W.mg_none_of X G z_sum⟩
  have gC := PySem.W.mg_of X G aC
  have gCO := PySem.W.mg_of X G aCO
  have gCP := PySem.W.mg_of X G aCP
  obtain ⟨dm0, Fm0⟩ := Dm0
  have bm0 := Fm0.binds (ps := ["_law_script"]) fun _ _ _ _ _ _ us hl => match us, hl with | [_], _ => rfl
  obtain ⟨dm1, Fm1⟩ := Dm1
  have bm1 := Fm1.binds (ps := ["_law_script", "_law_most_so"]) fun _ _ _ _ _ _ us hl => match us, hl with | [_, _], _ => rfl
  obtain ⟨dm2, Fm2⟩ := Dm2
  have bm2 := Fm2.binds (ps := ["_law_script", "_law_k"]) fun _ _ _ _ _ _ us hl => match us, hl with | [_, _], _ => rfl
  obtain ⟨dm3, Fm3⟩ := Dm3
  have bm3 := Fm3.binds (ps := ["_law_box_here"]) fun _ _ _ _ _ _ us hl => match us, hl with | [_], _ => rfl
  obtain ⟨dc0, Fc0⟩ := Dc0
  have bc0 := Fc0.binds (ps := ["self"]) fun _ _ _ _ _ _ us hl => match us, hl with | [_], _ => rfl
  obtain ⟨dc1, Fc1⟩ := Dc1
  have bc1 := Fc1.binds (ps := ["self"]) fun _ _ _ _ _ _ us hl => match us, hl with | [_], _ => rfl
  obtain ⟨dc2, Fc2⟩ := Dc2
  have bc2 := Fc2.binds (ps := ["self", "other"]) fun _ _ _ _ _ _ us hl => match us, hl with | [_, _], _ => rfl
  obtain ⟨dnC, FnC⟩ := DiC
  have bnC : Binds K dnC ["self", "pairs"] [] := binds_full FnC (by simp) (fun T kV doc pm an cdv ct us hl => match us, hl with | [_, _], _ => ⟨_, rfl, fun its hi => match its, hi with | [_], _ => rfl⟩)
  obtain ⟨dm4, Fm4⟩ := Dm4
  have bm4 := Fm4.binds (ps := ["pairs"]) fun _ _ _ _ _ _ us hl => match us, hl with | [_], _ => rfl
  obtain ⟨dc3, Fc3⟩ := Dc3
  have bc3 := Fc3.binds (ps := ["self", "other"]) fun _ _ _ _ _ _ us hl => match us, hl with | [_, _], _ => rfl
  obtain ⟨dc4, Fc4⟩ := Dc4
  have bc4 := Fc4.binds (ps := ["self", "other"]) fun _ _ _ _ _ _ us hl => match us, hl with | [_, _], _ => rfl
  obtain ⟨dc5, Fc5⟩ := Dc5
  have bc5 := Fc5.binds (ps := ["self"]) fun _ _ _ _ _ _ us hl => match us, hl with | [_], _ => rfl
  obtain ⟨dc6, Fc6⟩ := Dc6
  have bc6 := Fc6.binds (ps := ["self"]) fun _ _ _ _ _ _ us hl => match us, hl with | [_], _ => rfl
  obtain ⟨dm5, Fm5⟩ := Dm5
  have bm5 := Fm5.binds (ps := ["pairs"]) fun _ _ _ _ _ _ us hl => match us, hl with | [_], _ => rfl
  obtain ⟨dnCO, FnCO⟩ := DiCO
  have bnCO := FnCO.binds (ps := ["self", "kind", "contents"]) fun _ _ _ _ _ _ us hl => match us, hl with | [_, _, _], _ => rfl
  obtain ⟨dc7, Fc7⟩ := Dc7
  have bc7 := Fc7.binds (ps := ["self"]) fun _ _ _ _ _ _ us hl => match us, hl with | [_], _ => rfl
  obtain ⟨dc8, Fc8⟩ := Dc8
  have bc8 := Fc8.binds (ps := ["self", "x"]) fun _ _ _ _ _ _ us hl => match us, hl with | [_, _], _ => rfl
  obtain ⟨dc9, Fc9⟩ := Dc9
  have bc9 := Fc9.binds (ps := ["self", "at"]) fun _ _ _ _ _ _ us hl => match us, hl with | [_, _], _ => rfl
  obtain ⟨dc10, Fc10⟩ := Dc10
  have bc10 := Fc10.binds (ps := ["self"]) fun _ _ _ _ _ _ us hl => match us, hl with | [_], _ => rfl
  obtain ⟨dnCP, FnCP⟩ := DiCP
  have bnCP : Binds K dnCP ["self", "counts"] [] := binds_full FnCP (by simp) (fun T kV doc pm an cdv ct us hl => match us, hl with | [_, _], _ => ⟨_, rfl, fun its hi => match its, hi with | [_], _ => rfl⟩)
  obtain ⟨dm6, Fm6⟩ := Dm6
  have bm6 := Fm6.binds (ps := ["counts"]) fun _ _ _ _ _ _ us hl => match us, hl with | [_], _ => rfl
  obtain ⟨dc11, Fc11⟩ := Dc11
  have bc11 := Fc11.binds (ps := ["self", "other"]) fun _ _ _ _ _ _ us hl => match us, hl with | [_, _], _ => rfl
  obtain ⟨dc12, Fc12⟩ := Dc12
  have bc12 := Fc12.binds (ps := ["self", "stock"]) fun _ _ _ _ _ _ us hl => match us, hl with | [_, _], _ => rfl
  obtain ⟨dc13, Fc13⟩ := Dc13
  have bc13 := Fc13.binds (ps := ["self", "stock", "ask"]) fun _ _ _ _ _ _ us hl => match us, hl with | [_, _, _], _ => rfl
  obtain ⟨dc14, Fc14⟩ := Dc14
  have bc14 := Fc14.binds (ps := ["self"]) fun _ _ _ _ _ _ us hl => match us, hl with | [_], _ => rfl
  obtain ⟨dc15, Fc15⟩ := Dc15
  have bc15 := Fc15.binds (ps := ["self"]) fun _ _ _ _ _ _ us hl => match us, hl with | [_], _ => rfl
  obtain ⟨dpOpeningContents, FpOpeningContents⟩ := DpOpeningContents
  have bpOpeningContents := FpOpeningContents.binds (ps := ["self"]) fun _ _ _ _ _ _ us hl => match us, hl with | [_], _ => rfl
  obtain ⟨dc16, Fc16⟩ := Dc16
  have bc16 := Fc16.binds (ps := ["self", "other"]) fun _ _ _ _ _ _ us hl => match us, hl with | [_, _], _ => rfl
  obtain ⟨dc17, Fc17⟩ := Dc17
  have bc17 := Fc17.binds (ps := ["self", "other"]) fun _ _ _ _ _ _ us hl => match us, hl with | [_, _], _ => rfl
  obtain ⟨dc18, Fc18⟩ := Dc18
  have bc18 := Fc18.binds (ps := ["self", "at"]) fun _ _ _ _ _ _ us hl => match us, hl with | [_, _], _ => rfl
  obtain ⟨dm7, Fm7⟩ := Dm7
  have bm7 := Fm7.binds (ps := ["_law_box_here", "_law_some"]) fun _ _ _ _ _ _ us hl => match us, hl with | [_, _], _ => rfl
  obtain ⟨dm8, Fm8⟩ := Dm8
  have bm8 := Fm8.binds (ps := ["_law_box_here", "_law_below"]) fun _ _ _ _ _ _ us hl => match us, hl with | [_, _], _ => rfl
  obtain ⟨dm9, Fm9⟩ := Dm9
  have bm9 := Fm9.binds (ps := ["_law_box_here", "_law_some"]) fun _ _ _ _ _ _ us hl => match us, hl with | [_, _], _ => rfl
  obtain ⟨dm10, Fm10⟩ := Dm10
  have bm10 := Fm10.binds (ps := ["_law_box_here", "_law_names_here", "_law_far"]) fun _ _ _ _ _ _ us hl => match us, hl with | [_, _, _], _ => rfl
  obtain ⟨dm11, Fm11⟩ := Dm11
  have bm11 := Fm11.binds (ps := ["_law_box_here", "_law_names_here", "_law_far"]) fun _ _ _ _ _ _ us hl => match us, hl with | [_, _, _], _ => rfl
  obtain ⟨dm12, Fm12⟩ := Dm12
  have bm12 := Fm12.binds (ps := ["_law_rows_so"]) fun _ _ _ _ _ _ us hl => match us, hl with | [_], _ => rfl
  obtain ⟨dm13, Fm13⟩ := Dm13
  have bm13 := Fm13.binds (ps := ["_law_box_here", "_law_names_here", "_law_far"]) fun _ _ _ _ _ _ us hl => match us, hl with | [_, _, _], _ => rfl
  obtain ⟨dm14, Fm14⟩ := Dm14
  have bm14 := Fm14.binds (ps := ["_law_box_here", "_law_names_here", "_law_far"]) fun _ _ _ _ _ _ us hl => match us, hl with | [_, _, _], _ => rfl
  obtain ⟨dm15, Fm15⟩ := Dm15
  have bm15 := Fm15.binds (ps := ["_law_box_here", "_law_names_here", "_law_below"]) fun _ _ _ _ _ _ us hl => match us, hl with | [_, _, _], _ => rfl
  obtain ⟨dm16, Fm16⟩ := Dm16
  have bm16 := Fm16.binds (ps := ["_law_numbers_so"]) fun _ _ _ _ _ _ us hl => match us, hl with | [_], _ => rfl
  obtain ⟨dm17, Fm17⟩ := Dm17
  have bm17 := Fm17.binds (ps := ["_law_pairs_so"]) fun _ _ _ _ _ _ us hl => match us, hl with | [_], _ => rfl
  obtain ⟨dm18, Fm18⟩ := Dm18
  have bm18 := Fm18.binds (ps := ["_law_box_here", "_law_rows_so", "_law_numbers_so", "_law_cap"]) fun _ _ _ _ _ _ us hl => match us, hl with | [_, _, _, _], _ => rfl
  obtain ⟨dm19, Fm19⟩ := Dm19
  have bm19 := Fm19.binds (ps := ["_law_numbers_so"]) fun _ _ _ _ _ _ us hl => match us, hl with | [_], _ => rfl
  obtain ⟨dm20, Fm20⟩ := Dm20
  have bm20 := Fm20.binds (ps := ["_law_rows_so", "_law_done", "_law_numbers_so"]) fun _ _ _ _ _ _ us hl => match us, hl with | [_, _, _], _ => rfl
  obtain ⟨dm21, Fm21⟩ := Dm21
  have bm21 := Fm21.binds (ps := ["_law_plan_so", "_law_lot_so"]) fun _ _ _ _ _ _ us hl => match us, hl with | [_, _], _ => rfl
  obtain ⟨dm22, Fm22⟩ := Dm22
  have bm22 := Fm22.binds (ps := ["_law_rows_so", "_law_done"]) fun _ _ _ _ _ _ us hl => match us, hl with | [_, _], _ => rfl
  obtain ⟨dm23, Fm23⟩ := Dm23
  have bm23 := Fm23.binds (ps := ["_law_box_here", "_law_rows_so", "_law_done", "_law_lot_so"]) fun _ _ _ _ _ _ us hl => match us, hl with | [_, _, _, _], _ => rfl
  obtain ⟨dm24, Fm24⟩ := Dm24
  have bm24 := Fm24.binds (ps := ["_law_row"]) fun _ _ _ _ _ _ us hl => match us, hl with | [_], _ => rfl
  obtain ⟨dm25, Fm25⟩ := Dm25
  have bm25 := Fm25.binds (ps := ["_law_got", "_law_due"]) fun _ _ _ _ _ _ us hl => match us, hl with | [_, _], _ => rfl
  obtain ⟨dm26, Fm26⟩ := Dm26
  have bm26 := Fm26.binds (ps := ["_law_rows_so", "_law_done", "_law_lot_so"]) fun _ _ _ _ _ _ us hl => match us, hl with | [_, _, _], _ => rfl
  obtain ⟨dm27, Fm27⟩ := Dm27
  have bm27 := Fm27.binds (ps := ["_law_names_here"]) fun _ _ _ _ _ _ us hl => match us, hl with | [_], _ => rfl
  obtain ⟨diS, FiS⟩ := DiS
  have bS : Binds K diS ["self", "kind", "lacking"] [] := FiS.binds (ps := ["self", "kind", "lacking"]) fun _ _ _ _ _ _ us hl => match us, hl with | [_, _, _], _ => rfl
  have pS : KBn K diS ["self", "kind", "lacking"] 3 [] (fun us _ => us) (fun vs _ => vs) := kbn_mk FiS (fun r _ => r) fun _ _ _ _ _ _ us ws hl hw => match us, ws, hl, hw with | [_, _, _], [], _, _ => rfl
  have qS : KBn K diS ["self", "kind", "lacking"] 1 ["lacking", "kind"] (fun us ws => us ++ ws.reverse) (fun vs zs => vs ++ zs.reverse) := kbn_mk FiS (fun r s => r.append (vals_rev s)) fun _ _ _ _ _ _ us ws hl hw => match us, ws, hl, hw with | [_], [_, _], _, _ => rfl
  have OS : ∀ base : Heap, E2 l.prog w K mg base CS "Short" "kind" "lacking" := fun base => ⟨oex_mk EfS LkS, PySem.W.mg_of X G aeS, fiS, diS, aiS, tiS, ok_iShort FiS (oex_mk EfS LkS) EfS.n1 EfS.n3, pS, qS, bS⟩
  have Lo : TxL K C := ⟨KC.oc, nC_many⟩
  have O : TxO K CO := ⟨KCO.oc, nCO_kind, nCO_pairs⟩
  have PT : TxP K CP := ⟨KCP.oc, nCP_counts⟩
  have S : TxIs K C := ⟨KC.ha, hn, ht, KC.hm, kit_cls KC.ic KC.ty (ref_type ..) KC.st⟩
  have M : TxM K C := ⟨⟨fo, q3⟩, ⟨ro, q4⟩, ⟨_, mu1⟩, ⟨_, mu2⟩, ci1⟩
  have MP : TxM K CP := ⟨⟨fo, q3⟩, ⟨ro, q4⟩, ⟨_, mu3⟩, ⟨_, mu4⟩, ci2⟩
  have Y : TxSh K mg CS := by
    refine ⟨PySem.W.mg_of X G aeS, PySem.W.exm_ref (by rw [LkS.sub, con_type]; decide +kernel) LkS.dict EfS.ty ?_, xfC_mk EfS LkS (by decide +kernel), fun x hx => ?_⟩
    · rw [LkS.sub, con_ref _ _ _ (by decide +kernel), decide_eq_true rfl]
    · simp only [List.mem_cons, List.not_mem_nil, or_false] at hx
      rcases hx with rfl | rfl
      · exact EfS.n1
      · exact EfS.n3
  refine ⟨dm0, fun s v => ?_, fun base _ _ => ?_⟩
  · obtain ⟨oc, od, kV, doc, pm, an, cdv, ct, osl, rfl, lk, hcd⟩ := Fm0.ex
    exact .of_eq rfl
  have V1 : Cal l.prog w K mg base CX0 1 "_law_cells" ["_law_script", "_law_most_so"] (spCells K) := ⟨_, _, ok_cells Fm1 T, PySem.W.mg_of X G am1, Fm1.kp, bm1⟩
  have V2 : Cal l.prog w K mg base CX0 1 "_law_box" ["_law_script", "_law_k"] (spBox K) := ⟨_, _, ok_box Fm2 T, PySem.W.mg_of X G am2, Fm2.kp, bm2⟩
  have V3 : OCal l.prog w K mg base CX0 1 C "kinds" ["self"] (spLotKinds C) := ⟨_, _, ok_lotKinds Fc1 T Lo, ac1, ic1, Fc1.kp, nc1, bc1⟩
  have V4 : OCal l.prog w K mg base CX0 2 C "pairs" ["self"] (spLotPairs C) := ⟨_, _, ok_lotPairs Fc0 T Lo V3, ac0, ic0, Fc0.kp, nc0, bc0⟩
  have V5 : Cal l.prog w K mg base CX0 1 "counted_lots" ["pairs"] (spOwnCounted K) := ⟨_, _, ok_ownCounted Fm4 T, PySem.W.mg_of X G am4, Fm4.kp, bm4⟩
  have V6 : OMk l.prog w K mg base CX0 2 C "Lot" ["self", "pairs"] (spLotInit K C) := ⟨_, _, ⟨KC.mC, aiC, iiC, KC.kc⟩, ok_lotInit FnC Lo V5, gC, bnC⟩
  have V7 : OCal l.prog w K mg base CX0 4 C (PySem.dunder Operator.Mult.info.2) ["self", "other"] (spLotMul C) := ⟨_, _, ok_lotMul Fc2 Lo V4 V6, ac2, ic2, Fc2.kp, nc2, bc2⟩
  have V8 : OCal l.prog w K mg base CX0 1 C "__eq__" ["self", "other"] (spLotEq C) := ⟨_, _, ok_lotEq Fc3 T Lo S gC, ac3, ic3, Fc3.kp, nc3, bc3⟩
  have V9 : Cal l.prog w K mg base CX0 1 "counted_lots" ["pairs"] (spOwnCountedT K) := ⟨_, _, ok_ownCountedT Fm5 T, PySem.W.mg_of X G am5, Fm5.kp, bm5⟩
  have V10 : OMk l.prog w K mg base CX0 2 C "Lot" ["self", "pairs"] (spLotInitT K C) := ⟨_, _, ⟨KC.mC, aiC, iiC, KC.kc⟩, ok_lotInitT FnC Lo V9, gC, bnC⟩
  have V11 : OCal l.prog w K mg base CX0 1 C "__len__" ["self"] (spLotLen C) := ⟨_, _, ok_lotLen Fc7 T Lo, ac7, ic7, Fc7.kp, nc7, bc7⟩
  have V12 : OCal l.prog w K mg base CX0 1 C "__contains__" ["self", "x"] (spLotContains C) := ⟨_, _, ok_lotContains Fc8 Lo, ac8, ic8, Fc8.kp, nc8, bc8⟩
  have V13 : OMk l.prog w K mg base CX0 3 CO "Opening" ["self", "kind", "contents"] (spOpInit C CO) := ⟨_, _, ⟨KCO.mC, aiCO, iiCO, KCO.kc⟩, ok_opInit FnCO T Lo O V11 V12 V4, gCO, bnCO⟩
  have V14 : OCal l.prog w K mg base CX0 5 CP "openings" ["self"] (spPlanOps l.prog w CO CP) := ⟨_, _, ok_planOps Fc6 T PT V10 V13, ac6, ic6, Fc6.kp, nc6, bc6⟩
  have V15 : OCal l.prog w K mg base CX0 1 CO "place" ["self"] (spOpPlace CO) := ⟨_, _, ok_opPlace Fc10 O, ac10, ic10, Fc10.kp, nc10, bc10⟩
  have V16 : OCal l.prog w K mg base CX0 3 CP "__getitem__" ["self", "at"] (spPlanGet l.prog w CO CP) := ⟨_, _, ok_planGet Fc9 T O PT V15, ac9, ic9, Fc9.kp, nc9, bc9⟩
  have V17 : OCal l.prog w K mg base CX0 6 CP "counts" ["self"] (spPlanCts l.prog w CO CP) := ⟨_, _, ok_planCts Fc5 PT V14 V16, ac5, ic5, Fc5.kp, nc5, bc5⟩
  have V18 : Cal l.prog w K mg base CX0 3 "counted_plans" ["counts"] (spPCounted l.prog w K CO) := ⟨_, _, ok_pCounted Fm6 T O V15, PySem.W.mg_of X G am6, Fm6.kp, bm6⟩
  have V19 : OMk l.prog w K mg base CX0 4 CP "Plan" ["self", "counts"] (spPlanInit l.prog w K CO CP) := ⟨_, _, ⟨KCP.mC, aiCP, iiCP, KCP.kc⟩, ok_planInit FnCP PT V18, gCP, bnCP⟩
  have V20 : OCal l.prog w K mg base CX0 7 CP (PySem.dunder Operator.Add.info.2) ["self", "other"] (spPlanAdd l.prog w CP) := ⟨_, _, ok_planAdd Fc4 PT V17 V19, ac4, ic4, Fc4.kp, nc4, bc4⟩
  have V21 : OCal l.prog w K mg base CX0 7 CP (PySem.dunder Operator.Mult.info.2) ["self", "other"] (spPlanMul l.prog w CP) := ⟨_, _, ok_planMul Fc11 PT V17 V19, ac11, ic11, Fc11.kp, nc11, bc11⟩
  obtain ⟨_, kV22⟩ := FunD.kbindsD (ps := ["self", "pairs"]) FnC 1 [] (fun vs ds _ => vs ++ ds) (by simp) (fun r s _ => r.append s) fun T kV doc pm an cdv ct us its ws h1 h2 h3 => match us, its, ws, h1, h2, h3 with | [_], [_], [], _, _, _ => ⟨_, rfl, rfl⟩
  have V22 : OMkK l.prog w K mg base CX0 2 C "Lot" ["self", "pairs"] [] (fun vs _ => vs ++ [.ref t0C]) (spLotInitT K C) := ⟨_, _, _, ⟨KC.mC, aiC, iiC, KC.kc⟩, ok_lotInitT FnC Lo V9, gC, kV22⟩
  have V23 : OCal l.prog w K mg base CX0 7 CP "gone" ["self"] (spPlanGone l.prog w C CP) := ⟨_, _, ok_planGone Fc14 PT O V17 V6, ac14, ic14, Fc14.kp, nc14, bc14⟩
  have V24 : OPr l.prog w K mg base CX0 4 CO "contents" (spOpContents C CO) := ⟨_, _, _, ⟨apOpeningContents, gpOpeningContents, tpOpeningContents, ⟨_, rpOpeningContents⟩⟩, ok_opContents FpOpeningContents O V10, bpOpeningContents⟩
  have V25 : OCal l.prog w K mg base CX0 7 CP "come" ["self"] (spPlanCome l.prog w C CP) := ⟨_, _, ok_planCome Fc15 PT Lo O V17 V24 V4 V6, ac15, ic15, Fc15.kp, nc15, bc15⟩
  have V26 : OCal l.prog w K mg base CX0 4 C (PySem.dunder Operator.Add.info.2) ["self", "other"] (spLotAdd C) := ⟨_, _, ok_lotAdd Fc16 Lo V4 V10, ac16, ic16, Fc16.kp, nc16, bc16⟩
  have V27 : OCal l.prog w K mg base CX0 1 C "__getitem__" ["self", "at"] (spLotGetitem C) := ⟨_, _, ok_lotGetitem Fc18 Lo, ac18, ic18, Fc18.kp, nc18, bc18⟩
  have V28 : OCal l.prog w K mg base CX0 4 C (PySem.dunder Operator.Sub.info.2) ["self", "other"] (spLotSub C) := ⟨_, _, ok_lotSub Fc17 Lo V4 V27 V6, ac17, ic17, Fc17.kp, nc17, bc17⟩
  have V29 : OCal l.prog w K mg base CX0 8 CP "left" ["self", "stock", "ask"] (spPlanLeft l.prog w C CP) := ⟨_, _, ok_planLeft Fc13 PT Lo V23 V25 V26 V28, ac13, ic13, Fc13.kp, nc13, bc13⟩
  have V30 : OCal l.prog w K mg base CX0 9 CP "after" ["self", "stock"] (spPlanAft l.prog w C CP) := ⟨_, _, ok_planAft Fc12 PT V22 S0C V29, ac12, ic12, Fc12.kp, nc12, bc12⟩
  have kV31 : KBinds K dc12 ["self", "stock"] ["stock"] g1 g1 := kb_mk Fc12 fun _ _ _ _ _ _ _ _ => rfl
  have V31 : OCalK l.prog w K mg base CX0 9 CP "after" ["self", "stock"] ["stock"] (spPlanAft l.prog w C CP) := ⟨_, _, ok_planAft Fc12 PT V22 S0C V29, ⟨ac12, ic12, Fc12.kp⟩, kV31⟩
  have V32 : Cal l.prog w K mg base CX0 1 "_law_take" ["_law_box_here", "_law_below"] spTake := ⟨_, _, ok_take Fm8 T, PySem.W.mg_of X G am8, Fm8.kp, bm8⟩
  have V33 : Cal l.prog w K mg base CX0 2 "_law_of" ["_law_box_here", "_law_some"] spOf := ⟨_, _, ok_of Fm9 T V32, PySem.W.mg_of X G am9, Fm9.kp, bm9⟩
  have V34 : Cal l.prog w K mg base CX0 3 "_law_names" ["_law_box_here", "_law_some"] spNames := ⟨_, _, ok_names Fm7 T V32 V33, PySem.W.mg_of X G am7, Fm7.kp, bm7⟩
  have V35 : Cal l.prog w K mg base CX0 1 "_law_rising" ["_law_rows_so"] (spRising K) := ⟨_, _, ok_rising Fm12 T, PySem.W.mg_of X G am12, Fm12.kp, bm12⟩
  have V36 : Cal l.prog w K mg base CX0 2 "_law_tree" ["_law_box_here", "_law_names_here", "_law_far"] (spDraw id) := ⟨_, _, ok_tree Fm11 T V32 V35, PySem.W.mg_of X G am11, Fm11.kp, bm11⟩
  have V37 : Cal l.prog w K mg base CX0 2 "_law_ways" ["_law_box_here", "_law_names_here", "_law_far"] (spDraw id) := ⟨_, _, ok_ways Fm13 T V32 V35, PySem.W.mg_of X G am13, Fm13.kp, bm13⟩
  have V38 : Cal l.prog w K mg base CX0 2 "_law_single" ["_law_box_here", "_law_names_here", "_law_far"] (spDraw id) := ⟨_, _, ok_single Fm14 T V32 V35, PySem.W.mg_of X G am14, Fm14.kp, bm14⟩
  have V39 : Cal l.prog w K mg base CX0 3 "_law_any" ["_law_box_here", "_law_names_here", "_law_far"] spAny := ⟨_, _, ok_any Fm10 T V32 V36 V37 V38, PySem.W.mg_of X G am10, Fm10.kp, bm10⟩
  have V40 : Cal l.prog w K mg base CX0 2 "_law_pairs" ["_law_numbers_so"] spPairs := ⟨_, _, ok_pairs Fm16 T V35, PySem.W.mg_of X G am16, Fm16.kp, bm16⟩
  have V41 : Cal l.prog w K mg base CX0 1 "_law_counted" ["_law_pairs_so"] (spCounted K) := ⟨_, _, ok_counted Fm17 T, PySem.W.mg_of X G am17, Fm17.kp, bm17⟩
  have V42 : Cal l.prog w K mg base CX0 3 "_law_stock" ["_law_box_here", "_law_names_here", "_law_below"] spStock := ⟨_, _, ok_stock Fm15 T V32 V33 V40 V41, PySem.W.mg_of X G am15, Fm15.kp, bm15⟩
  have V43 : Cal l.prog w K mg base CX0 1 "_law_counted" ["_law_pairs_so"] (spCountedT K) := ⟨_, _, ok_countedT Fm17 T, PySem.W.mg_of X G am17, Fm17.kp, bm17⟩
  have V44 : Cal l.prog w K mg base CX0 3 "_law_counts" ["_law_box_here", "_law_rows_so", "_law_numbers_so", "_law_cap"] spLCounts := ⟨_, _, ok_lCounts Fm18 T V32 V33 V40 V43, PySem.W.mg_of X G am18, Fm18.kp, bm18⟩
  have V45 : Cal l.prog w K mg base CX0 4 "_law_lot" ["_law_numbers_so"] (spLLot C) := ⟨_, _, ok_lLot Fm19 T V6, PySem.W.mg_of X G am19, Fm19.kp, bm19⟩
  have V46 : Cal l.prog w K mg base CX0 3 "_law_end" ["_law_rows_so", "_law_done", "_law_numbers_so"] spLEnd := ⟨_, _, ok_lend Fm20 T V40 V43, PySem.W.mg_of X G am20, Fm20.kp, bm20⟩
  have V47 : OCal l.prog w K mg base (CX l.prog w) 4 C (PySem.dunder Operator.Sub.info.2) ["self", "other"] (spLotSubX C CS) := ⟨_, _, ok_lotSubX Fc17 Lo (OS base) V4 V27, ac17, ic17, Fc17.kp, nc17, bc17⟩
  have V48 : OCal l.prog w K mg base (CX l.prog w) 8 CP "left" ["self", "stock", "ask"] (spPlanLeftX l.prog w C CP CS) := ⟨_, _, ok_planLeftX Fc13 PT Lo V23 V25 V26 V47, ac13, ic13, Fc13.kp, nc13, bc13⟩
  have V49 : OCal l.prog w K mg base (CX l.prog w) 9 CP "after" ["self", "stock"] (spPlanAftX l.prog w C CP CS) := ⟨_, _, ok_planAftX Fc12 PT V22 S0C V48, ac12, ic12, Fc12.kp, nc12, bc12⟩
  have V50 : Cal l.prog w K mg base CX0 10 "_law_told" ["_law_plan_so", "_law_lot_so"] (spTold l.prog w C CP) := ⟨_, _, ok_told Fm21 T Lo PT Y V4 V30 V49, PySem.W.mg_of X G am21, Fm21.kp, bm21⟩
  have V51 : Cal l.prog w K mg base CX0 6 "_law_plan" ["_law_rows_so", "_law_done"] (spLPlan l.prog w CP) := ⟨_, _, ok_lPlan Fm22 T V10 V13 V19, PySem.W.mg_of X G am22, Fm22.kp, bm22⟩
  have V52 : Cal l.prog w K mg base CX0 5 "_law_way" ["_law_row"] (spWay CO) := ⟨_, _, ok_way Fm24 V10 V13, PySem.W.mg_of X G am24, Fm24.kp, bm24⟩
  have V53 : Cal l.prog w K mg base CX0 0 "_law_same" ["_law_got", "_law_due"] (spSame K 0) := ⟨_, _, same0, PySem.W.mg_of X G am25, Fm25.kp, bm25⟩
  have V54 : Cal l.prog w K mg base CX0 1 "_law_same" ["_law_got", "_law_due"] (spSame K 1) := ⟨_, _, ok_same Fm25 T 0 V53, PySem.W.mg_of X G am25, Fm25.kp, bm25⟩
  have V55 : Cal l.prog w K mg base CX0 2 "_law_same" ["_law_got", "_law_due"] (spSame K 2) := ⟨_, _, ok_same Fm25 T 1 V54, PySem.W.mg_of X G am25, Fm25.kp, bm25⟩
  have V56 : Cal l.prog w K mg base CX0 3 "_law_same" ["_law_got", "_law_due"] (spSame K 3) := ⟨_, _, ok_same Fm25 T 2 V55, PySem.W.mg_of X G am25, Fm25.kp, bm25⟩
  have V57 : Cal l.prog w K mg base CX0 4 "_law_same" ["_law_got", "_law_due"] (spSame K 4) := ⟨_, _, ok_same Fm25 T 3 V56, PySem.W.mg_of X G am25, Fm25.kp, bm25⟩
  have V58 : Cal l.prog w K mg base CX0 11 "_law_walked" ["_law_box_here", "_law_rows_so", "_law_done", "_law_lot_so"] (spWalked C) := ⟨_, _, ok_walked Fm23 T Lo PT V52 V19 V30 V4 V27 V50 V33 V57, PySem.W.mg_of X G am23, Fm23.kp, bm23⟩
  have V59 : Cal l.prog w K mg base CX0 10 "_law_batched" ["_law_rows_so", "_law_done", "_law_lot_so"] (spBatched C) := ⟨_, _, ok_batched Fm26 T Lo PT V52 V19 V30 V4, PySem.W.mg_of X G am26, Fm26.kp, bm26⟩
  have V60 : Cal l.prog w K mg base CX0 11 "_law_by_hand_right" ["_law_names_here"] spHandR := ⟨_, _, ok_handR Fm27 T (PySem.W.mg_none_of X G z_max) V6 V51 V50 V57, PySem.W.mg_of X G am27, Fm27.kp, bm27⟩
  have V61 : Cal l.prog w K mg base CX0 12 "_law_right" ["_law_box_here"] (spRight ()) := ⟨_, _, ok_right Fm3 T Lo PT M MP V4 V7 V8 V20 V21 V30 V31 V34 V39 V42 V43 V44 V45 V40 V46 V50 V51 V58 V59 V57 V60 V33 V32, PySem.W.mg_of X G am3, Fm3.kp, bm3⟩
  exact ok_law Fm0 T V1 V2 V61
theorem walk {l : PySem.W.OpenLaw} {q : Program} {loose : List Str} {XP : (Str → Option Value) → Heap → Prop} {YP : World → Heap → Prop} {d : DefRec} {K : Params → PySem.W.Frag} (hn : l.most = some 63) (hdf : d.params.defaults = [])
    (hY : ∀ (w : World) (h : Heap), YP w h → (K w.params).In h)
    (F : ∀ (w : World) (mg : Str → Option Value) (fa : Addr) (h : Heap), (K w.params).In h → h.Ns mainGlobals mg → mg d.name = some (.ref fa) →
      ∃ fd : FuncData, (∀ (s : Shared) (u : Value), BindsTo s fd ⟨[u], []⟩ [("_law_script", u)]) ∧ ∀ base : Heap, (K w.params).In base → base.Ns mainGlobals mg → FnOk l.prog w (K w.params) mg base CX0 13 fa fd ["_law_script"] (spLaw (K w.params))) :
    PySem.W.WalkO q loose XP YP l.row.toRowW d [] (fun f vs => PySem.call f vs) :=
  L2.walk_of (n := 63) (k := 13) (x := "_law_script") (CX := fun _ => CX0) (sp := fun w => spLaw (K w.params)) hn (by decide) hdf ⟨rfl, by decide, by decide⟩ hY F (fun _ _ a ns hl _ hS => ⟨a, ns, rfl, hS, hl, fun _ => rfl⟩) fun _ _ _ _ _ z => z
end My
open PySem PySem.W PyProof.Rows
set_option maxHeartbeats 0 in
theorem PySem.Challenge.cw_onceopened_k72_whole_ends_in_any_order_holds : PySem.Challenge.rw_onceopened_k72_whole_ends_in_any_order.Holds := by
  w_on
  o_law
  k_head
  (case hw => w_witness2)
  k_fill
  refine My.walk (l := PySem.Challenge.rw_onceopened_k72_whole_ends_in_any_order) rfl rfl (fun w h Y => PySem.W.kIn_of Y) ?F
  case F =>
    intro w mg fa h KX G hmg
    refine' My.all_mk KX G hmg ?aC ?KC ?nC_many ?aCO ?KCO ?nCO_kind ?nCO_pairs ?aCP ?KCP ?nCP_counts ?am0 ?Dm0 ?am1 ?Dm1 ?am2 ?Dm2 ?am3 ?Dm3 ?ac0 ?ic0 ?nc0 ?Dc0 ?ac1 ?ic1 ?nc1 ?Dc1 ?ac2 ?ic2 ?nc2 ?Dc2 ?aiC ?iiC ?DiC ?S0C ?am4 ?Dm4 ?ac3 ?ic3 ?nc3 ?Dc3 ?ac4 ?ic4 ?nc4 ?Dc4 ?ac5 ?ic5 ?nc5 ?Dc5 ?ac6 ?ic6 ?nc6 ?Dc6 ?am5 ?Dm5 ?aiCO ?iiCO ?DiCO ?ac7 ?ic7 ?nc7 ?Dc7 ?ac8 ?ic8 ?nc8 ?Dc8 ?ac9 ?ic9 ?nc9 ?Dc9 ?ac10 ?ic10 ?nc10 ?Dc10 ?aiCP ?iiCP ?DiCP ?S0CP ?am6 ?Dm6 ?ac11 ?ic11 ?nc11 ?Dc11 ?ac12 ?ic12 ?nc12 ?Dc12 ?ac13 ?ic13 ?nc13 ?Dc13 ?ac14 ?ic14 ?nc14 ?Dc14 ?ac15 ?ic15 ?nc15 ?Dc15 ?apOpeningContents ?rpOpeningContents ?gpOpeningContents ?tpOpeningContents ?DpOpeningContents ?ac16 ?ic16 ?nc16 ?Dc16 ?ac17 ?ic17 ?nc17 ?Dc17 ?ac18 ?ic18 ?nc18 ?Dc18 ?am7 ?Dm7 ?am8 ?Dm8 ?am9 ?Dm9 ?am10 ?Dm10 ?am11 ?Dm11 ?am12 ?Dm12 ?am13 ?Dm13 ?am14 ?Dm14 ?am15 ?Dm15 ?am16 ?Dm16 ?am17 ?Dm17 ?am18 ?Dm18 ?am19 ?Dm19 ?am20 ?Dm20 ?am21 ?Dm21 ?am22 ?Dm22 ?am23 ?Dm23 ?am24 ?Dm24 ?am25 ?Dm25 ?am26 ?Dm26 ?am27 ?Dm27 ?aeS ?EfS ?LkS ?aiS ?tiS ?DiS ?q3 ?q4 ?mu1 ?mu2 ?mu3 ?mu4 ?ci1 ?ci2 ?hn ?ht ?z_int ?z_len ?z_abs ?z_list ?z_tuple ?z_range ?z_enumerate ?z_isinstance ?z_all ?z_zip ?z_dict ?z_bool ?z_str ?z_set ?z_sorted ?z_min ?z_sum ?z_max
    (case aC => k_is)
    (case aCO => k_is)
    (case aCP => k_is)
    (case am0 => k_is)
    (case am1 => k_is)
    (case am2 => k_is)
    (case am3 => k_is)
    (case am4 => k_is)
    (case am5 => k_is)
    (case am6 => k_is)
    (case am7 => k_is)
    (case am8 => k_is)
    (case am9 => k_is)
    (case am10 => k_is)
    (case am11 => k_is)
    (case am12 => k_is)
    (case am13 => k_is)
    (case am14 => k_is)
    (case am15 => k_is)
    (case am16 => k_is)
    (case am17 => k_is)
    (case am18 => k_is)
    (case am19 => k_is)
    (case am20 => k_is)
    (case am21 => k_is)
    (case am22 => k_is)
    (case am23 => k_is)
    (case am24 => k_is)
    (case am25 => k_is)
    (case am26 => k_is)
    (case am27 => k_is)
    (case aeS => k_is)
    (case ac0 => k_is)
    (case ac1 => k_is)
    (case ac2 => k_is)
    (case aiC => k_is)
    (case ac3 => k_is)
    (case ac4 => k_is)
    (case ac5 => k_is)
    (case ac6 => k_is)
    (case aiCO => k_is)
    (case ac7 => k_is)
    (case ac8 => k_is)
    (case ac9 => k_is)
    (case ac10 => k_is)
    (case aiCP => k_is)
    (case ac11 => k_is)
    (case ac12 => k_is)
    (case ac13 => k_is)
    (case ac14 => k_is)
    (case ac15 => k_is)
    (case apOpeningContents => k_is)
    (case rpOpeningContents => k_is)
    (case ac16 => k_is)
    (case ac17 => k_is)
    (case ac18 => k_is)
    (case aiS => k_is)
    (case q3 => k_is)
    (case q4 => k_is)
    (case mu1 => k_is)
    (case mu2 => k_is)
    (case mu3 => k_is)
    (case mu4 => k_is)
    (case KC => (refine' ⟨?_, ?_, ?_, ?_, ?_, ?_, ?_, ?_, ?_, ?_, ?_, ?_, ?_, ?_, ?_, ?_⟩ <;> k_is))
    (case nC_many => k_is)
    (case KCO => (refine' ⟨?_, ?_, ?_, ?_, ?_, ?_, ?_, ?_, ?_, ?_, ?_, ?_, ?_, ?_, ?_, ?_⟩ <;> k_is))
    (case nCO_kind => k_is)
    (case nCO_pairs => k_is)
    (case KCP => (refine' ⟨?_, ?_, ?_, ?_, ?_, ?_, ?_, ?_, ?_, ?_, ?_, ?_, ?_, ?_, ?_, ?_⟩ <;> k_is))
    (case nCP_counts => k_is)
    (case Dm0 => (refine' My.funF ?l ?c ?k; (case l => k_is); (case c => k_is); (case k => k_is)))
    (case Dm1 => (refine' My.funF ?l ?c ?k; (case l => k_is); (case c => k_is); (case k => k_is)))
    (case Dm2 => (refine' My.funF ?l ?c ?k; (case l => k_is); (case c => k_is); (case k => k_is)))
    (case Dm3 => (refine' My.funF ?l ?c ?k; (case l => k_is); (case c => k_is); (case k => k_is)))
    (case ic0 => k_is)
    (case nc0 => k_is)
    (case Dc0 => (refine' My.funF ?l ?c ?k; (case l => k_is); (case c => k_is); (case k => k_is)))
    (case ic1 => k_is)
    (case nc1 => k_is)
    (case Dc1 => (refine' My.funF ?l ?c ?k; (case l => k_is); (case c => k_is); (case k => k_is)))
    (case ic2 => k_is)
    (case nc2 => k_is)
    (case Dc2 => (refine' My.funF ?l ?c ?k; (case l => k_is); (case c => k_is); (case k => k_is)))
    (case iiC => k_is)
    (case DiC => (refine' My.funDF ?l ?c ?t ?k; (case l => k_is); (case c => k_is); (case t => k_is); (case k => k_is)))
    (case S0C => (refine' My.sq0 ?l; (case l => k_is)))
    (case Dm4 => (refine' My.funF ?l ?c ?k; (case l => k_is); (case c => k_is); (case k => k_is)))
    (case ic3 => k_is)
    (case nc3 => k_is)
    (case Dc3 => (refine' My.funF ?l ?c ?k; (case l => k_is); (case c => k_is); (case k => k_is)))
    (case ic4 => k_is)
    (case nc4 => k_is)
    (case Dc4 => (refine' My.funF ?l ?c ?k; (case l => k_is); (case c => k_is); (case k => k_is)))
    (case ic5 => k_is)
    (case nc5 => k_is)
    (case Dc5 => (refine' My.funF ?l ?c ?k; (case l => k_is); (case c => k_is); (case k => k_is)))
    (case ic6 => k_is)
    (case nc6 => k_is)
    (case Dc6 => (refine' My.funF ?l ?c ?k; (case l => k_is); (case c => k_is); (case k => k_is)))
    (case Dm5 => (refine' My.funF ?l ?c ?k; (case l => k_is); (case c => k_is); (case k => k_is)))
    (case iiCO => k_is)
    (case DiCO => (refine' My.funF ?l ?c ?k; (case l => k_is); (case c => k_is); (case k => k_is)))
    (case ic7 => k_is)
    (case nc7 => k_is)
    (case Dc7 => (refine' My.funF ?l ?c ?k; (case l => k_is); (case c => k_is); (case k => k_is)))
    (case ic8 => k_is)
    (case nc8 => k_is)
    (case Dc8 => (refine' My.funF ?l ?c ?k; (case l => k_is); (case c => k_is); (case k => k_is)))
    (case ic9 => k_is)
    (case nc9 => k_is)
    (case Dc9 => (refine' My.funF ?l ?c ?k; (case l => k_is); (case c => k_is); (case k => k_is)))
    (case ic10 => k_is)
    (case nc10 => k_is)
    (case Dc10 => (refine' My.funF ?l ?c ?k; (case l => k_is); (case c => k_is); (case k => k_is)))
    (case iiCP => k_is)
    (case DiCP => (refine' My.funDF ?l ?c ?t ?k; (case l => k_is); (case c => k_is); (case t => k_is); (case k => k_is)))
    (case S0CP => (refine' My.sq0 ?l; (case l => k_is)))
    (case Dm6 => (refine' My.funF ?l ?c ?k; (case l => k_is); (case c => k_is); (case k => k_is)))
    (case ic11 => k_is)
    (case nc11 => k_is)
    (case Dc11 => (refine' My.funF ?l ?c ?k; (case l => k_is); (case c => k_is); (case k => k_is)))
    (case ic12 => k_is)
    (case nc12 => k_is)
    (case Dc12 => (refine' My.funF ?l ?c ?k; (case l => k_is); (case c => k_is); (case k => k_is)))
    (case ic13 => k_is)
    (case nc13 => k_is)
    (case Dc13 => (refine' My.funF ?l ?c ?k; (case l => k_is); (case c => k_is); (case k => k_is)))
    (case ic14 => k_is)
    (case nc14 => k_is)
    (case Dc14 => (refine' My.funF ?l ?c ?k; (case l => k_is); (case c => k_is); (case k => k_is)))
    (case ic15 => k_is)
    (case nc15 => k_is)
    (case Dc15 => (refine' My.funF ?l ?c ?k; (case l => k_is); (case c => k_is); (case k => k_is)))
    (case gpOpeningContents => k_is)
    (case tpOpeningContents => k_is)
    (case DpOpeningContents => (refine' My.funF ?l ?c ?k; (case l => k_is); (case c => k_is); (case k => k_is)))
    (case ic16 => k_is)
    (case nc16 => k_is)
    (case Dc16 => (refine' My.funF ?l ?c ?k; (case l => k_is); (case c => k_is); (case k => k_is)))
    (case ic17 => k_is)
    (case nc17 => k_is)
    (case Dc17 => (refine' My.funF ?l ?c ?k; (case l => k_is); (case c => k_is); (case k => k_is)))
    (case ic18 => k_is)
    (case nc18 => k_is)
    (case Dc18 => (refine' My.funF ?l ?c ?k; (case l => k_is); (case c => k_is); (case k => k_is)))
    (case Dm7 => (refine' My.funF ?l ?c ?k; (case l => k_is); (case c => k_is); (case k => k_is)))
    (case Dm8 => (refine' My.funF ?l ?c ?k; (case l => k_is); (case c => k_is); (case k => k_is)))
    (case Dm9 => (refine' My.funF ?l ?c ?k; (case l => k_is); (case c => k_is); (case k => k_is)))
    (case Dm10 => (refine' My.funF ?l ?c ?k; (case l => k_is); (case c => k_is); (case k => k_is)))
    (case Dm11 => (refine' My.funF ?l ?c ?k; (case l => k_is); (case c => k_is); (case k => k_is)))
    (case Dm12 => (refine' My.funF ?l ?c ?k; (case l => k_is); (case c => k_is); (case k => k_is)))
    (case Dm13 => (refine' My.funF ?l ?c ?k; (case l => k_is); (case c => k_is); (case k => k_is)))
    (case Dm14 => (refine' My.funF ?l ?c ?k; (case l => k_is); (case c => k_is); (case k => k_is)))
    (case Dm15 => (refine' My.funF ?l ?c ?k; (case l => k_is); (case c => k_is); (case k => k_is)))
    (case Dm16 => (refine' My.funF ?l ?c ?k; (case l => k_is); (case c => k_is); (case k => k_is)))
    (case Dm17 => (refine' My.funF ?l ?c ?k; (case l => k_is); (case c => k_is); (case k => k_is)))
    (case Dm18 => (refine' My.funF ?l ?c ?k; (case l => k_is); (case c => k_is); (case k => k_is)))
    (case Dm19 => (refine' My.funF ?l ?c ?k; (case l => k_is); (case c => k_is); (case k => k_is)))
    (case Dm20 => (refine' My.funF ?l ?c ?k; (case l => k_is); (case c => k_is); (case k => k_is)))
    (case Dm21 => (refine' My.funF ?l ?c ?k; (case l => k_is); (case c => k_is); (case k => k_is)))
    (case Dm22 => (refine' My.funF ?l ?c ?k; (case l => k_is); (case c => k_is); (case k => k_is)))
    (case Dm23 => (refine' My.funF ?l ?c ?k; (case l => k_is); (case c => k_is); (case k => k_is)))
    (case Dm24 => (refine' My.funF ?l ?c ?k; (case l => k_is); (case c => k_is); (case k => k_is)))
    (case Dm25 => (refine' My.funF ?l ?c ?k; (case l => k_is); (case c => k_is); (case k => k_is)))
    (case Dm26 => (refine' My.funF ?l ?c ?k; (case l => k_is); (case c => k_is); (case k => k_is)))
    (case Dm27 => (refine' My.funF ?l ?c ?k; (case l => k_is); (case c => k_is); (case k => k_is)))
    (case EfS => (refine' ⟨?_, ?_, ?_, ?_, ?_, ?_, ?_, ?_, ?_, ?_, ?_⟩ <;> k_is))
    (case LkS => (refine' My.lk_mk (x := ?x); (case x => k_is)))
    (case tiS => k_is)
    (case DiS => (refine' My.funF ?l ?c ?k; (case l => k_is); (case c => k_is); (case k => k_is)))
    (case ci1 => k_is)
    (case ci2 => k_is)
    (case hn => k_is)
    (case ht => k_is)
    (case z_int => k_is)
    (case z_len => k_is)
    (case z_abs => k_is)
    (case z_list => k_is)
    (case z_tuple => k_is)
    (case z_range => k_is)
    (case z_enumerate => k_is)
    (case z_isinstance => k_is)
    (case z_all => k_is)
    (case z_zip => k_is)
    (case z_dict => k_is)
    (case z_bool => k_is)
    (case z_str => k_is)
    (case z_set => k_is)
    (case z_sorted => k_is)
    (case z_min => k_is)
    (case z_sum => k_is)
    (case z_max => k_is)

