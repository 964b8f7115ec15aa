import PyProof.Rows.All
import Wide.All
import OpenK.AllK
import Wide.FinOn
import HandS.ForMost
import HandS.Wide
import HandS.Flow
import HandS.Style
import HandS.IsInst
import HandS.Walk
import HandS.Evl
import HandS.Zip
import HandS.Codes
import HandS.TupLe
import KE.KOpsOwn
import HandS.ForExc
import HandS.OwnEq
import HandS.TupSets
import HandS.SetKeys
import HandS.Strs
import HandS.TupAny
import PySem.Challenge.RW_onceopened_k54_books_as_texts
import HandS.Defaults
import HandS.Exc
import HandS.ExcOwn
import HandS.ExcBuiltin
import HandS.RaiseMore
import HandS.Small
import HandS.List
import HandS.DictComp
import PyProof.Rows.RuleN_abs
import PyProof.AutoIntG2
import PyProof.TwoTypes
import HandS.Text
import HandS.Property
import HandS.MakeKwOnly
import HandS.MakeKw
import HandS.ExcIs
import HandS.ExcValue
import HandS.ClsMeth
import HandS.ExcInit
import HandS.ExcField
import KE.KTryMore
import KE.LtData
import KE.DataCmp
import HandS.FStr
import HandS.TryOnly
import PyProof.FitsInt
import KE.KeyNested
import KE.SortData
import HandS.Conv
import HandS.Deep
import HandS.Iter
import HandS.More
set_option Elab.async false
set_option maxRecDepth 100000
set_option maxHeartbeats 4000000
/-! the readings, one step each -/
namespace My
open PySem L2
section
variable {σ : L2.St} {H H' H'' : Hp} {D : Ends} {ta tb te : TE} {tr : TA} {ts tu : TS} {tt tt2 : TT} {i j : Nat} {a b p : Addr} {x y v : V} {Q : VK} {K : PySem.W.Frag}
theorem r_seq (h : ts { D with nx := tu D } σ H) : tSeq ts tu D σ H := h
theorem r_next (h : D.nx σ H) : tNext D σ H := h
theorem r_asg {g : TG} (h : te σ H fun x H1 => g x σ H1 D.nx) : tAsg te g D σ H := h
theorem r_gname {q : L2.St → Hp → Prop} (h : q (σ.set i (some x)) H) : gName i x σ H q := h
theorem r_drop (h : te σ H fun _ H1 => D.nx σ H1) : tDrop te D σ H := h
theorem r_ret (h : te σ H D.rt) : tRet te D σ H := h
theorem r_ifS (h : tt σ H fun b H1 => if b = true then ts D σ H1 else tu D σ H1) : tIfS tt ts tu D σ H := h
theorem r_if (h : tt σ H fun b H1 => if b = true then ta σ H1 Q else tb σ H1 Q) : tIf tt ta tb σ H Q := h
theorem r_op {r : R2} (h : ta σ H fun x H1 => tb σ H1 fun y H2 => r x y H2 Q) : tOp r ta tb σ H Q := h
theorem r_un {r : V → Hp → VK → Prop} (h : ta σ H fun x H1 => r x H1 Q) : tUn r ta σ H Q := h
theorem r_cb {r : List V → Hp → VK → Prop} (h : tr σ H fun vs H1 => r vs H1 Q) : tCB r tr σ H Q := h
theorem r_cons {q : List V → Hp → Prop} (h : ta σ H fun x H1 => tr σ H1 fun xs H2 => q (x :: xs) H2) : tCons ta tr σ H q := h
theorem r_nil {q : List V → Hp → Prop} (h : q [] H) : tNil σ H q := h
theorem r_var (e : σ[i]? = some (some v)) (h : Q v H) : tVar i σ H Q := ⟨v, e, h⟩
theorem r_c (h : Q v H) : tC v σ H Q := h
theorem r_test {q : Bool → Hp → Prop} (h : te σ H fun x H' => ∃ k, x = .bl k ∧ q k H') : tTest te σ H q := h
theorem r_B {q : Bool → Hp → Prop} (h : te σ H fun x H' => ∃ k, x = .bl k ∧ q k H') : tB te σ H q := h
theorem r_not {q : Bool → Hp → Prop} (h : tt σ H fun c H' => q (!c) H') : tNot tt σ H q := h
theorem r_and {q : Bool → Hp → Prop} (h : tt σ H fun c H1 => if c = true then tt2 σ H1 q else q false H1) : tAnd tt tt2 σ H q := h
theorem r_or {q : Bool → Hp → Prop} (h : tt σ H fun c H1 => if c = true then q true H1 else tt2 σ H1 q) : tOr tt tt2 σ H q := h
theorem r_andV (h : ta σ H fun x H1 => ∃ c, x = .bl c ∧ if c = true then tb σ H1 Q else Q (.bl false) H1) : tAndV ta tb σ H Q := h
theorem r_orV (h : ta σ H fun x H1 => ∃ c, x = .bl c ∧ if c = true then Q (.bl true) H1 else tb σ H1 Q) : tOrV ta tb σ H Q := h
theorem r_notV (h : ta σ H fun x H1 => ∃ c, x = .bl c ∧ Q (.bl (!c)) H1) : tNotV ta σ H Q := h
theorem r_I0 {g : Int → Int → V} {i j : Int} (h : Q (g i j) H) : rI0 g (.int i) (.int j) H Q := ⟨i, j, rfl, rfl, h⟩
theorem r_I {C : Int → Int → Prop} {g : Int → Int → V} {i j : Int} (c : C i j) (h : Q (g i j) H) : rI C g (.int i) (.int j) H Q := ⟨i, j, rfl, rfl, c, h⟩
theorem r_U {g : Int → V} {i : Int} (h : Q (g i) H) : rU g (.int i) H Q := ⟨i, rfl, h⟩
theorem r_ixL {xs : List V} {i : Int} (hp : SqL K H p xs) (hi : atI xs i = some v) (h : Q v H) : rIxL K (.ref p) (.int i) H Q := ⟨p, xs, i, v, rfl, rfl, hp, hi, h⟩
theorem r_ixT {xs : List V} {i : Int} (hp : SqT K H p xs) (hi : atI xs i = some v) (h : Q v H) : rIxT K (.ref p) (.int i) H Q := ⟨p, xs, i, v, rfl, rfl, hp, hi, h⟩
theorem r_ixS {z : Str} {i : Int} {c : Nat} (hz : z.length ≤ sizeLine) (hi : atI z.cps.toList i = some c) (h : Q (.str ⟨#[c]⟩) H) : rIxS (.str z) (.int i) H Q := ⟨z, i, c, rfl, rfl, hz, hi, h⟩
theorem r_gsub {to ti : TE} {t : TSet} {q : L2.St → Hp → Prop} (h : to σ H fun o H1 => ti σ H1 fun i H2 => t o i v H2 fun H3 => q σ H3) : gSub to ti t v σ H q := h
theorem r_setL {xs : List V} {k : Int} {q : Hp → Prop} (hp : H p = some (.lst xs)) (hj : ixN xs.length k = some j) (h : q (upd H p (.lst (xs.set j v)))) : rSetL (.ref p) (.int k) v H q := ⟨p, xs, k, j, rfl, rfl, hp, hj, h⟩
theorem r_eq (hs : scal x y = true) (h : Q (.bl (decide (x = y))) H) : rEq x y H Q := ⟨hs, h⟩
theorem r_ne (hs : scal x y = true) (h : Q (.bl (!decide (x = y))) H) : rNe x y H Q := ⟨hs, h⟩
theorem r_tup (h : tr σ H fun xs H1 => xs.length ≤ sizeLine ∧ ∀ p, H1 p = none → Q (.ref p) (upd H1 p (.tup xs))) : tTup tr σ H Q := h
theorem r_lst (h : tr σ H fun xs H1 => xs.length ≤ sizeLine ∧ ∀ p, H1 p = none → Q (.ref p) (upd H1 p (.lst xs))) : tLst tr σ H Q := h
theorem r_bm {T : String} {r : V → List V → Hp → VK → Prop} (h : ta σ H fun x H1 => tyV K T x H1 ∧ tr σ H1 fun xs H2 => r x xs H2 Q) : tBM K T r ta tr σ H Q := h
/-! tests whose outcome is open -/
theorem ite_d {c A B : Prop} [Decidable c] (h1 : c → A) (h2 : ¬ c → B) : if decide c = true then A else B := ite2 (fun h => h1 (of_decide_eq_true h)) (fun h => h2 (fun z => h (decide_eq_true z)))
theorem ite_dT {c A B : Prop} [Decidable c] (hc : c) (h : A) : if decide c = true then A else B := by rw [decide_eq_true hc]; exact iteT h
theorem ite_dF {c A B : Prop} [Decidable c] (hc : ¬ c) (h : B) : if decide c = true then A else B := by rw [decide_eq_false hc]; exact iteF h
theorem ite_ndT {c A B : Prop} [Decidable c] (hc : ¬ c) (h : A) : if (!decide c) = true then A else B := by rw [decide_eq_false hc]; exact iteT h
theorem ite_ndF {c A B : Prop} [Decidable c] (hc : c) (h : B) : if (!decide c) = true then A else B := by rw [decide_eq_true hc]; exact iteF h
end
/-! frames -/
/-- all that was tracked but what stands at a is as it was -/
def Kp (a : Addr) (H H' : Hp) : Prop := ∀ c o, H c = some o → c ≠ a → H' c = some o
theorem Kp.refl (a : Addr) (H : Hp) : Kp a H H := fun _ _ h _ => h
theorem Kp.trans {a : Addr} {H H1 H2 : Hp} (h : Kp a H H1) (h' : Kp a H1 H2) : Kp a H H2 := fun c o e n => h' c o (h c o e n) n
theorem Kp.at {a c : Addr} {H H' : Hp} {o : HO} (h : Kp a H H') (e : H c = some o) (n : c ≠ a) : H' c = some o := h c o e n
theorem Kp.of {a : Addr} {H H' : Hp} (h : Same H H') : Kp a H H' := fun c o e _ => h c o e
theorem Same.at {c : Addr} {H H' : Hp} {o : HO} (h : Same H H') (e : H c = some o) : H' c = some o := h c o e
theorem upd_at {H : Hp} {a b : Addr} {o u : HO} (e : H b = some u) (n : b ≠ a) : upd H a o b = some u := (upd_ne n).trans e
theorem Kp.free {a p : Addr} {H H' : Hp} (h : Kp a H H') (e : H' p = none) (n : p ≠ a) : H p = none := by
  cases q : H p with
  | none => rfl
  | some o => rw [h p o q n] at e; cases e
end My
namespace My
open PySem L2
theorem sz {n : Nat} (h : n ≤ 100000) : n ≤ sizeLine := Nat.le_trans h (by decide)
theorem szl {n : Nat} (h : n < 100000) : n < sizeLine := Nat.lt_of_lt_of_le h (by decide)
/-! calls -/
structure Cal (P : Program) (w : World) (K : PySem.W.Frag) (mg : Str → Option Value) (base : Heap) (CX : CXT) (k : Nat) (x : Str) (ps : List Str) (sp : Sp) : Prop where
  ex : ∃ (f : Addr) (fd : FuncData), FnOk P w K mg base CX k f fd ps sp ∧ mg x = some (.ref f) ∧ PySem.W.keepIn K (.ref f) = true ∧ Binds K fd ps []
def tCal (sp : Sp) (E : XK) (t : TA) : TE := fun σ H Q => t σ H fun vs H1 => sp vs H1 Q E
section
variable {X : Cx} {CX : CXT} {k : Nat} {ps : List Str} {sp : Sp} {E : XK} {x : Str} {p pos : Pos} {e : Expr} {es : List Expr} {t : TA}
theorem pe_cal (C : Cal X.prog X.w X.K X.mg X.base CX k x ps sp) (hr : Room k X.A) (hx : Passes CX X E) (ha : PA X (e :: es) t) (hg : Gl X x := by rfl)
    (hdb : (x == ("__debug__" : Str)) = false := by decide) (he : starEach (e :: es) X.env = (false, eval e X.env) :: starEach es X.env := by rfl) (hpl : (backTo pos (starEach es X.env)).any (·.1) = false := by rfl) :
    PE X (.Call (.Name x p) (e :: es) [] pos) (tCal sp E t) := by
  obtain ⟨f, fd, F, hm, hk, hb⟩ := C.ex
  have h := pe_call (p := p) (pos := pos) F hr hg hm hk hb (dvs := []) .nil hx ha hdb he hpl
  refine ⟨fun pins s σ H Q I q => h.run pins s σ H Q I ?_⟩
  have e : (fun vs H1 => sp (vs ++ []) H1 Q E) = fun vs H1 => sp vs H1 Q E := by
    funext vs H1
    rw [List.append_nil]
  show t σ H (fun vs H1 => sp (vs ++ []) H1 Q E)
  rw [e]
  exact q
theorem r_cal {σ : L2.St} {H : Hp} {Q : VK} (h : t σ H fun vs H1 => sp vs H1 Q E) : tCal sp E t σ H Q := h
end
end My
namespace My
open PySem L2
/-! built-ins with a name of their own -/
def rLenL (K : PySem.W.Frag) : List V → Hp → VK → Prop := fun vs H Q => ∃ a xs, vs = [V.ref a] ∧ SqL K H a xs ∧ Q (.int xs.length) H
def rLenT (K : PySem.W.Frag) : List V → Hp → VK → Prop := fun vs H Q => ∃ a xs, vs = [V.ref a] ∧ SqT K H a xs ∧ Q (.int xs.length) H
def rLenS : List V → Hp → VK → Prop := fun vs H Q => ∃ z : Str, vs = [V.str z] ∧ z.length ≤ sizeLine ∧ Q (.int z.length) H
def rLenD : List V → Hp → VK → Prop := fun vs H Q => ∃ a kvs, vs = [V.ref a] ∧ H a = some (.dK kvs) ∧ Q (.int kvs.length) H
def rAbs : List V → Hp → VK → Prop := fun vs H Q => ∃ i, vs = [V.int i] ∧ Q (.int (if i < 0 then -i else i)) H
def rInt : List V → Hp → VK → Prop := fun xs H Q => (∃ i, xs = [V.int i] ∧ Q (.int i) H) ∨ ∃ k, xs = [V.bl k] ∧ Q (.int (if k then 1 else 0)) H
def rList (K : PySem.W.Frag) : List V → Hp → VK → Prop := fun xs H Q => ∃ p ys, xs = [.ref p] ∧ (SqL K H p ys ∨ SqT K H p ys) ∧ ∀ l, H l = none → Q (.ref l) (upd H l (.lst ys))
def rTupL (K : PySem.W.Frag) : List V → Hp → VK → Prop := fun xs H Q => ∃ p ys, xs = [.ref p] ∧ SqL K H p ys ∧ ∀ l, H l = none → Q (.ref l) (upd H l (.tup ys))
def rTupT (K : PySem.W.Frag) : List V → Hp → VK → Prop := fun xs H Q => ∃ p ys, xs = [.ref p] ∧ SqT K H p ys ∧ Q (.ref p) H
def rJoin (K : PySem.W.Frag) : V → List V → Hp → VK → Prop := fun x xs H Q => ∃ a p, ∃ ys : List Str, x = .str a ∧ xs = [.ref p] ∧ (SqL K H p (ys.map V.str) ∨ SqT K H p (ys.map V.str)) ∧ (ys.map (·.length)).sum + ys.length * a.length ≤ 16777216 ∧ Q (.str (Txt.join a ys)) H
def rCatS : R2 := fun x y H Q => ∃ i j, x = .str i ∧ y = .str j ∧ i.length + j.length ≤ sizeLine ∧ Q (.str (i ++ j)) H
section
variable {X : Cx}
theorem c_lenL : CallR X (.builtin "len") (rLenL X.K) := fun pins s σ H xs us Q I r ⟨a, ys, e, h, q⟩ => call_len pins s σ H xs us Q I r ⟨.ref a, ys.length, e, Or.inl ⟨ys, h, rfl⟩, q⟩
theorem c_lenT : CallR X (.builtin "len") (rLenT X.K) := fun pins s σ H xs us Q I r ⟨a, ys, e, h, q⟩ => call_len pins s σ H xs us Q I r ⟨.ref a, ys.length, e, Or.inr ⟨ys, h, rfl⟩, q⟩
theorem c_lenS : CallR X (.builtin "len") rLenS := fun pins s σ H xs us Q I r ⟨z, e, h, q⟩ => call_len pins s σ H xs us Q I r ⟨.str z, z.length, e, ⟨h, rfl⟩, q⟩
theorem c_lenD : CallR X (.builtin "len") rLenD := call_lenD
theorem c_abs : CallR X (.builtin "abs") rAbs := call_abs
theorem c_int : CallR X (.type "int") rInt := call_int1
theorem c_list : CallR X (.type "list") (rList X.K) := call_list_of
theorem c_tupL : CallR X (.type "tuple") (rTupL X.K) := fun pins s σ H xs us Q I r ⟨a, ys, e, h, q⟩ => call_tuple_of pins s σ H xs us Q I r ⟨a, ys, e, Or.inl ⟨h, q⟩⟩
theorem m_join : MtR X "str.join" (rJoin X.K) := mt_join
theorem o_catS : OpR X (binaryOp .Add) rCatS := op_add_str
theorem pe_joinR {o e : Expr} {to te : TE} {apos pos : Pos} (ho : PE X o to) (he : PE X e te) (hs : starEach [e] X.env = [(false, eval e X.env)] := by rfl) (hbase : attributeBase o "join" X.env (eval o X.env) = eval o X.env := by rfl) (hline : (apos.endLine == pos.line) = true := by rfl) :
    PE X (.Call (.Attribute o "join" apos) [e] [] pos) (tM1 (rJoin X.K) to te) := pe_m1 PySem.F.slot_str_join PySem.F.type_str_join m_join ho he hs hbase hline
end
section
variable {σ : L2.St} {H : Hp} {Q : VK} {K : PySem.W.Frag} {a p : Addr} {xs : List V} {x y v : V} {D : Ends}
theorem r_lenL (h : SqL K H a xs) (q : Q (.int xs.length) H) : rLenL K [.ref a] H Q := ⟨a, xs, rfl, h, q⟩
theorem r_lenT (h : SqT K H a xs) (q : Q (.int xs.length) H) : rLenT K [.ref a] H Q := ⟨a, xs, rfl, h, q⟩
theorem r_lenS {z : Str} (h : z.length ≤ sizeLine) (q : Q (.int z.length) H) : rLenS [.str z] H Q := ⟨z, rfl, h, q⟩
theorem r_lenD {kvs : List (Key × V)} (h : H a = some (.dK kvs)) (q : Q (.int kvs.length) H) : rLenD [.ref a] H Q := ⟨a, kvs, rfl, h, q⟩
theorem r_abs {i : Int} (q : Q (.int (if i < 0 then -i else i)) H) : rAbs [.int i] H Q := ⟨i, rfl, q⟩
theorem r_intI {i : Int} (q : Q (.int i) H) : rInt [.int i] H Q := .inl ⟨i, rfl, q⟩
theorem r_intB {k : Bool} (q : Q (.int (if k then 1 else 0)) H) : rInt [.bl k] H Q := .inr ⟨k, rfl, q⟩
theorem r_list (h : SqL K H p xs ∨ SqT K H p xs) (q : ∀ l, H l = none → Q (.ref l) (upd H l (.lst xs))) : rList K [.ref p] H Q := ⟨p, xs, rfl, h, q⟩
theorem r_tupL (h : SqL K H p xs) (q : ∀ l, H l = none → Q (.ref l) (upd H l (.tup xs))) : rTupL K [.ref p] H Q := ⟨p, xs, rfl, h, q⟩
theorem r_tupT (h : SqT K H p xs) (q : Q (.ref p) H) : rTupT K [.ref p] H Q := ⟨p, xs, rfl, h, q⟩
theorem r_join {b : Str} {ys : List Str} (h : SqL K H p (ys.map V.str)) (l : (ys.map (·.length)).sum + ys.length * b.length ≤ 16777216) (q : Q (.str (Txt.join b ys)) H) : rJoin K (.str b) [.ref p] H Q := ⟨b, p, ys, rfl, rfl, .inl h, l, q⟩
theorem r_m1 {r : V → List V → Hp → VK → Prop} {to te : TE} (h : to σ H fun x H1 => (∃ a, x = .str a) ∧ te σ H1 fun y H2 => r x [y] H2 Q) : tM1 r to te σ H Q := h
theorem r_catS {i j : Str} (l : i.length + j.length ≤ sizeLine) (q : Q (.str (i ++ j)) H) : rCatS (.str i) (.str j) H Q := ⟨i, j, rfl, rfl, l, q⟩
theorem r_cat {l b : Addr} {xs zs : List V} (h1 : H l = some (.lst xs)) (h2 : H b = some (.lst zs)) (h3 : xs.length + zs.length ≤ sizeLine) (q : ∀ p, H p = none → Q (.ref p) (upd H p (.lst (xs ++ zs)))) : rCat (.ref l) (.ref b) H Q := ⟨l, b, xs, zs, rfl, rfl, h1, h2, h3, q⟩
theorem r_slL {lo hi : Option Int} (h : SqL K H a xs) (q : ∀ p, H p = none → Q (.ref p) (upd H p (.lst (cutV xs lo hi)))) : rSlL K (.ref a) lo hi H Q := ⟨a, xs, rfl, h, q⟩
theorem r_slS {z : Str} {lo hi : Option Int} (h : z.length ≤ sizeLine) (q : Q (.str (cutS z lo hi)) H) : rSlS (.str z) lo hi H Q := ⟨z, rfl, h, q⟩
theorem r_append {l : Addr} (h : H l = some (.lst xs)) (hl : xs.length < sizeLine) (q : Q .non (upd H l (.lst (xs ++ [y])))) : rAppend (.ref l) [y] H Q := ⟨l, xs, y, rfl, rfl, h, hl, q⟩
theorem r_all {bs : List Bool} (h : SqL K H a (bs.map V.bl)) (q : Q (.bl (bs.all id)) H) : rAll K [.ref a] H Q := ⟨a, bs, rfl, h, q⟩
theorem r_sum {ns : List Int} (h : SqL K H a (ns.map V.int)) (q : Q (.int ns.sum) H) : rSum K [.ref a] H Q := ⟨a, ns, rfl, h, q⟩
theorem r_dnewK (q : ∀ p, H p = none → Q (.ref p) (upd H p (.dK []))) : tDNewK σ H Q := q
end
/-! the box -/
/-- the box: three ints, its draws' count with the room b below a line -/
def Bx (H : Hp) (a : Addr) (b : Nat) : Prop := ∃ x y z : Int, H a = some (.lst [.int x, .int y, .int z]) ∧ 0 ≤ x ∧ 0 ≤ y ∧ y < 3000000000000000000 ∧ 0 ≤ z ∧ z + b ≤ 1000000000
theorem Bx.mono {H : Hp} {a : Addr} {b c : Nat} (h : Bx H a b) (l : c ≤ b) : Bx H a c := by
  obtain ⟨x, y, z, h1, h2, h3, h4, h5, h6⟩ := h
  exact ⟨x, y, z, h1, h2, h3, h4, h5, by omega⟩
theorem Bx.hp {H : Hp} {a : Addr} {b : Nat} (h : Bx H a b) : ∃ o, H a = some o := let ⟨_, _, _, h1, _⟩ := h; ⟨_, h1⟩
theorem Bx.ne {H : Hp} {a p : Addr} {b : Nat} (h : Bx H a b) (hp : H p = none) : a ≠ p := let ⟨_, e⟩ := h.hp; ne_of_none e hp
theorem Bx.upd {H : Hp} {a p : Addr} {b : Nat} {o : HO} (h : Bx H a b) (hp : a ≠ p) : Bx (L2.upd H p o) a b := by
  obtain ⟨x, y, z, h1, h2⟩ := h
  exact ⟨x, y, z, upd_at h1 hp, h2⟩
theorem Bx.same {H H' : Hp} {a : Addr} {b : Nat} (h : Bx H a b) (e : Same H H') : Bx H' a b := by
  obtain ⟨x, y, z, h1, h2⟩ := h
  exact ⟨x, y, z, e _ _ h1, h2⟩
end My
namespace My
open PySem L2
section
variable {σ : L2.St} {H : Hp} {Q : VK} {q : Option Int → Hp → Prop} {te : TE} {tl th : TO}
theorem r_slice {r : V → Option Int → Option Int → Hp → VK → Prop} (h : te σ H fun x H1 => tl σ H1 fun l H2 => th σ H2 fun u H3 => r x l u H3 Q) : tSl r te tl th σ H Q := h
theorem r_part (h : te σ H fun x H1 => ∃ i, x = .int i ∧ q (some i) H1) : tPart te σ H q := h
theorem r_nopart (h : q none H) : tNoPart σ H q := h
end
end My
namespace My
open PySem L2
end My
namespace My
open PySem L2
theorem noxK {CX : CXT} {P : Program} {w : World} {K : PySem.W.Frag} {mg : Str → Option Value} {base : Heap} {N : List Str} {qual : Str} {scope : Scope} {f : Addr} {cd : Value} {A : Around} {outer : List Env} {s : Shared} {H : Hp} {E : XK} : (cxOf CX P w K mg base N qual scope f cd A outer s H E).nox.K = K := rfl
theorem cxK {CX : CXT} {P : Program} {w : World} {K : PySem.W.Frag} {mg : Str → Option Value} {base : Heap} {N : List Str} {qual : Str} {scope : Scope} {f : Addr} {cd : Value} {A : Around} {outer : List Env} {s : Shared} {H : Hp} {E : XK} : (cxOf CX P w K mg base N qual scope f cd A outer s H E).K = K := rfl
end My
namespace My
open PySem L2
section
variable {σ : L2.St} {H : Hp} {Q : VK} {K : PySem.W.Frag} {R : It → Hp → Prop} {tl : TE} {ta : TA} {D : Ends} {wi : TI} {g : TG} {tb : TS} {a : Addr} {xs : List V} {j : Int}
theorem r_for (h : wi σ H fun J H1 => ∃ W : Nat → Nat → L2.St → Hp → Prop, (∃ m, W 0 m σ H1) ∧ ∀ i m σ H, W i m σ H →
  (J.stop i H ∧ D.nx σ H) ∨ (J.go i H ∧ ∃ N : L2.St → Hp → Prop, (∀ σ' H', N σ' H' → ∃ m', m' < m ∧ W (i + 1) m' σ' H') ∧ ∀ x H', J.yld i H x H' → g x σ H' fun σ2 H2 => tb { D with nx := N, ct := N, bk := D.nx } σ2 H2)) : tFor wi g tb D σ H := h
theorem r_lc {tt : TT} {te : TE} {vs : List Nat} (h : wi σ H fun J H1 => ∀ D, H1 D = none → ∃ W : Nat → Nat → Hp → Prop, (∃ m, W 0 m (upd H1 D (.lst []))) ∧ ∀ i m H, W i m H →
  (J.stop i H ∧ Q (.ref D) H) ∨ (J.go i H ∧ ∃ Nx : Hp → Prop, (∀ H', Nx H' → ∃ m', m' < m ∧ W (i + 1) m' H') ∧ ∀ x H', J.yld i H x H' → g x (wipe σ vs) H' fun σ2 H2 => wipe σ2 vs = wipe σ vs ∧ tt σ2 H2 fun b H3 =>
    if b = true then te σ2 H3 fun y H4 => ∃ acc, H4 D = some (.lst acc) ∧ acc.length < sizeLine ∧ Nx (upd H4 D (.lst (acc ++ [y]))) else Nx H3)) : tLc wi g tt te vs σ H Q := h
theorem r_iList (h : tl σ H fun x H1 => ∃ a, x = .ref a ∧ (∃ xs, SqL K H1 a xs) ∧ R (Itl K a) H1) : iList K tl σ H R := h
theorem r_iTup (h : tl σ H fun x H1 => ∃ a, x = .ref a ∧ (∃ xs, SqT K H1 a xs) ∧ R (Itt K a) H1) : iTup K tl σ H R := h
theorem r_wLst {B : Prop} (h : SqL K H a xs) (q : B) : (∃ xs, SqL K H a xs) ∧ B := ⟨⟨xs, h⟩, q⟩
theorem r_wTup {B : Prop} (h : SqT K H a xs) (q : B) : (∃ xs, SqT K H a xs) ∧ B := ⟨⟨xs, h⟩, q⟩
theorem r_iRng1 (h : ta σ H fun vs H1 => ∃ j : Int, vs = [.int j] ∧ -(2 ^ 62) ≤ j ∧ j < 2 ^ 62 ∧ R (Itr 0 j.toNat) H1) : iRng1 ta σ H R := h
theorem r_wRng {B : Prop} (h1 : -(2 ^ 62) ≤ j ∧ j < 2 ^ 62) (q : B) : -(2 ^ 62) ≤ j ∧ j < 2 ^ 62 ∧ B := ⟨h1.1, h1.2, q⟩
theorem r_iEnum (h : ta σ H fun vs H1 => ∃ a xs, vs = [.ref a] ∧ SqL K H1 a xs ∧ R (Ite K a) H1) : iEnum K ta σ H R := h
theorem r_orT {ta tb : TE} (h : ta σ H fun x H1 => ∃ k, TruV K x H1 k ∧ if k = true then Q x H1 else tb σ H1 Q) : tOrT K ta tb σ H Q := h
theorem r_truL {P : Bool → Prop} (h : SqL K H a xs) (q : P (!xs.isEmpty)) : ∃ k, TruV K (.ref a) H k ∧ P k := ⟨_, Or.inl ⟨xs, h, rfl⟩, q⟩
/-! slices -/
theorem cutV_to (xs : List V) (k : Nat) : cutV xs none (some (k : Int)) = xs.take k := by
  unfold cutV
  rw [HT.sIx_none, HT.sIx_nat, List.drop_zero, Nat.sub_zero]
  by_cases h : k ≤ xs.length
  · rw [Nat.min_eq_left h]
  · rw [Nat.min_eq_right (by omega), List.take_length, List.take_of_length_le (by omega)]
theorem cutV_from (xs : List V) (k : Nat) : cutV xs (some (k : Int)) none = xs.drop k := by
  unfold cutV
  rw [HT.sIx_none, HT.sIx_nat]
  by_cases h : k ≤ xs.length
  · rw [Nat.min_eq_left h, List.take_of_length_le (by rw [List.length_drop]; omega)]
  · rw [Nat.min_eq_right (by omega), List.drop_length, List.drop_of_length_le (by omega), List.take_nil]
theorem cutV_mid (xs : List V) (i j : Nat) : cutV xs (some (i : Int)) (some (j : Int)) = (xs.drop i).take (j - i) := by
  unfold cutV
  rw [HT.sIx_nat, HT.sIx_nat]
  by_cases h : i ≤ xs.length
  · rw [Nat.min_eq_left h]
    by_cases h2 : j ≤ xs.length
    · rw [Nat.min_eq_left h2]
    · rw [Nat.min_eq_right (by omega), List.take_of_length_le (i := j - i) (by rw [List.length_drop]; omega), List.take_of_length_le (by rw [List.length_drop]; omega)]
  · rw [Nat.min_eq_right (a := i) (by omega), List.drop_length, List.drop_of_length_le (by omega), List.take_nil, List.take_nil]
theorem cutS_to (z : Str) (k : Nat) : (cutS z none (some (k : Int))).cps.toList = z.cps.toList.take k := by
  have hz : z.length = z.cps.toList.length := by rw [Array.length_toList]; rfl
  show ((z.cps.toList.drop (HT.sIx z.length 0 none)).take (HT.sIx z.length z.length (some (k : Int)) - HT.sIx z.length 0 none)).toArray.toList = _
  rw [List.toList_toArray, HT.sIx_none, HT.sIx_nat, List.drop_zero, Nat.sub_zero, hz]
  by_cases h : k ≤ z.cps.toList.length
  · rw [Nat.min_eq_left h]
  · rw [Nat.min_eq_right (by omega), List.take_length, List.take_of_length_le (by omega)]
theorem cutS_from (z : Str) (k : Nat) : (cutS z (some (k : Int)) none).cps.toList = z.cps.toList.drop k := by
  have hz : z.length = z.cps.toList.length := by rw [Array.length_toList]; rfl
  show ((z.cps.toList.drop (HT.sIx z.length 0 (some (k : Int)))).take (HT.sIx z.length z.length none - HT.sIx z.length 0 (some (k : Int)))).toArray.toList = _
  rw [List.toList_toArray, HT.sIx_none, HT.sIx_nat, hz]
  by_cases h : k ≤ z.cps.toList.length
  · rw [Nat.min_eq_left h, List.take_of_length_le (by rw [List.length_drop]; omega)]
  · rw [Nat.min_eq_right (by omega), List.drop_length, List.drop_of_length_le (by omega), List.take_nil]
end
end My
namespace My
open PySem L2
section
variable {σ : L2.St} {H : Hp} {K : PySem.W.Frag} {a p : Addr} {xs : List V} {R : Prop} {S : Addr → Prop}
theorem r_exb {b : Bool} {q : Bool → Prop} (h : q b) : ∃ k, V.bl b = V.bl k ∧ q k := ⟨b, rfl, h⟩
theorem r_exi {i : Int} {q : Int → Prop} (h : q i) : ∃ k, V.int i = V.int k ∧ q k := ⟨i, rfl, h⟩
theorem r_exr {q : Addr → Prop} (h : q a) : ∃ k, V.ref a = V.ref k ∧ q k := ⟨a, rfl, h⟩
theorem r_exs {z : Str} {q : Str → Prop} (h : q z) : ∃ k, V.str z = V.str k ∧ q k := ⟨z, rfl, h⟩
theorem r_exli {i : Int} {q : Int → Prop} (h : q i) : ∃ k, [V.int i] = [V.int k] ∧ q k := ⟨i, rfl, h⟩
theorem r_strV {z : Str} (h : R) : (∃ a, V.str z = .str a) ∧ R := ⟨⟨z, rfl⟩, h⟩
theorem r_tyL (h : SqL K H p xs) (q : R) : tyV K "list" (.ref p) H ∧ R := ⟨.inl ⟨rfl, xs, h⟩, q⟩
theorem r_disp {n : Nat} (h : n ≤ 100000) (q : ∀ p, S p) : n ≤ sizeLine ∧ ∀ p, S p := ⟨sz h, q⟩
end
end My
namespace My
open PySem L2
section
variable {σ : L2.St} {H : Hp} {K : PySem.W.Frag} {a : Addr} {x : V} {xs : List V} {g : TG} {gs : TGs} {n : Nat} {Q : L2.St → Hp → Prop}
theorem r_gtup (h : SqT K H a xs) (hl : xs.length = n) (q : gs xs σ H Q) : gTup K n gs (.ref a) σ H Q := ⟨a, xs, rfl, h, hl, q⟩
theorem r_gcons (q : g x σ H fun σ' H' => gs xs σ' H' Q) : gCons g gs (x :: xs) σ H Q := ⟨x, xs, rfl, q⟩
theorem r_gnil (q : Q σ H) : gNil [] σ H Q := ⟨rfl, q⟩
theorem ite01 (k : Bool) : (0 : Int) ≤ (if k = true then 1 else 0) := by cases k <;> decide
end
end My
namespace My
open PySem L2
theorem ixN_lt {n j : Nat} (h : j < n) : ixN n (j : Int) = some j := by
  unfold ixN
  rw [if_pos (by omega), if_pos (by omega), Int.toNat_natCast]
theorem map_get {xs : List Int} {j : Nat} (h : j < xs.length) : (xs.map V.int)[j]? = some (V.int xs[j]) := by rw [List.getElem?_map, List.getElem?_eq_getElem h]; rfl
theorem map_some {α : Type} {f : α → V} {xs : List α} {i : Nat} {v : V} (h : (xs.map f)[i]? = some v) : ∃ c, v = f c ∧ xs[i]? = some c := by
  rw [List.getElem?_map] at h
  cases e : xs[i]? with
  | none => rw [e] at h; cases h
  | some c => rw [e] at h; exact ⟨c, (Option.some.inj h).symm, rfl⟩
end My
namespace My
open PySem L2
section
variable {σ : L2.St} {H : Hp} {D : Ends} {ta : TA} {i j l : Nat}
theorem r_par (h : ta σ H fun vs H1 => ∃ v w, vs = [v, w] ∧ D.nx ((σ.set i (some v)).set j (some w)) H1) : tPar i j ta D σ H := h
theorem r_par3 (h : ta σ H fun vs H1 => ∃ u v w, vs = [u, v, w] ∧ D.nx (((σ.set i (some u)).set j (some v)).set l (some w)) H1) : tPar3 i j l ta D σ H := h
theorem r_ex2 {v w : V} {q : V → V → Prop} (h : q v w) : ∃ a b, [v, w] = [a, b] ∧ q a b := ⟨v, w, rfl, h⟩
theorem r_ex3 {u v w : V} {q : V → V → V → Prop} (h : q u v w) : ∃ a b c, [u, v, w] = [a, b, c] ∧ q a b c := ⟨u, v, w, rfl, h⟩
end
end My
namespace My
open PySem L2
section
variable {K : PySem.W.Frag} {H H' : Hp} {a b p : Addr} {xs : List V} {o : HO} {n : Nat}
theorem Rd_upd {u : HO} (h : Rd H a u) (hp : H p = none) : Rd (upd H p o) a u := by
  rcases h with h | ⟨w, h⟩
  · exact .inl (upd_at h (ne_of_none h hp))
  · exact .inr ⟨w, upd_at h (ne_of_none h hp)⟩
theorem SqT.upd (h : SqT K H a xs) (hp : H p = none) : SqT K (L2.upd H p o) a xs := h.elim (fun h => .inl (Rd_upd h hp)) .inr
theorem SqL.upd (h : SqL K H a xs) (hp : H p = none) : SqL K (L2.upd H p o) a xs := h.elim (fun h => .inl (Rd_upd h hp)) .inr
theorem SqT.same (h : SqT K H a xs) (e : Same H H') : SqT K H' a xs := by
  rcases h with (h | ⟨o, h⟩) | h
  · exact .inl (.inl (e _ _ h))
  · exact .inl (.inr ⟨o, e _ _ h⟩)
  · exact .inr h
theorem SqT.kp (h : SqT K H a xs) (k : Kp b H H') (x : Bx H b n) : SqT K H' a xs := by
  obtain ⟨_, _, _, hb, _⟩ := x
  rcases h with (h | ⟨o, h⟩) | h
  · exact .inl (.inl (k _ _ h (ne_of h hb (by intro z; cases z))))
  · exact .inl (.inr ⟨o, k _ _ h (ne_of h hb (by intro z; cases z))⟩)
  · exact .inr h
theorem SqL.kp (h : SqL K H a xs) (k : Kp b H H') (ne : a ≠ b) : SqL K H' a xs := by
  rcases h with (h | ⟨o, h⟩) | h
  · exact .inl (.inl (k _ _ h ne))
  · exact .inl (.inr ⟨o, k _ _ h ne⟩)
  · exact .inr h
end
theorem perm_out {α : Type} (ys rs : List α) {j : Nat} (h : j < rs.length) : ((ys ++ [rs[j]]) ++ (rs.take j ++ rs.drop (j + 1))).Perm (ys ++ rs) := by
  rw [List.append_assoc]
  refine List.Perm.append_left ys ?_
  have e : rs = rs.take j ++ rs[j] :: rs.drop (j + 1) := by rw [List.getElem_cons_drop, List.take_append_drop]
  have e2 : ([rs[j]] ++ (rs.take j ++ rs.drop (j + 1))).Perm (rs.take j ++ rs[j] :: rs.drop (j + 1)) := by
    show (rs[j] :: (rs.take j ++ rs.drop (j + 1))).Perm _
    exact List.perm_middle.symm
  exact e2.trans (List.Perm.of_eq e.symm)
end My
namespace My
open PySem L2
section
variable {H : Hp} {Q : VK} {K : PySem.W.Frag} {x : V} {p : Addr} {T c c1 c2 : String} {b b1 b2 : Bool}
theorem r_isi (b : Bool) (ty : TyX K H x (.type T)) (e : kitB T c = some b) (q : Q (.bl b) H) : rIsi K [x, .ty c] H Q := ⟨x, .ty c, .type T, .type c, b, rfl, .ty c, ty, kit_ty e, q⟩
theorem r_isiT (b1 b2 : Bool) (ty : TyX K H x (.type T)) (hp : H p = some (.tup [.ty c1, .ty c2])) (e1 : kitB T c1 = some b1) (e2 : kitB T c2 = some b2) (q : Q (.bl (b1 || b2)) H) : rIsiT K [x, .ref p] H Q :=
  ⟨x, p, [.ty c1, .ty c2], .type T, [.type c1, .type c2], b1 || b2, rfl, hp, .cons (.ty c1) (.cons (.ty c2) .nil), ty, by
    refine kitAny_cons (kit_ty e1) (fun z => ?_) (fun z => by rw [z]; rfl)
    rw [z]
    exact kitAny_cons (kit_ty e2) (fun z => by rw [z]; exact kitAny_nil) (fun z => by rw [z]; rfl), q⟩
def rIsN : R2 := fun x y H Q => y = .non ∧ Q (.bl (decide (x = .non))) H
def rNotN : R2 := fun x y H Q => y = .non ∧ Q (.bl (!decide (x = .non))) H
theorem o_isN {X : Cx} : OpR X (compareOp .Is) rIsN := op_isN
theorem o_notN {X : Cx} : OpR X (compareOp .IsNot) rNotN := op_notN
theorem r_isN (q : Q (.bl (decide (x = .non))) H) : rIsN x .non H Q := ⟨rfl, q⟩
theorem r_notN (q : Q (.bl (!decide (x = .non))) H) : rNotN x .non H Q := ⟨rfl, q⟩
theorem tyL {K : PySem.W.Frag} {a : Addr} {xs : List V} (h : H a = some (.lst xs)) : TyX K H (.ref a) (.type "list") := .base (.lst h)
theorem tyT {K : PySem.W.Frag} {a : Addr} {xs : List V} (h : H a = some (.tup xs)) : TyX K H (.ref a) (.type "tuple") := .base (.tup h)
end
end My
namespace My
open PySem L2
theorem r_iZipA {σ : L2.St} {H : Hp} {K : PySem.W.Frag} {ta : TA} {R : It → Hp → Prop} (h : ta σ H fun vs H1 => ∃ a b xs ys, vs = [.ref a, .ref b] ∧ ((SqL K H1 a xs ∧ SqL K H1 b ys ∧ R (Itz K a b) H1) ∨ (SqT K H1 a xs ∧ SqT K H1 b ys ∧ R (RZ.ItzT K a b) H1))) : RZ.iZipA K ta σ H R := h
end My
namespace My
open PySem L2
section
variable {X : Cx}
theorem opK {f : Value → Value → Sem Value} {r : PySem.W.Frag → R2} (K : PySem.W.Frag) (h : OpR X f (r X.K)) (e : X.K = K := by rfl) : OpR X f (r K) := by subst e; exact h
theorem ixK {r : PySem.W.Frag → R2} (K : PySem.W.Frag) (h : IxR X (r X.K)) (e : X.K = K := by rfl) : IxR X (r K) := by subst e; exact h
end
end My

namespace My
open PySem L2
abbrev cds (z : Str) : List Nat := z.cps.toList
def AllL (l : List Nat) : Prop := ∀ c ∈ l, 97 ≤ c ∧ c ≤ 122
/-- one small letter -/
def Lt1 (s : Str) : Prop := ∃ c, s = ⟨#[c]⟩ ∧ 97 ≤ c ∧ c ≤ 122
def KindS (s : Str) : Prop := 1 ≤ (cds s).length ∧ (cds s).length ≤ 8 ∧ AllL (cds s)
theorem len_cds (z : Str) : z.length = (cds z).length := by
  rw [Array.length_toList]
  rfl
theorem joinL_nil : ∀ ps : List (List Nat), TL.joinL [] ps = ps.flatten
  | [] => rfl
  | [p] => by rw [List.flatten_cons, List.flatten_nil, List.append_nil]; rfl
  | p :: q :: r => by
    rw [List.flatten_cons, ← joinL_nil (q :: r)]
    rfl
theorem cds_join (ys : List Str) : cds (Txt.join (Str.ofString "") ys) = (ys.map cds).flatten := by
  rw [TL.join_eq]
  have e := TL.tl_join (Str.ofString "") ys
  have e0 : TL.tl (Str.ofString "") = [] := by decide +kernel
  rw [e0, joinL_nil] at e
  exact e
theorem flat_len : ∀ (ys : List Str), (∀ s ∈ ys, Lt1 s) → ((ys.map cds).flatten.length = ys.length ∧ AllL (ys.map cds).flatten)
  | [], _ => ⟨rfl, fun c h => by simp at h⟩
  | y :: r, h => by
    obtain ⟨h1, h2⟩ := flat_len r fun s hs => h s (List.mem_cons_of_mem _ hs)
    obtain ⟨c, rfl, c1, c2⟩ := h y List.mem_cons_self
    rw [List.map_cons, List.flatten_cons, List.length_append, h1, List.length_cons]
    refine ⟨Nat.add_comm _ _, fun d hd => ?_⟩
    rcases List.mem_append.mp hd with hd | hd
    · have : d = c := by simpa using hd
      subst this
      exact ⟨c1, c2⟩
    · exact h2 d hd
theorem sum_len : ∀ (ys : List Str), (∀ s ∈ ys, Lt1 s) → (ys.map (·.length)).sum = ys.length
  | [], _ => rfl
  | y :: r, h => by
    obtain ⟨c, rfl, _⟩ := h y List.mem_cons_self
    rw [List.map_cons, List.sum_cons, sum_len r fun s hs => h s (List.mem_cons_of_mem _ hs), List.length_cons]
    exact Nat.add_comm 1 _
theorem letters_at : ∀ j : Nat, j < 26 → (cds (Str.ofString "abcdefghijklmnopqrstuvwxyz"))[j]? = some (97 + j) := by decide +kernel
theorem empty_len : (Str.ofString "").length = 0 := by decide +kernel
theorem letters_len : (Str.ofString "abcdefghijklmnopqrstuvwxyz").length = 26 := by decide +kernel
/-- a name as the law draws it: a letter of its own at a place that hangs on its size -/
def NameAt (w : Str) (p c : Nat) : Prop := 1 ≤ (cds w).length ∧ (cds w).length ≤ 8 ∧ (cds w)[p % (cds w).length]? = some c ∧ AllL (cds w)
theorem NameAt.kind {w : Str} {p c : Nat} (h : NameAt w p c) : KindS w := ⟨h.1, h.2.1, h.2.2.2⟩
def steps : List Nat := [1, 3, 5, 7, 9, 11, 15, 17, 19, 21, 23, 25]
theorem names_nodup {p f s : Nat} (hs : s ∈ steps) {ws : List Str} (hl : ws.length ≤ 13) (h : ∀ (k : Nat) (w : Str), ws[k]? = some w → NameAt w p (97 + (f + s * k) % 26)) : ws.Nodup := by
  refine List.pairwise_iff_getElem.mpr fun i j hi hj hij e => ?_
  have h1 := h i ws[i] (List.getElem?_eq_getElem hi)
  have h2 := h j ws[j] (List.getElem?_eq_getElem hj)
  rw [e] at h1
  have e2 := h1.2.2.1.symm.trans h2.2.2.1
  have e3 := Option.some.inj e2
  unfold steps at hs
  simp only [List.mem_cons, List.not_mem_nil, or_false] at hs
  rcases hs with rfl | rfl | rfl | rfl | rfl | rfl | rfl | rfl | rfl | rfl | rfl | rfl <;> omega
/-- a word with one letter put in -/
theorem put_letter {w w' : Str} {c p n : Nat} (hw : (cds w).length = n) (ha : AllL (cds w)) (hn : 1 ≤ n ∧ n ≤ 8) (hc : 97 ≤ c ∧ c ≤ 122) (e : cds w' = (cds w).take (p % n) ++ [c] ++ (cds w).drop (p % n + 1)) : NameAt w' p c := by
  have hp : p % n < n := Nat.mod_lt _ (by omega)
  have hl : (cds w').length = n := by
    rw [e, List.length_append, List.length_append, List.length_take, List.length_drop, hw]
    show min (p % n) n + 1 + (n - (p % n + 1)) = n
    omega
  refine ⟨by omega, by omega, ?_, fun d hd => ?_⟩
  · rw [hl, e, List.append_assoc, List.getElem?_append_right (by rw [List.length_take, hw]; omega), List.length_take, hw, Nat.min_eq_left (by omega), Nat.sub_self]
    rfl
  · rw [e] at hd
    rcases List.mem_append.mp hd with hd | hd
    · rcases List.mem_append.mp hd with hd | hd
      · exact ha d (List.mem_of_mem_take hd)
      · have : d = c := by simpa using hd
        subst this
        exact hc
    · exact ha d (List.mem_of_mem_drop hd)
theorem cds_app (a b : Str) : cds (a ++ b) = cds a ++ cds b := by
  show (a.cps ++ b.cps).toList = _
  rw [Array.toList_append]
section
variable {σ : L2.St} {H : Hp} {Q : VK}
theorem r_yes {q : Bool → Hp → Prop} (h : q true H) : tYes σ H q := h
/-- one of the letters -/
theorem r_ixSl {d : Nat} (h : d < 26 ∧ Q (.str ⟨#[97 + d]⟩) H) : rIxS (.str (Str.ofString "abcdefghijklmnopqrstuvwxyz")) (.int (d : Int)) H Q :=
  r_ixS (sz (by rw [letters_len]; decide)) (atI_nat (letters_at d h.1)) h.2
end
theorem cds_to (z : Str) (k : Nat) : cds (cutS z none (some (k : Int))) = (cds z).take k := cutS_to z k
theorem cds_from (z : Str) (k : Nat) : cds (cutS z (some (k : Int)) none) = (cds z).drop k := cutS_from z k
end My

namespace My
open PySem L2
/-! the order of texts, of pairs (text, number) -/
def sle (s t : Str) : Bool := !decide (cds t < cds s)
theorem sle_iff {s t : Str} : sle s t = true ↔ cds s ≤ cds t := by
  unfold sle
  rw [Bool.not_eq_true', decide_eq_false_iff_not, List.not_lt]
theorem sle_total (s t : Str) : sle s t = true ∨ sle t s = true := by
  rw [sle_iff, sle_iff]
  exact List.le_total _ _
theorem sle_trans {s t u : Str} (h : sle s t = true) (h' : sle t u = true) : sle s u = true := by
  rw [sle_iff] at *
  exact List.le_trans h h'
theorem str_ext {s t : Str} (h : cds s = cds t) : s = t := by
  obtain ⟨a⟩ := s
  obtain ⟨b⟩ := t
  have e : a = b := Array.toList_inj.mp h
  rw [e]
theorem sle_anti {s t : Str} (h : sle s t = true) (h' : sle t s = true) : s = t := by
  rw [sle_iff] at *
  exact str_ext (List.le_antisymm h h')
def ple (p q : Str × Int) : Bool := if p.1 = q.1 then decide (p.2 ≤ q.2) else sle p.1 q.1
theorem ple_total (p q : Str × Int) : ple p q = true ∨ ple q p = true := by
  unfold ple
  by_cases e : p.1 = q.1
  · rw [if_pos e, if_pos e.symm, decide_eq_true_iff, decide_eq_true_iff]
    omega
  · rw [if_neg e, if_neg (Ne.symm e)]
    exact sle_total _ _
theorem ple_trans {p q r : Str × Int} (h : ple p q = true) (h' : ple q r = true) : ple p r = true := by
  unfold ple at *
  by_cases e : p.1 = q.1
  · rw [if_pos e, decide_eq_true_iff] at h
    by_cases e2 : q.1 = r.1
    · rw [if_pos e2, decide_eq_true_iff] at h'
      rw [if_pos (e.trans e2), decide_eq_true_iff]
      omega
    · rw [if_neg e2] at h'
      rw [if_neg (fun z => e2 (e.symm.trans z)), e]
      exact h'
  · rw [if_neg e] at h
    by_cases e2 : q.1 = r.1
    · rw [if_neg (fun z => e (z.trans e2.symm)), ← e2]
      exact h
    · rw [if_neg e2] at h'
      by_cases e3 : p.1 = r.1
      · exact absurd (sle_anti h (by rw [e3]; exact h')) e
      · rw [if_neg e3]
        exact sle_trans h h'
theorem ple_anti {p q : Str × Int} (h : ple p q = true) (h' : ple q p = true) : p = q := by
  unfold ple at *
  by_cases e : p.1 = q.1
  · rw [if_pos e, decide_eq_true_iff] at h
    rw [if_pos e.symm, decide_eq_true_iff] at h'
    exact Prod.ext e (by omega)
  · rw [if_neg e] at h
    rw [if_neg (Ne.symm e)] at h'
    exact absurd (sle_anti h h') e
/-! putting one more into a rising list -/
section
variable {α : Type} {le : α → α → Bool}
def cnt (le : α → α → Bool) (qs : List α) (p : α) : Nat := (qs.filter fun q => le q p).length
theorem put_rising (tot : ∀ p q, le p q = true ∨ le q p = true) (tr : ∀ {p q r}, le p q = true → le q r = true → le p r = true) : ∀ {qs : List α} (p : α), qs.Pairwise (fun a b => le a b = true) →
    (qs.take (cnt le qs p) ++ [p] ++ qs.drop (cnt le qs p)).Pairwise (fun a b => le a b = true) ∧ (∀ q ∈ qs.take (cnt le qs p), le q p = true) ∧ ∀ q ∈ qs.drop (cnt le qs p), le p q = true
  | [], p, _ => ⟨by simp [cnt], by simp, by simp⟩
  | q :: r, p, h => by
    obtain ⟨h1, h2⟩ := List.pairwise_cons.mp h
    by_cases c : le q p = true
    · obtain ⟨i1, i2, i3⟩ := put_rising tot tr p h2
      have e : cnt le (q :: r) p = cnt le r p + 1 := by
        unfold cnt
        rw [List.filter_cons, if_pos c, List.length_cons]
      rw [e, List.take_succ_cons, List.drop_succ_cons]
      refine ⟨?_, ?_, i3⟩
      · show (q :: (r.take (cnt le r p) ++ [p] ++ r.drop (cnt le r p))).Pairwise _
        refine List.pairwise_cons.mpr ⟨fun x hx => ?_, i1⟩
        rcases List.mem_append.mp hx with hx | hx
        · rcases List.mem_append.mp hx with hx | hx
          · exact h1 x (List.mem_of_mem_take hx)
          · have : x = p := by simpa using hx
            rw [this]
            exact c
        · exact h1 x (List.mem_of_mem_drop hx)
      · intro x hx
        rcases List.mem_cons.mp hx with rfl | hx
        · exact c
        · exact i2 x hx
    · have c' : le p q = true := (tot p q).resolve_right c
      have no : ∀ x ∈ r, ¬ le x p = true := fun x hx z => c (tr (h1 x hx) z)
      have e : cnt le (q :: r) p = 0 := by
        unfold cnt
        rw [List.filter_cons, if_neg c, List.filter_eq_nil_iff.mpr (fun x hx => no x hx)]
        rfl
      rw [e]
      refine ⟨?_, by simp, fun x hx => ?_⟩
      · show (p :: q :: r).Pairwise _
        exact List.pairwise_cons.mpr ⟨fun x hx => by
          rcases List.mem_cons.mp hx with rfl | hx
          · exact c'
          · exact tr c' (h1 x hx), h⟩
      · rcases List.mem_cons.mp hx with rfl | hx
        · exact c'
        · exact tr c' (h1 x hx)
theorem cnt_le (le : α → α → Bool) (qs : List α) (p : α) : cnt le qs p ≤ qs.length := List.length_filter_le _ _
theorem perm_in (qs : List α) (p : α) (c : Nat) : (qs.take c ++ [p] ++ qs.drop c).Perm (qs ++ [p]) := by
  have h : (qs.take c ++ [p] ++ qs.drop c).Perm ([p] ++ (qs.take c ++ qs.drop c)) := by
    rw [← List.append_assoc]
    exact List.Perm.append_right _ List.perm_append_comm
  rw [List.take_append_drop] at h
  exact h.trans List.perm_append_comm
end
/-! <= of such pairs -/
def rLeP (K : PySem.W.Frag) : R2 := fun x y H Q => ∃ (a b : Addr) (p q : Str × Int), x = .ref a ∧ y = .ref b ∧ SqT K H a [.str p.1, .int p.2] ∧ SqT K H b [.str q.1, .int q.2] ∧ Q (.bl (ple p q)) H
theorem RcOp.le_str {A : Around} {s : Shared} (a b : Str) (t u : Tok) : Ob.RcOp .LtE A s (.str a t) (.str b u) (sle a b) := fun _ _ _ _ h => PySem.P.le_str h
theorem pair_shape {p : Str × Int} {its : List Value} (r : Vals [.str p.1, .int p.2] its) : ∃ t u, its = [.str p.1 t, .int p.2 u] := by
  cases r with
  | cons r1 r =>
    cases r with
    | cons r2 r =>
      cases r
      obtain ⟨t, rfl⟩ := (show ∃ t, _ = Value.str p.1 t from r1)
      obtain ⟨u, rfl⟩ := (show ∃ t, _ = Value.int p.2 t from r2)
      exact ⟨t, u, rfl⟩
theorem o_leP {X : Cx} (hu : X.A.units < cLine) : OpR X (compareOp .LtE) (rLeP X.K) := by
  intro pins s σ H x y v u Q I rx ry h
  obtain ⟨a, b, p, q, rfl, rfl, ha, hb, q0⟩ := h
  cases rx
  cases ry
  obtain ⟨its, r1, p1, _⟩ := I.tuple ha
  obtain ⟨its2, r2, p2, _⟩ := I.tuple hb
  obtain ⟨t1, u1, rfl⟩ := pair_shape r1
  obtain ⟨t2, u2, rfl⟩ := pair_shape r2
  have R := Ob.RcOp.tuples_le (A := X.A) (s := s) (e := fun j => if j = 0 then (p.1 == q.1) else (p.2 == q.2)) (r := fun j => if j = 0 then sle p.1 q.1 else decide (p.2 ≤ q.2)) p1 p2 hu (fun j h1 h2 => by
    match j, h1, h2 with
    | 0, _, _ => exact SeqAt.EqAt.str_str _ _ _ _
    | 1, _, _ => exact SeqAt.EqAt.int_int _ _ _ _) (fun j h1 h2 _ => by
    match j, h1, h2 with
    | 0, _, _ => exact RcOp.le_str _ _ _ _
    | 1, _, _ => exact Ob.RcOp.le_int _ _ _ _)
  have e : Ob.lexAt (fun j => if j = 0 then (p.1 == q.1) else (p.2 == q.2)) (fun j => if j = 0 then sle p.1 q.1 else decide (p.2 ≤ q.2)) (decide ([Value.str p.1 t1, .int p.2 u1].toArray.size ≤ [Value.str q.1 t2, .int q.2 u2].toArray.size)) 0 (min [Value.str p.1 t1, .int p.2 u1].toArray.size [Value.str q.1 t2, .int q.2 u2].toArray.size) = ple p q := by
    show (if (p.1 == q.1) = true then (if (p.2 == q.2) = true then true else decide (p.2 ≤ q.2)) else sle p.1 q.1) = ple p q
    unfold ple
    by_cases e1 : p.1 = q.1
    · rw [if_pos (beq_iff_eq.mpr e1), if_pos e1]
      by_cases e2 : p.2 = q.2
      · rw [if_pos (beq_iff_eq.mpr e2), e2]
        exact (decide_eq_true (Int.le_refl _)).symm
      · rw [if_neg (fun z => e2 (beq_iff_eq.mp z))]
    · rw [if_neg (fun z => e1 (beq_iff_eq.mp z)), if_neg e1]
  rw [e] at R
  have z : wpAny (model X.prog X.w) X.A (compareOp .LtE (.ref a) (.ref b)) (EP X pins σ Q) X.xe s := R X.prog X.w X.xe (EP X pins σ Q) ⟨.bl _, H, I, rfl, q0⟩
  exact z
/-- a tuple of a text and a number stands there -/
def PrA (H : Hp) (x : V) (p : Str × Int) : Prop := ∃ t, x = .ref t ∧ H t = some (.tup [.str p.1, .int p.2])
theorem PrA.same {H H' : Hp} {x : V} {p : Str × Int} (h : PrA H x p) (e : Same H H') : PrA H' x p := let ⟨t, h1, h2⟩ := h; ⟨t, h1, e _ _ h2⟩
theorem PrA.all {H H' : Hp} {xs : List V} {ps : List (Str × Int)} (h : Paired (PrA H) xs ps) (e : Same H H') : Paired (PrA H') xs ps := Paired.mapP h fun _ _ z => z.same e
theorem PrA.kp {a : Addr} {b : Nat} {H H' : Hp} {x : V} {p : Str × Int} (h : PrA H x p) (e : Kp a H H') (bx : Bx H a b) : PrA H' x p := by
  obtain ⟨t, h1, h2⟩ := h
  obtain ⟨_, _, _, hb, _⟩ := bx
  exact ⟨t, h1, e _ _ h2 (ne_of h2 hb (by intro z; cases z))⟩
theorem Paired.len {α β : Type} {R : α → β → Prop} : ∀ {xs : List α} {ys : List β}, Paired R xs ys → xs.length = ys.length
  | _, _, .nil => rfl
  | _, _, .cons _ t => by rw [List.length_cons, List.length_cons, Paired.len t]
theorem Paired.at {α β : Type} {R : α → β → Prop} : ∀ {xs : List α} {ys : List β} {i : Nat} {x : α}, Paired R xs ys → xs[i]? = some x → ∃ y, ys[i]? = some y ∧ R x y
  | _, _, _, _, .nil, e => by simp at e
  | _, _, 0, _, .cons r _, e => by simp at e; subst e; exact ⟨_, rfl, r⟩
  | _, _, i + 1, x, .cons _ t, e => by
    obtain ⟨y, h1, h2⟩ := Paired.at (i := i) t (by simpa using e)
    exact ⟨y, by simpa using h1, h2⟩
theorem Paired.app {α β : Type} {R : α → β → Prop} : ∀ {xs xs' : List α} {ys ys' : List β}, Paired R xs ys → Paired R xs' ys' → Paired R (xs ++ xs') (ys ++ ys')
  | _, _, _, _, .nil, h => h
  | _, _, _, _, .cons r t, h => .cons r (Paired.app t h)
theorem Paired.tk {α β : Type} {R : α → β → Prop} : ∀ {xs : List α} {ys : List β} (n : Nat), Paired R xs ys → Paired R (xs.take n) (ys.take n)
  | _, _, 0, _ => .nil
  | _, _, _ + 1, .nil => .nil
  | _, _, n + 1, .cons r t => .cons r (Paired.tk n t)
theorem Paired.dr {α β : Type} {R : α → β → Prop} : ∀ {xs : List α} {ys : List β} (n : Nat), Paired R xs ys → Paired R (xs.drop n) (ys.drop n)
  | _, _, 0, h => h
  | _, _, _ + 1, .nil => .nil
  | _, _, n + 1, .cons _ t => Paired.dr n t
end My
namespace My
open PySem L2
theorem filter_take {α : Type} {f : α → Bool} {qs : List α} {j : Nat} {r : α} (h : qs[j]? = some r) : ((qs.take (j + 1)).filter f).length = ((qs.take j).filter f).length + (if f r = true then 1 else 0) := by
  rw [List.take_add_one, h, List.filter_append, List.length_append]
  congr 1
  show ([r].filter f).length = _
  rw [List.filter_cons]
  split <;> rfl
theorem r_leP {H : Hp} {Q : VK} {K : PySem.W.Frag} {a b : Addr} {p q : Str × Int} (ha : SqT K H a [.str p.1, .int p.2]) (hb : SqT K H b [.str q.1, .int q.2]) (h : Q (.bl (ple p q)) H) : rLeP K (.ref a) (.ref b) H Q := ⟨a, b, p, q, rfl, rfl, ha, hb, h⟩
end My

namespace My
open PySem L2
/-! a dict of texts to numbers, as its pairs -/
abbrev AL := List (Str × Int)
def enc (m : AL) : List (Key × V) := m.map fun p => (Sum.inr p.1, V.int p.2)
def look (m : AL) (k : Str) : Option Int := (m.find? fun p => decide (p.1 = k)).map (·.2)
def put (m : AL) (k : Str) (n : Int) : AL := if (m.any fun p => decide (p.1 = k)) = true then m.map (fun p => if p.1 = k then (p.1, n) else p) else m ++ [(k, n)]
def get (m : AL) (k : Str) : Int := (look m k).getD 0
def keys (m : AL) : List Str := m.map (·.1)
theorem enc_len (m : AL) : (enc m).length = m.length := List.length_map _
theorem inr_eq {a b : Str} : decide ((Sum.inr a : Key) = Sum.inr b) = decide (a = b) := key_rr a b
theorem enc_look : ∀ (m : AL) (k : Str), valV (enc m) (Sum.inr k) = (look m k).map V.int
  | [], _ => rfl
  | p :: r, k => by
    show valV ((Sum.inr p.1, V.int p.2) :: enc r) (Sum.inr k) = (look (p :: r) k).map V.int
    by_cases e : p.1 = k
    · rw [valV_pos (by rw [e])]
      unfold look
      rw [List.find?_cons, decide_eq_true e]
      rfl
    · rw [valV_neg (fun z => e (Sum.inr.inj z)), enc_look r k]
      unfold look
      rw [List.find?_cons, decide_eq_false e]
theorem enc_any (m : AL) (k : Str) : ((enc m).any fun kv => decide (kv.1 = (Sum.inr k : Key))) = (m.any fun p => decide (p.1 = k)) := by
  unfold enc
  rw [List.any_map]
  congr 1
  funext p
  exact inr_eq
theorem enc_put (m : AL) (k : Str) (n : Int) : putK (enc m) (Sum.inr k) (V.int n) = enc (put m k n) := by
  unfold putK put
  rw [enc_any]
  split
  · unfold enc
    rw [List.map_map, List.map_map]
    congr 1
    funext p
    show (if (Sum.inr p.1 : Key) = Sum.inr k then ((Sum.inr p.1 : Key), V.int n) else ((Sum.inr p.1 : Key), V.int p.2)) = _
    by_cases e : p.1 = k
    · rw [if_pos (by rw [e])]
      show _ = (Sum.inr (if p.1 = k then (p.1, n) else p).1, V.int (if p.1 = k then (p.1, n) else p).2)
      rw [if_pos e]
    · rw [if_neg (fun z => e (Sum.inr.inj z))]
      show _ = (Sum.inr (if p.1 = k then (p.1, n) else p).1, V.int (if p.1 = k then (p.1, n) else p).2)
      rw [if_neg e]
  · unfold enc
    rw [List.map_append]
    rfl
theorem look_cons (p : Str × Int) (r : AL) (k : Str) : look (p :: r) k = if p.1 = k then some p.2 else look r k := by
  unfold look
  rw [List.find?_cons]
  by_cases e : p.1 = k
  · rw [decide_eq_true e, if_pos e]
    rfl
  · rw [decide_eq_false e, if_neg e]
theorem look_none : ∀ {m : AL} {k : Str}, look m k = none ↔ k ∉ keys m
  | [], _ => by simp [look, keys]
  | p :: r, k => by
    rw [look_cons]
    show _ ↔ k ∉ p.1 :: keys r
    by_cases e : p.1 = k
    · rw [if_pos e, e]
      simp
    · rw [if_neg e, look_none, List.mem_cons, not_or]
      exact ⟨fun h => ⟨Ne.symm e, h⟩, fun h => h.2⟩
theorem any_look (m : AL) (k : Str) : (m.any fun p => decide (p.1 = k)) = true ↔ k ∈ keys m := by
  rw [List.any_eq_true]
  constructor
  · rintro ⟨p, hp, e⟩
    exact List.mem_map.mpr ⟨p, hp, of_decide_eq_true e⟩
  · intro h
    obtain ⟨p, hp, e⟩ := List.mem_map.mp h
    exact ⟨p, hp, decide_eq_true e⟩
theorem keys_put (m : AL) (k : Str) (n : Int) : keys (put m k n) = if k ∈ keys m then keys m else keys m ++ [k] := by
  unfold put
  by_cases h : k ∈ keys m
  · rw [if_pos ((any_look m k).mpr h), if_pos h]
    unfold keys
    rw [List.map_map]
    congr 1
    funext p
    show (if p.1 = k then (p.1, n) else p).1 = p.1
    split <;> rfl
  · rw [if_neg (fun z => h ((any_look m k).mp z)), if_neg h]
    unfold keys
    rw [List.map_append]
    rfl
theorem put_nodup {m : AL} {k : Str} {n : Int} (h : (keys m).Nodup) : (keys (put m k n)).Nodup := by
  rw [keys_put]
  split
  · exact h
  · exact nd_snoc h (by assumption)
theorem put_len (m : AL) (k : Str) (n : Int) : (put m k n).length ≤ m.length + 1 := by
  have e : (put m k n).length = (keys (put m k n)).length := (List.length_map _).symm
  rw [e, keys_put]
  have e2 : (keys m).length = m.length := List.length_map _
  split
  · omega
  · rw [List.length_append]
    show (keys m).length + 1 ≤ _
    omega
theorem look_map (m : AL) (k j : Str) (n : Int) : look (m.map (fun p => if p.1 = k then (p.1, n) else p)) j = if j = k then (if k ∈ keys m then some n else none) else look m j := by
  induction m with
  | nil =>
    show none = _
    split
    · rw [if_neg (by simp [keys])]
    · rfl
  | cons p r ih =>
    rw [List.map_cons, look_cons, ih, look_cons]
    show (if (if p.1 = k then (p.1, n) else p).1 = j then some (if p.1 = k then (p.1, n) else p).2 else _) = if j = k then (if k ∈ p.1 :: keys r then some n else none) else _
    by_cases e : p.1 = k
    · rw [if_pos e]
      by_cases ej : j = k
      · subst ej
        rw [if_pos e, if_pos rfl, if_pos (by rw [e]; exact List.mem_cons_self)]
      · rw [if_neg (fun z : p.1 = j => ej (z.symm.trans e)), if_neg ej, if_neg ej, if_neg (fun z : p.1 = j => ej (z.symm.trans e))]
    · rw [if_neg e]
      by_cases ej : j = k
      · subst ej
        rw [if_neg e, if_pos rfl, if_pos rfl]
        by_cases hk : j ∈ keys r
        · rw [if_pos hk, if_pos (List.mem_cons_of_mem _ hk)]
        · rw [if_neg hk, if_neg (fun z => (List.mem_cons.mp z).elim (fun q => e q.symm) hk)]
      · rw [if_neg ej, if_neg ej]
theorem look_app (m : AL) (k j : Str) (n : Int) : look (m ++ [(k, n)]) j = (look m j).or (if k = j then some n else none) := by
  induction m with
  | nil =>
    show look [(k, n)] j = _
    rw [look_cons]
    rfl
  | cons p r ih =>
    rw [List.cons_append, look_cons, ih, look_cons]
    split <;> rfl
theorem look_put (m : AL) (k j : Str) (n : Int) : look (put m k n) j = if j = k then some n else look m j := by
  unfold put
  by_cases h : k ∈ keys m
  · rw [if_pos ((any_look m k).mpr h), look_map, if_pos h]
  · rw [if_neg (fun z => h ((any_look m k).mp z)), look_app]
    by_cases e : j = k
    · subst e
      rw [look_none.mpr h, if_pos rfl]
      rfl
    · rw [if_neg (Ne.symm e), if_neg e]
      cases look m j <;> rfl
theorem get_put (m : AL) (k j : Str) (n : Int) : get (put m k n) j = if j = k then n else get m j := by
  unfold get
  rw [look_put]
  split <;> rfl
theorem look_mem : ∀ {m : AL} {k : Str} {n : Int}, (keys m).Nodup → (look m k = some n ↔ (k, n) ∈ m)
  | [], _, _, _ => by simp [look]
  | p :: r, k, n, h => by
    obtain ⟨h1, h2⟩ := List.nodup_cons.mp (show (p.1 :: keys r).Nodup from h)
    rw [look_cons]
    by_cases e : p.1 = k
    · rw [if_pos e, List.mem_cons]
      constructor
      · intro z
        left
        have z := Option.some.inj z
        exact Prod.ext e.symm z.symm
      · rintro (z | z)
        · rw [← z]
        · exact absurd (List.mem_map.mpr ⟨_, z, rfl⟩ : k ∈ keys r) (by rw [← e]; exact h1)
    · rw [if_neg e, look_mem h2, List.mem_cons]
      exact ⟨.inr, fun z => z.resolve_left fun q => e (by rw [← q])⟩
theorem nodup_of_keys {m : AL} (h : (keys m).Nodup) : m.Nodup := List.Pairwise.of_map (fun p => p.1) (fun _ _ q z => q (by rw [z])) h
/-- the pairs above 0 -/
def pos (m : AL) : AL := m.filter fun p => decide (0 < p.2)
theorem mem_pos {m : AL} (h : (keys m).Nodup) {k : Str} {n : Int} : (k, n) ∈ pos m ↔ get m k = n ∧ 0 < n := by
  unfold pos
  rw [List.mem_filter, ← look_mem h]
  unfold get
  constructor
  · rintro ⟨h1, h2⟩
    rw [h1]
    exact ⟨rfl, of_decide_eq_true h2⟩
  · rintro ⟨h1, h2⟩
    cases e : look m k with
    | none => rw [e] at h1; have : (0 : Int) = n := h1; omega
    | some v =>
      rw [e] at h1
      have : v = n := h1
      rw [this]
      exact ⟨rfl, decide_eq_true h2⟩
theorem pos_perm {m m' : AL} (h : (keys m).Nodup) (h' : (keys m').Nodup) (e : ∀ k, 0 < get m k ∨ 0 < get m' k → get m k = get m' k) : (pos m).Perm (pos m') := by
  refine (List.perm_ext_iff_of_nodup ((nodup_of_keys h).filter _) ((nodup_of_keys h').filter _)).mpr fun ⟨k, n⟩ => ?_
  show (k, n) ∈ pos m ↔ (k, n) ∈ pos m'
  rw [mem_pos h, mem_pos h']
  constructor
  · rintro ⟨h1, h2⟩
    exact ⟨by rw [← e k (.inl (by omega)), h1], h2⟩
  · rintro ⟨h1, h2⟩
    exact ⟨by rw [e k (.inr (by omega)), h1], h2⟩
/-- a dict's pairs above 0, rising -/
def Cn (m qs : AL) : Prop := qs.Perm (pos m) ∧ qs.Pairwise (fun a b => ple a b = true)
theorem cn_unique {m m' qs qs' : AL} (h : (keys m).Nodup) (h' : (keys m').Nodup) (c : Cn m qs) (c' : Cn m' qs') (e : ∀ k, 0 < get m k ∨ 0 < get m' k → get m k = get m' k) : qs = qs' :=
  List.Perm.eq_of_pairwise (le := fun a b => ple a b = true) (fun _ _ _ _ z z' => ple_anti z z') c.2 c'.2 (c.1.trans ((pos_perm h h' e).trans c'.1.symm))
/-- the numbers of a kind in a row of pairs, added up -/
def tot : AL → Str → Int
  | [], _ => 0
  | p :: r, k => (if p.1 = k then p.2 else 0) + tot r k
theorem tot_app (a b : AL) (k : Str) : tot (a ++ b) k = tot a k + tot b k := by
  induction a with
  | nil => exact (Int.zero_add _).symm
  | cons p r ih =>
    show (if p.1 = k then p.2 else 0) + tot (r ++ b) k = (if p.1 = k then p.2 else 0) + tot r k + tot b k
    rw [ih, Int.add_assoc]
theorem tot_nodup : ∀ {m : AL} (k : Str), (keys m).Nodup → tot m k = get m k
  | [], _, _ => rfl
  | p :: r, k, h => by
    obtain ⟨h1, h2⟩ := List.nodup_cons.mp (show (p.1 :: keys r).Nodup from h)
    show (if p.1 = k then p.2 else 0) + tot r k = get (p :: r) k
    unfold get
    rw [look_cons, tot_nodup k h2]
    by_cases e : p.1 = k
    · rw [if_pos e, if_pos e]
      unfold get
      rw [look_none.mpr (by rw [← e]; exact h1)]
      exact Int.add_zero _
    · rw [if_neg e, if_neg e, Int.zero_add]
      rfl
theorem tot_perm {a b : AL} (h : a.Perm b) (k : Str) : tot a k = tot b k := by
  induction h with
  | nil => rfl
  | cons p _ ih => show _ + _ = _ + _; rw [ih]
  | swap p q r => show _ + (_ + _) = _ + (_ + _); omega
  | trans _ _ i1 i2 => exact i1.trans i2
theorem tot_pos {m : AL} (h : (keys m).Nodup) (h0 : ∀ k, 0 ≤ get m k) (k : Str) : tot (pos m) k = get m k := by
  have hk : (keys (pos m)).Nodup := List.Nodup.sublist (List.Sublist.map _ List.filter_sublist) h
  rw [tot_nodup k hk]
  unfold get
  cases e : look (pos m) k with
  | some v =>
    have := (mem_pos h).mp ((look_mem hk).mp e)
    exact this.1.symm
  | none =>
    have h1 := h0 k
    have h2 : ¬ 0 < get m k := fun z => by
      have := (mem_pos h).mpr ⟨rfl, z⟩
      rw [(look_mem hk).mpr this] at e
      cases e
    show (0 : Int) = get m k
    omega
end My
namespace My
open PySem L2
theorem PrA.kpd {d : Addr} {u : HO} {H H' : Hp} {x : V} {p : Str × Int} (h : PrA H x p) (e : Kp d H H') (hd : H d = some u) (hu : ∀ xs, HO.tup xs ≠ u) : PrA H' x p := by
  obtain ⟨t, h1, h2⟩ := h
  exact ⟨t, h1, e _ _ h2 (ne_of h2 hd (hu _))⟩
theorem PrA.kpdAll {d : Addr} {u : HO} {H H' : Hp} {xs : List V} {ps : AL} (h : Paired (PrA H) xs ps) (e : Kp d H H') (hd : H d = some u) (hu : ∀ xs, HO.tup xs ≠ u) : Paired (PrA H') xs ps := Paired.mapP h fun _ _ z => z.kpd e hd hu
theorem pos_take {m : AL} {i : Nat} {p : Str × Int} (h : m[i]? = some p) : pos (m.take (i + 1)) = pos (m.take i) ++ (if 0 < p.2 then [p] else []) := by
  unfold pos
  rw [List.take_add_one, h, List.filter_append]
  congr 1
  show [p].filter _ = _
  rw [List.filter_cons]
  by_cases c : 0 < p.2
  · rw [if_pos (decide_eq_true c), if_pos c]
    rfl
  · rw [if_neg (fun z => c (of_decide_eq_true z)), if_neg c]
    rfl
theorem enc_at {m : AL} {i : Nat} {k : Key} {v : V} (h : (enc m)[i]? = some (k, v)) : ∃ p, m[i]? = some p ∧ k = Sum.inr p.1 ∧ v = V.int p.2 := by
  unfold enc at h
  rw [List.getElem?_map] at h
  cases e : m[i]? with
  | none => rw [e] at h; cases h
  | some p =>
    rw [e] at h
    have h := Option.some.inj h
    exact ⟨p, rfl, (congrArg Prod.fst h).symm, (congrArg Prod.snd h).symm⟩
theorem DGet_enc {H : Hp} {d : Addr} {m : AL} {k : Str} {r : Option Int} (h : L2.Rd H d (.dK (enc m))) (e : look m k = r) : DGet H d (.str k) (r.map V.int) := .inl ⟨enc m, Sum.inr k, h, rfl, by rw [enc_look, e]⟩
theorem look_at {m : AL} {i : Nat} {p : Str × Int} (hn : (keys m).Nodup) (h : m[i]? = some p) : look m p.1 = some p.2 := (look_mem hn).mpr (List.mem_of_getElem? h)
section
variable {σ : L2.St} {H : Hp} {Q : VK} {td ty tx te : TE} {D : Ends} {ts : TS} {d : Addr} {u : HO}
theorem r_dget (h : td σ H fun x H1 => ty σ H1 fun y H2 => ∃ a v, x = .ref a ∧ DGet H2 a y (some v) ∧ Q v H2) : tDGet td ty σ H Q := h
theorem r_dget2 (h : td σ H fun x H1 => ∃ a, x = .ref a ∧ IsD H1 a ∧ ty σ H1 fun y H2 => tx σ H2 fun z H3 => ∃ o, DGet H3 a y o ∧ Q (o.getD z) H3) : tDGet2 td ty tx σ H Q := h
theorem r_lock (hd : H d = some u) (m : Mut (some u)) (h : ∀ od, ts ⟨fun σ' H' => H' d = some (.frz od u) ∧ D.nx σ' (upd H' d u), fun v H' => H' d = some (.frz od u) ∧ D.rt v (upd H' d u), fun σ' H' => H' d = some (.frz od u) ∧ D.bk σ' (upd H' d u), fun σ' H' => H' d = some (.frz od u) ∧ D.ct σ' (upd H' d u)⟩ σ (upd H d (.frz od u))) : tLock ts D σ H := ⟨d, u, hd, m, h⟩
theorem r_iKeys {R : It → Hp → Prop} (h : td σ H fun x H1 => ∃ d o, x = .ref d ∧ ((∃ kvs, H1 d = some (.frz o (.dK kvs)) ∧ R (Itk d o kvs) H1) ∨ ∃ kvs, H1 d = some (.frz o (.dT kvs)) ∧ R (Itkt d o kvs) H1)) : iKeys td σ H R := h
theorem r_dput {tv : TE} (h : tv σ H fun v H1 => td σ H1 fun x H2 => ty σ H2 fun y H3 => ∃ a H4, x = .ref a ∧ DPut H3 a y v H4 ∧ D.nx σ H4) : sDPut td ty tv D σ H := h
end
theorem DPut_enc {H : Hp} {d : Addr} {m : AL} {k : Str} {n : Int} (h : H d = some (.dK (enc m))) (hl : m.length < sizeLine) : DPut H d (.str k) (.int n) (upd H d (.dK (enc (put m k n)))) := .inl ⟨enc m, Sum.inr k, h, rfl, by rw [enc_len]; exact hl, by rw [enc_put]⟩
end My
namespace My
open PySem L2
theorem get_look {m : AL} {k : Str} : (Option.map V.int (look m k)).getD (V.int 0) = V.int (get m k) := by
  unfold get
  cases look m k <;> rfl
theorem tot_take {ps : AL} {i : Nat} {p : Str × Int} (h : ps[i]? = some p) (k : Str) : tot (ps.take (i + 1)) k = tot (ps.take i) k + (if p.1 = k then p.2 else 0) := by
  rw [List.take_add_one, h, tot_app]
  show _ + ((if p.1 = k then p.2 else 0) + 0) = _
  rw [Int.add_zero]
end My

/-! an own class's operators, by its own methods -/
namespace My
open PySem L2 PySem.W
/-- a method of the class at C, with its promise -/
structure OCal (P : Program) (w : World) (K : PySem.W.Frag) (mg : Str → Option Value) (base : Heap) (CX : CXT) (k : Nat) (C : Addr) (name : Str) (ps : List Str) (sp : Sp) : Prop where
  ex : ∃ (f : Addr) (fd : FuncData), FnOk P w K mg base CX k f fd ps sp ∧ PySem.W.findIn K (.ref C) name = some (some (.ref f)) ∧ PySem.W.isFn K (.ref f) = true ∧ PySem.W.keepIn K (.ref f) = true ∧ PySem.W.fnIn K f = true ∧ Binds K fd ps []
/-- what an operator asks of the class beside its method -/
structure OCls (K : PySem.W.Frag) (C : Addr) : Prop where
  cl : Cls K C
  sf : PySem.W.selfFirst K C = true
  ns : PySem.W.noSeq K C = true
  si : PySem.W.subIn K (.type "int") (.ref C) = some false
section
variable {X : Cx} {CX : CXT} {k : Nat} {f C : Addr} {fd : FuncData} {ps : List Str} {sp : Sp} {E : XK} {pins : List (Addr × Obj)} {σ : L2.St} {H : Hp} {s : Shared} {Q : VK}
theorem run_at {A : Around} {us : List Value} {vs : List V} (F : FnOk X.prog X.w X.K X.mg X.base CX k f fd ps sp) (hr : Room k A) (hf : A.frames = X.A.frames) (hb : Binds X.K fd ps []) (hx : ∀ e s', CX X.stack H s E e s' → X.xe e s')
    (I : Inv X pins σ H s) (r : Vals vs us) (h : sp vs H Q E) : wpAny (model X.prog X.w) A (call (.ref f) us) (EP X pins σ Q) X.xe s := by
  have hl : us.length = ps.length := by rw [← r.length]; exact F.len _ _ _ _ h
  have e0 : Env0 X.prog X.w X.K X.mg X.base A X.stack s H := by
    have e := I.env0
    exact ⟨by rw [hf]; exact e.frames, e.mod, e.bs, e.bsz, e.funs, e.frf, e.hok, e.bare⟩
  have b := hb s us I.kIn (by rw [List.append_nil]; exact hl)
  rw [List.append_nil] at b
  refine wpAny_call (codeAny_mono (F.run A X.stack s H ⟨us, []⟩ us vs Q E hr e0 b r h) fun r s' hq => ?_)
  cases r with
  | error e => exact hx e s' hq
  | ok fl =>
    cases fl with
    | ret u => exact I.after hq
    | next => exact False.elim hq
    | brk => exact False.elim hq
    | cont => exact False.elim hq
theorem cmpBack {u : Value} {s' : Shared} {R : Value → Shared → Prop} (h : EP X pins σ Q u s') (hR : EP X pins σ Q u s' → R u s') : CmpBack R u s' := by
  obtain ⟨v, H', I, rv, q⟩ := id h
  cases v <;> (first | (cases (show u = _ from rv); exact hR h) | (obtain ⟨t, z⟩ := (show ∃ t, u = _ from rv); cases z; exact hR h))
/-- what a call may let out at the slots σ -/
def PassS (CX : CXT) (X : Cx) (E : L2.St → XK) : Prop := ∀ (pins : List (Addr × Obj)) (σ : L2.St) (H : Hp) (s : Shared) (e : Value) (s' : Shared), Inv X pins σ H s → CX X.stack H s (E σ) e s' → X.xe e s'
theorem PassS.of {X : Cx} {CX : CXT} {E : XK} (h : Passes CX X E) : PassS CX X (fun _ => E) := h
/-- len(x) -/
theorem c_lenO (O : OCal X.prog X.w X.K X.mg X.base CX k C "__len__" ps sp) (hr : Room (k + 1) X.A) (hx : Passes CX X E) :
    CallR X (.builtin "len") (fun vs H Q => ∃ a dx fs, vs = [.ref a] ∧ H a = some (.ins C dx fs) ∧ sp vs H (fun v H' => ∃ n : Int, v = .int n ∧ (0 ≤ n ∧ n < 2 ^ 63) ∧ Q v H') E) := by
  intro pins s σ H xs us Q I r h
  obtain ⟨a, dx, fs, rfl, e1, h⟩ := h
  obtain ⟨u, rfl, ru⟩ := vals1 r
  cases ru
  obtain ⟨f, fd, F, hs, hf, hk, hfn, hb⟩ := O.ex
  obtain ⟨mA, J, _⟩ := ins_get I.hok e1
  obtain ⟨od, J, _⟩ := J.look
  obtain ⟨m, hF⟩ := I.fr
  refine len_K hF I.ok.mod.kin J hs hf ?_
  refine wpAny_mono (run_at F hr.in1 rfl hb (fun e s' c => hx pins σ H s e s' I c) I (vs := [.ref a]) (.cons rfl .nil) h) (fun u s' q => ?_) fun _ _ z => z
  obtain ⟨v, H', I', rv, n, rfl, hn, q⟩ := q
  obtain ⟨t, rfl⟩ := (show ∃ t, u = Value.int n t from rv)
  exact ⟨hn, .int n, H', I'.tok _, ⟨_, rfl⟩, q⟩
end
end My

namespace My
open PySem L2
/-! sets of texts: made of a dict, then sorted -/
/-- at a an exact set of just the texts L -/
def SetSR (P : Program) (w : World) (h : Heap) (a : Addr) (L : List Str) : Prop := ∃ (o : Obj) (es : Array (Int × Value)) (ep : Nat) (t : SetTable) (ks : List Str), h.get? a = some o ∧ o.ExactSet ∧ o.data = Data.set es ep t ∧ ElemsOf (mixKind P w) es.toList ∧
  Vals (ks.map V.str) (es.toList.map (·.2)) ∧ ks.Perm L ∧ es.size < scanBound ∧ t.fits es.size = true ∧ Ris t.place.toList ∧ (w.params.followText "set-order" = true ∨ t.led = true)
theorem vals_strs : ∀ {ks : List Str} {us : List Value}, Vals (ks.map V.str) us → ∀ u ∈ us, ∃ k ∈ ks, ∃ tk, u = Value.str k tk
  | [], _, .nil, _, h => by cases h
  | k :: r, _, .cons e h, u, hu => by
    rcases List.mem_cons.mp hu with z | z
    · obtain ⟨tk, e⟩ := (show ∃ tk, _ = Value.str k tk from e)
      exact ⟨k, List.mem_cons_self, tk, z.trans e⟩
    · obtain ⟨k', h1, h2⟩ := vals_strs h u z
      exact ⟨k', List.mem_cons_of_mem _ h1, h2⟩
theorem vals_perm {us us' : List Value} (p : us'.Perm us) : ∀ {ks : List Str}, Vals (ks.map V.str) us → ∃ ks' : List Str, ks'.Perm ks ∧ Vals (ks'.map V.str) us' := by
  induction p with
  | nil => exact fun {ks} h => ⟨ks, .refl _, h⟩
  | cons x _ ih =>
    intro ks h
    match ks, h with
    | k :: r, .cons e h =>
      obtain ⟨ks', p', h'⟩ := ih h
      exact ⟨k :: ks', p'.cons k, .cons e h'⟩
  | swap x y l =>
    intro ks h
    match ks, h with
    | k :: j :: r, .cons e (.cons e2 h) => exact ⟨j :: k :: r, .swap k j r, .cons e2 (.cons e h)⟩
  | trans _ _ i1 i2 =>
    intro ks h
    obtain ⟨k1, p1, h1⟩ := i2 h
    obtain ⟨k2, p2, h2⟩ := i1 h1
    exact ⟨k2, p2.trans p1, h2⟩
theorem find_none {P : Program} {w : World} {ks : List Str} {k : Str} {es : List (Int × Value)} (hv : Vals (ks.map V.str) (es.map (·.2))) (hk : k ∉ ks) : List.findIdx? (fun e => (mixKind P w).is (Sum.inr k) e.2) es = none := by
  rw [List.findIdx?_eq_none_iff]
  intro e he
  obtain ⟨j, hj, tk, ej⟩ := vals_strs hv e.2 (List.mem_map.mpr ⟨e, he, rfl⟩)
  show Value.isStrOf k e.2 = false
  rw [ej]
  show (j == k) = false
  exact beq_eq_false_iff_ne.mpr fun z => hk (z ▸ hj)
theorem SetSR.store {P : Program} {w : World} {h : Heap} {a : Addr} {o : Obj} {es es' : Array (Int × Value)} {ep : Nat} {t t' : SetTable} {ks L : List Str} (ho : h.get? a = some o) (hex : o.ExactSet) (hd : o.data = Data.set es ep t) (hel : ElemsOf (mixKind P w) es'.toList)
    (hv : Vals (ks.map V.str) (es'.toList.map (·.2))) (hp : ks.Perm L) (hb : es'.size < scanBound) (hf : t'.fits es'.size = true) (hr : Ris t'.place.toList) (hl : w.params.followText "set-order" = true ∨ t'.led = true) : SetSR P w (h.update a (Obj.putSet es' t')) a L :=
  ⟨_, es', ep + 1, t', ks, store_at ho hd, hex, rfl, hel, hv, hp, hb, hf, hr, hl⟩
theorem elems_perm {P : Program} {w : World} {xs ys : List (Int × Value)} (p : xs.Perm ys) (h : ElemsOf (mixKind P w) ys) : ElemsOf (mixKind P w) xs := fun e he => h e (p.mem_iff.mp he)
theorem setS_tail {P : Program} {w : World} {A : Around} {E : Value → Shared → Prop} {s : Shared} {a : Addr} {g : Bool → Sem Unit} (hg : ∀ (b : Bool) (s₁ : Shared) (Q' : Unit → Shared → Prop), Q' () s₁ → wpAny (model P w) A (g b) Q' E s₁)
    {o : Obj} {es : Array (Int × Value)} {ep : Nat} {t : SetTable} (ho : s.heap.get? a = some o) (hex : o.ExactSet) (hd : o.data = Data.set es ep t) {es1 : Array (Int × Value)} {t2 : SetTable} {ks L : List Str} (hel : ElemsOf (mixKind P w) es1.toList)
    (hv : Vals (ks.map V.str) (es1.toList.map (·.2))) (hp : ks.Perm L) (hb : es1.size < scanBound) (hf : t2.fits es1.size = true) (hr : Ris t2.place.toList) (hl : w.params.followText "set-order" = true ∨ t2.led = true) {wasDummy : Bool} {R : Option Bool → Shared → Prop}
    (hQ : ∀ h' : Heap, Heap.SameBut a s.heap h' → SetSR P w h' a L → R (some true) { s with heap := h' }) :
    wpAny (model P w) A (do
      storeSet a es1 t2
      if (!wasDummy && t2.tooFull) = true then do
        g (relayAll t2 es1 (SetTable.grown es1.size)).2.2
        storeSet a (relayAll t2 es1 (SetTable.grown es1.size)).1 (relayAll t2 es1 (SetTable.grown es1.size)).2.1
        pure (some true)
      else pure (some true)) R E s := by
  have sb : es1.size ≤ sizeLine := Nat.le_trans (Nat.le_of_lt hb) (by decide)
  refine wpAny_bind (wpAny_storeSet_of ho hd ?_ sb)
  split
  · refine wpAny_bind (hg _ _ _ ?_)
    have p1 := relayAll_perm t2 es1 (SetTable.grown es1.size)
    have l1 : (relayAll t2 es1 (SetTable.grown es1.size)).1.size = es1.size := by
      have := p1.length_eq
      rwa [Array.length_toList, Array.length_toList] at this
    obtain ⟨ks', pk, hv'⟩ := vals_perm (p1.map (·.2)) hv
    refine wpAny_bind (wpAny_storeSet_of (store_at ho hd) rfl ?_ (by rw [l1]; exact sb))
    refine wpAny_pure ?_
    have R1 := SetSR.store (P := P) (w := w) (L := L) (store_at (es' := es1) (t' := t2) ho hd) hex rfl (elems_perm p1 hel) hv' (pk.trans hp) (by rw [l1]; exact hb) (relayAll_fits _ _ _) (relayAll_ris _ _ _) (by rw [relayAll_led]; exact hl)
    exact hQ _ ((Heap.SameBut.update _ _ _).trans (Heap.SameBut.update _ _ _)) R1
  · refine wpAny_pure ?_
    exact hQ _ (Heap.SameBut.update _ _ _) (SetSR.store ho hex hd hel hv hp hb hf hr hl)

theorem setS_add {P : Program} {w : World} {A : Around} {E : Value → Shared → Prop} {s : Shared} {a : Addr} {L : List Str} {k : Str} {tk : Tok} {Q : Bool → Shared → Prop} (R : SetSR P w s.heap a L) (hk : k ∉ L) (room : L.length + 1 < scanBound)
    (hQ : ∀ h' : Heap, Heap.SameBut a s.heap h' → SetSR P w h' a (k :: L) → Q true { s with heap := h' }) : wpAny (model P w) A (setAddHashed a (.str k tk) ((mixKind P w).hash (Sum.inr k))) Q E s := by
  obtain ⟨o, es, ep, t, ks, ho, hex, hd, hel, hv, hp, hb, hf, hr, hl⟩ := R
  have hkey : (mixKind P w).is (Sum.inr k) (Value.str k tk) = true := by show (k == k) = true; exact beq_self_eq_true k
  have hsc : (Value.str k tk).scannable = true := rfl
  have hk' : k ∉ ks := fun z => hk (hp.mem_iff.mp z)
  have le : es.size = L.length := by
    have h1 := Paired.len hv
    have h2 : (ks.map V.str).length = L.length := by rw [List.length_map, hp.length_eq]
    have h3 : (es.toList.map (·.2)).length = es.size := by rw [List.length_map, Array.length_toList]
    omega
  have w1 := layNew_fits t es ((mixKind P w).hash (Sum.inr k)) (Value.str k tk)
  have w2 := layNew_perm t es ((mixKind P w).hash (Sum.inr k)) (Value.str k tk)
  have w3 := layNew_ris t es ((mixKind P w).hash (Sum.inr k)) (Value.str k tk) hr
  have w4 := layNew_led t es ((mixKind P w).hash (Sum.inr k)) (Value.str k tk)
  show wpAny (model P w) A (holding [Value.str k tk] do setAddHashedIn a (.str k tk) ((mixKind P w).hash (Sum.inr k)) (99999 + 1)) Q E s
  rw [setAddHashedIn_succ]
  refine wpAny_holding (wpAny_bind (wpAny_setState_of ho hd hf ?_))
  show wpAny (model P w) _ (if byScan (Value.str k tk) es = true then _ else _) _ _ _
  rw [if_pos (byScan_of hsc hb hel)]
  refine wpAny_bind ?_
  unfold setAddByScan
  refine wpAny_bind (wpAny_rule ?_)
  refine wpAny_bind (wpAny_setScan_of (knd := mixKind P w) (k := Sum.inr k) hkey ho hd hf hel ?_)
  rw [find_none hv hk']
  generalize layNew t es ((mixKind P w).hash (Sum.inr k)) (Value.str k tk) = r at w1 w2 w3 w4 ⊢
  obtain ⟨es1, t1, wd, gv⟩ := r
  replace w1 : t1.fits es1.size = true := w1
  replace w2 : es1.toList.Perm (es.push ((mixKind P w).hash (Sum.inr k), Value.str k tk)).toList := w2
  replace w3 : Ris t1.place.toList := w3
  replace w4 : t1.led = t.led := w4
  have l1 : es1.size = es.size + 1 := by
    have := w2.length_eq
    rwa [Array.length_toList, Array.length_toList, Array.size_push] at this
  have p2 : es1.toList.Perm (es.toList ++ [((mixKind P w).hash (Sum.inr k), Value.str k tk)]) := by rw [Array.toList_push] at w2; exact w2
  have el1 : ElemsOf (mixKind P w) es1.toList := elems_perm p2 fun e he => by
    rcases List.mem_append.mp he with z | z
    · exact hel e z
    · rw [List.mem_singleton.mp z]
      exact ⟨⟨Sum.inr k, hkey, rfl⟩, hsc⟩
  have v0 : Vals ((ks ++ [k]).map V.str) ((es.toList ++ [((mixKind P w).hash (Sum.inr k), Value.str k tk)]).map (·.2)) := by
    rw [List.map_append, List.map_append]
    exact hv.append (.cons ⟨tk, rfl⟩ .nil)
  obtain ⟨ks', pk, hv'⟩ := vals_perm (p2.map (·.2)) v0
  have pk' : ks'.Perm (k :: L) := pk.trans ((List.perm_append_singleton k ks).trans (hp.cons k))
  have hb1 : es1.size < scanBound := by omega
  have hl1 : w.params.followText "set-order" = true ∨ t1.led = true := by rw [w4]; exact hl
  refine wpAny_bind ?_
  cases gv
  case' true => refine (wpAny_rule ?_)
  case' false => refine (wpAny_pure ?_)
  all_goals
    show wpAny (model P w) A (if t1.plain = true then _ else _) _ _ _
    split
    case' isTrue => refine wpAny_bind (wpAny_pure ?_)
    case' isTrue => exact setS_tail (t2 := { t1 with plain := false }) (wasDummy := wd) (fun b s₁ Q' h => by cases b; exact wpAny_pure h; exact wpAny_rule h) ho hex hd el1 hv' pk' hb1 (SetTable.fits_plain_off w1) w3 hl1 fun h' sb R' => wpAny_pure (hQ h' sb R')
    case' isFalse => refine wpAny_bind (wpAny_pure ?_)
    case' isFalse => exact setS_tail (t2 := t1) (wasDummy := wd) (fun b s₁ Q' h => by cases b; exact wpAny_pure h; exact wpAny_rule h) ho hex hd el1 hv' pk' hb1 w1 w3 hl1 fun h' sb R' => wpAny_pure (hQ h' sb R')
end My

namespace My
open PySem L2
theorem SetTR.to_s {P : Program} {w : World} {s : Shared} {a : Addr} {es : Array (Int × Value)} {ep : Nat} {t : SetTable} (R : SetTR P w s.heap a [] es ep t) : SetSR P w s.heap a [] := by
  obtain ⟨o, ho, hex, hd⟩ := R.ob
  have he : es.toList = [] := R.rows
  have h0 : es.size = 0 := by rw [← Array.length_toList, he]; rfl
  refine ⟨o, es, ep, t, [], ho, hex, hd, ?_, ?_, .refl _, ?_, R.fits, R.tab.ris, R.led⟩
  · rw [he]
    intro e z
    cases z
  · rw [he]
    exact .nil
  · rw [h0]
    decide
def relOk (led : Bool) (n : Nat) : Bool := match (SetTable.fresh 0 0 led).relaid #[] (n * 2) with
  | some (t', order) => decide (t'.place = #[] ∧ t'.dummies = #[] ∧ t'.led = led ∧ order = #[]) && decide (SetTable.sizeAbove (n * 2) ≤ 1000)
  | none => false
theorem relOk_all : ∀ led : Bool, ∀ n, n < 31 → relOk led n = true := by decide +kernel
theorem relaid0 (led : Bool) {n : Nat} (h : n < 31) : ∃ t' : SetTable, (SetTable.fresh 0 0 led).relaid #[] (n * 2) = some (t', #[]) ∧ t'.place = #[] ∧ t'.dummies = #[] ∧ t'.led = led ∧ SetTable.sizeAbove (n * 2) ≤ 1000 := by
  have e := relOk_all led n h
  unfold relOk at e
  split at e
  · rename_i t' order q
    rw [Bool.and_eq_true] at e
    obtain ⟨h1, h2, h3, h4⟩ := of_decide_eq_true e.1
    subst h4
    exact ⟨t', q, h1, h2, h3, of_decide_eq_true e.2⟩
  · cases e
theorem set_room {P : Program} {w : World} {A : Around} {E : Value → Shared → Prop} {s : Shared} {a : Addr} {n : Nat} {Q : Unit → Shared → Prop} (ho : s.heap.get? a = some { cls := Value.type "set", data := Data.set #[] 0 (SetTable.fresh 0 0 !w.params.followText "set-order") }) (hn : n ≤ 30)
    (hQ : ∀ h' : Heap, Heap.SameBut a s.heap h' → SetSR P w h' a [] → Q () { s with heap := h' }) : wpAny (model P w) A (setRoomFor a n) Q E s := by
  have R := setTR_fresh (P := P) (w := w) ho
  unfold setRoomFor
  refine wpAny_bind (wpAny_setState_of ho rfl R.fits ?_)
  have e : (SetTable.fresh 0 0 !w.params.followText "set-order").roomFor n = if (0 + n) * 5 ≥ 7 * 3 then some ((0 + n) * 2) else none := rfl
  rw [show ((#[], 0, SetTable.fresh 0 0 !w.params.followText "set-order") : Array (Int × Value) × Nat × SetTable).snd.snd.roomFor n = if (0 + n) * 5 ≥ 7 * 3 then some ((0 + n) * 2) else none from rfl]
  by_cases c : (0 + n) * 5 ≥ 7 * 3
  · rw [if_pos c, Nat.zero_add]
    obtain ⟨t', h1, h2, h3, h4, h5⟩ := relaid0 (!w.params.followText "set-order") (show n < 31 by omega)
    show wpAny (model P w) A (setRelay a (n * 2)) Q E s
    rw [setRelay_eq]
    refine wpAny_bind (wpAny_setState_of ho rfl R.fits ?_)
    have big : ¬ SetTable.sizeAbove (n * 2) > sizeLine := fun z => by
      have : 1000 ≤ sizeLine := by decide
      omega
    show wpAny (model P w) A (if SetTable.sizeAbove (n * 2) > sizeLine then _ else _) Q E s
    rw [if_neg big]
    refine wpAny_bind ?_
    rw [show (Array.map (fun x : Int × Value => x.fst) #[]) = #[] from by simp, h1]
    refine wpAny_pure ?_
    refine wpAny_storeSet_of ho rfl ?_ (by decide)
    refine hQ _ (Heap.SameBut.update _ _ _) (SetSR.store (ks := []) ho ⟨rfl, rfl, rfl⟩ rfl (fun e z => by cases z) .nil (.refl _) (by decide) ?_ (by rw [h2]; exact List.Pairwise.nil) ?_)
    · unfold SetTable.fits SetTable.fill
      rw [h2, h3]
      show (true && decide (0 + 0 ≤ t'.mask)) = true
      rw [Bool.true_and]
      exact decide_eq_true (by omega)
    · rw [h4]
      cases w.params.followText "set-order"
      · exact .inr rfl
      · exact .inl rfl
  · rw [if_neg c]
    exact wpAny_pure (hQ s.heap ⟨rfl, fun _ _ => rfl⟩ (SetTR.to_s R))
theorem for_range0 {M : Model} {A : Around} {E : Value → Shared → Prop} {f : Nat → PUnit → Sem (ForInStep PUnit)} (I : Nat → Shared → Prop) (n : Nat) (h : ∀ i s, i < n → I i s → wpAny M A (f i ⟨⟩) (fun r s' => r = .yield ⟨⟩ ∧ I (i + 1) s') E s) {Q : PUnit → Shared → Prop} (hQ : ∀ s, I n s → Q ⟨⟩ s) : ∀ (k i : Nat), i + k = n → ∀ s, I i s → wpAny M A (forIn (List.range' i k) PUnit.unit f) Q E s
  | 0, i, e, s, hi => by
    have : i = n := e
    subst this
    exact wpAny_pure (hQ s hi)
  | k + 1, i, e, s, hi => by
    rw [List.range'_succ, List.forIn_cons]
    refine wpAny_bind (wpAny_mono (h i s (by omega) hi) ?_ fun _ _ z => z)
    rintro r s' ⟨rfl, hi'⟩
    exact for_range0 I n h hQ k (i + 1) (by omega) s' hi'
theorem for_range {M : Model} {A : Around} {E : Value → Shared → Prop} {f : Nat → PUnit → Sem (ForInStep PUnit)} {n : Nat} {s : Shared} {Q : PUnit → Shared → Prop} (I : Nat → Shared → Prop) (h0 : I 0 s) (h : ∀ i s, i < n → I i s → wpAny M A (f i ⟨⟩) (fun r s' => r = .yield ⟨⟩ ∧ I (i + 1) s') E s)  (hQ : ∀ s, I n s → Q ⟨⟩ s) :
    wpAny M A (forIn ([0:n] : Std.Legacy.Range) PUnit.unit f) Q E s := by
  rw [Std.Legacy.Range.forIn_eq_forIn_range']
  have e : ([0:n] : Std.Legacy.Range).size = n := by simp [Std.Legacy.Range.size]
  show wpAny M A (forIn (List.range' 0 ([0:n] : Std.Legacy.Range).size 1) PUnit.unit f) Q E s
  rw [e]
  exact for_range0 I n h hQ n 0 (Nat.zero_add n) s h0
theorem pairs_at {P : Program} {w : World} : ∀ {es : List DictEntry} {kvs : List (Key × Value)}, Pairs (mixKind P w) es kvs → es.length = kvs.length ∧ ∀ (i : Nat) (e : DictEntry), es[i]? = some e → ∃ kv, kvs[i]? = some kv ∧ (mixKind P w).is kv.1 e.key = true
  | _, _, .nil => ⟨rfl, fun i e z => by simp at z⟩
  | _, _, .cons (e := e0) (kv := kv0) h _ r => by
    obtain ⟨h1, h2⟩ := pairs_at r
    refine ⟨by rw [List.length_cons, List.length_cons, h1], fun i e z => ?_⟩
    cases i with
    | zero =>
      have z := Option.some.inj z
      subst z
      exact ⟨kv0, rfl, h⟩
    | succ j => exact h2 j e z
theorem SetSR.perm {P : Program} {w : World} {h : Heap} {a : Addr} {L L' : List Str} (R : SetSR P w h a L) (p : L.Perm L') : SetSR P w h a L' := by
  obtain ⟨o, es, ep, t, ks, ho, hex, hd, hel, hv, hp, hb, hf, hr, hl⟩ := R
  exact ⟨o, es, ep, t, ks, ho, hex, hd, hel, hv, hp.trans p, hb, hf, hr, hl⟩
theorem key_str {P : Program} {w : World} {k : Str} {v : Value} (h : (mixKind P w).is (Sum.inr k) v = true) : ∃ tk, v = .str k tk := by
  have h : Value.isStrOf k v = true := h
  unfold Value.isStrOf at h
  split at h
  · exact ⟨_, by rw [eq_of_beq h]⟩
  · cases h
theorem upd_dict {P : Program} {w : World} {A : Around} {E : Value → Shared → Prop} {s : Shared} {a d : Addr} {m : List Str} {kvs : List (Key × Value)} {Q : Unit → Shared → Prop} (ho : s.heap.get? a = some { cls := Value.type "set", data := Data.set #[] 0 (SetTable.fresh 0 0 !w.params.followText "set-order") }) (hd : Heap.DictOf (mixKind P w) s.heap d kvs) (hm : kvs.map (·.1) = m.map Sum.inr) (hn : kvs.length ≤ 30) (hs : (d == sysModules) = false) (hne : d ≠ a)
    (hQ : ∀ h' : Heap, Heap.SameBut a s.heap h' → SetSR P w h' a m → Q () { s with heap := h' }) : wpAny (model P w) A (Builtin.Frozenset.updateFrom "set.__init__" a (.ref d)) Q E s := by
  obtain ⟨o, es, ep, h1, hex, h2, hk, hp, nd⟩ := hd
  unfold Builtin.Frozenset.updateFrom
  have td : s.TypeIs (.ref d) "dict" := ⟨o, h1, hex.1⟩
  refine wpAny_bind ?_
  unfold Builtin.Frozenset.isAnySet
  refine wpAny_bind (wpAny_isInstance td F.sub_dict_set ?_)
  refine wpAny_isInstance td F.sub_dict_frozenset ?_
  rw [if_neg (by decide)]
  refine wpAny_bind (wpAny_typeOf td ?_)
  rw [if_pos (by decide)]
  refine wpAny_bind (wpAny_rule ?_)
  refine wpAny_bind (wpAny_pure ?_)
  rw [if_neg (by rw [hs]; decide)]
  refine wpAny_bind (wpAny_dictEpoch h1 h2 ?_)
  refine wpAny_bind (wpAny_dictEntries h1 h2 ?_)
  obtain ⟨le, at_⟩ := pairs_at hp
  have lm : kvs.length = m.length := by
    have := congrArg List.length hm
    rwa [List.length_map, List.length_map] at this
  have ls : es.size = m.length := by rw [← Array.length_toList, le, lm]
  have ndm : m.Nodup := by
    rw [hm] at nd
    exact List.Pairwise.of_map Sum.inr (fun _ _ q z => q (by rw [z])) nd
  refine wpAny_bind (set_room ho (by omega) fun h' sb R => ?_)
  have hd0 : ∀ h' : Heap, Heap.SameBut a s.heap h' → h'.get? d = some o := fun h' sb => by rw [sb.2 d hne]; exact h1
  refine wpAny_bind (wpAny_dictEntries (hd0 h' sb) h2 ?_)
  refine wpAny_bind (for_range (fun i u => ∃ h' : Heap, u = { s with heap := h' } ∧ Heap.SameBut a s.heap h' ∧ SetSR P w h' a (m.take i)) ⟨h', rfl, sb, R⟩ ?_ ?_)
  · rintro i u hi ⟨h2', rfl, sb', R'⟩
    have hi' : i < m.length := by rw [← ls]; exact hi
    refine wpAny_bind (wpAny_dictEntries (hd0 h2' sb') h2 ?_)
    rw [Array.getElem?_eq_getElem hi]
    obtain ⟨kv, hkv, hk1⟩ := at_ i es[i] (by rw [Array.getElem?_toList, Array.getElem?_eq_getElem hi])
    have ek : kv.1 = Sum.inr m[i] := by
      have e1 : (kvs.map (·.1))[i]? = some kv.1 := by rw [List.getElem?_map, hkv]; rfl
      rw [hm, List.getElem?_map, List.getElem?_eq_getElem hi'] at e1
      exact (Option.some.inj e1).symm
    rw [ek] at hk1
    obtain ⟨tk, et⟩ := key_str hk1
    obtain ⟨k, hk2, hh⟩ := hk es[i] (Array.getElem_mem hi)
    have e3 : k = Sum.inr m[i] := (mixKind P w).inj _ _ _ hk2 hk1
    rw [e3] at hh
    have nin : m[i] ∉ m.take i := fun z => by
      obtain ⟨j, hj, e⟩ := List.mem_iff_getElem.mp z
      rw [List.length_take] at hj
      rw [List.getElem_take] at e
      have := (List.pairwise_iff_getElem.mp ndm) j i (by omega) hi' (by omega)
      exact this e
    show wpAny (model P w) A (do
      let _ ← holding [es[i].key] (setAddHashed a es[i].key es[i].hash)
      let __do_lift ← dictEpoch d
      if (__do_lift != ep) = true then do
        unsupported (toString "set.__init__" ++ toString ":changed-during-callback")
        pure (ForInStep.yield PUnit.unit)
      else pure (ForInStep.yield PUnit.unit)) _ _ _
    rw [et, hh]
    refine wpAny_bind (wpAny_holding (setS_add R' nin (by rw [List.length_take]; have : scanBound = 4096 := rfl; omega) fun h3 sb3 R3 => ?_))
    have sb4 : Heap.SameBut a s.heap h3 := ⟨sb3.1.trans sb'.1, fun b n => (sb3.2 b n).trans (sb'.2 b n)⟩
    refine wpAny_bind (wpAny_dictEpoch (hd0 h3 sb4) h2 ?_)
    rw [if_neg (by simp)]
    refine wpAny_pure ⟨rfl, h3, rfl, sb4, R3.perm ?_⟩
    rw [List.take_add_one, List.getElem?_eq_getElem hi']
    exact (List.perm_append_singleton _ _).symm
  · rintro u ⟨h3, rfl, sb3, R3⟩
    refine wpAny_pure (hQ h3 sb3 (R3.perm ?_))
    rw [ls, List.take_length]
end My

namespace My
open PySem L2
theorem call_set_dict {P : Program} {w : World} {A : Around} {E : Value → Shared → Prop} {s : Shared} {d : Addr} {m : List Str} {kvs : List (Key × Value)} {Q : Value → Shared → Prop} (hd : Heap.DictOf (mixKind P w) s.heap d kvs) (hm : kvs.map (·.1) = m.map Sum.inr) (hn : kvs.length ≤ 30) (hs : (d == sysModules) = false)
    (hQ : ∀ (h' : Heap), (∀ (b : Addr) (o : Obj), s.heap.get? b = some o → h'.get? b = some o) → SetSR P w h' s.heap.objs.size m → Q (.ref s.heap.objs.size) { s with heap := h' }) : wpAny (model P w) A (call (Value.type "set") [.ref d]) Q E s := by
  obtain ⟨o, es, ep, h1, hex, hrest⟩ := id hd
  have ltd : d < s.heap.objs.size := Heap.lt_size h1
  obtain ⟨c, tl, hmro⟩ := F.called_set.mro
  refine wpAny_call (codeAny_of_tree ?_)
  refine wpAny_pure ⟨Code.quiet_builtin _ (by decide +kernel), codeAny_builtin F.entry_type_call ?_⟩
  rw [Around.under_plain (weight_type_call_type "set" [Value.ref d] []) rfl]
  have hcan : decide (((Manifest.find? "set").bind fun x => List.findSome? (fun t => (Manifest.find? t).bind fun b => if b.noNew = true then some true else if (b.attrs.any fun x => x.fst == "__new__") = true then some false else none) x.mro).getD false = true) = false := by rw [F.called_set.canCreate]; rfl
  unfold Builtin.«type.__call__»
  refine wpAny_ite_false (show decide ((Value.type "set" == Value.type "type") = true) = false from rfl) ?_
  refine wpAny_ite_false hcan ?_
  refine wpAny_bind (wpAny_of_eq (F.typeCall_set_1 _) ?_)
  refine wpAny_bind (wpAny_of_eq hmro ?_)
  refine wpAny_ite_false rfl ?_
  refine wpAny_bind (wpAny_of_eq F.called_set.made ?_)
  refine wpAny_bind (wpAny_pure ?_)
  refine wpAny_bind (wpAny_holding (wpAny_call (codeAny_mono (code_set_led1 (E := fun _ _ => False) (Q₁ := fun obj s₁ => obj = .ref s.heap.objs.size ∧ s₁ = { s with heap := s.heap.push { cls := Value.type "set", data := Data.set #[] 0 (SetTable.fresh 0 0 !w.params.followText "set-order") } }) _ ⟨rfl, rfl⟩) ?_)))
  intro r s₁ hr
  cases r with
  | error e => exact hr.elim
  | ok fl =>
    cases fl with
    | next => exact hr.elim
    | brk => exact hr.elim
    | cont => exact hr.elim
    | ret v =>
      obtain ⟨rfl, rfl⟩ := hr
      have hnew := Heap.get?_push_size s.heap (o := { cls := Value.type "set", data := Data.set #[] 0 (SetTable.fresh 0 0 !w.params.followText "set-order") }) rfl
      have td := (⟨_, hnew, rfl⟩ : Shared.TypeIs { s with heap := s.heap.push { cls := Value.type "set", data := Data.set #[] 0 (SetTable.fresh 0 0 !w.params.followText "set-order") } } (Value.ref s.heap.objs.size) "set")
      refine wpAny_bind (wpAny_isInstance td F.called_set.sub ?_)
      refine wpAny_ite_false (show decide ((!true) = true) = false from rfl) ?_
      refine wpAny_bind (wpAny_holding (wpAny_callSpecial?_slot td F.called_set.init ?_))
      refine wpAny_call (codeAny_call_builtin F.called_set.init.plain F.entry_set_init (check_set_init_1 td ?_))
      unfold Builtin.«set.__init__»
      have R := setTR_fresh (P := P) (w := w) hnew
      refine wpAny_bind (wpAny_pure ?_)
      refine wpAny_bind ?_
      unfold typeNameOfCut
      refine wpAny_bind ?_
      unfold shownTypeOf
      refine wpAny_bind (wpAny_typeOf td ?_)
      refine wpAny_ite_false (show decide ((Value.type "set" == Value.type "builtin_function_or_method") = true) = false from rfl) ?_
      refine wpAny_pure ?_
      refine wpAny_pure ?_
      refine wpAny_bind (wpAny_pure ?_)
      refine wpAny_bind (wpAny_pure ?_)
      refine wpAny_bind (wpAny_bind (wpAny_setState_of hnew rfl (SetTR.fits (s := { s with heap := s.heap.push { cls := Value.type "set", data := Data.set #[] 0 (SetTable.fresh 0 0 !w.params.followText "set-order") } }) R) (wpAny_pure ?_)))
      refine wpAny_ite_false (show decide (((SetTable.fresh 0 0 !w.params.followText "set-order").fill != 0) = true) = false from rfl) ?_
      have hd' : Heap.DictOf (mixKind P w) (s.heap.push { cls := Value.type "set", data := Data.set #[] 0 (SetTable.fresh 0 0 !w.params.followText "set-order") }) d kvs := ⟨o, es, ep, Heap.get?_push_of_some _ h1, hex, hrest⟩
      refine wpAny_bind (upd_dict (s := { s with heap := s.heap.push { cls := Value.type "set", data := Data.set #[] 0 (SetTable.fresh 0 0 !w.params.followText "set-order") } }) hnew hd' hm hn hs (Nat.ne_of_lt ltd) fun h' sb R' => ?_)
      refine wpAny_pure ?_
      refine wpAny_pure ?_
      refine hQ h' (fun b u e => ?_) R'
      rw [sb.2 b (Nat.ne_of_lt (Heap.lt_size e))]
      exact Heap.get?_push_of_some _ e
end My

namespace My
open PySem L2
theorem sorted_setS {P : Program} {w : World} {A : Around} {E : Value → Shared → Prop} {s : Shared} {a : Addr} {L : List Str} {Q : Value → Shared → Prop} (R : SetSR P w s.heap a L) (hh : A.handled = none) (hn : L.length < 64)
    (hQ : ∀ (s' : Shared) (p : Nat) (out : Array Value) (c : Nat) (ys : List Str), (∀ (b : Addr) (o : Obj), s.heap.get? b = some o → s'.heap.get? b = some o) → s'.gens = s.gens → s'.os = s.os → s.heap.objs.size ≤ p → s'.heap.get? p = some (PyProof.Rows.seqObj "list" out c) →
      Vals (ys.map V.str) out.toList → ys.Perm L → PyProof.Rows.sortedS ys = true → Q (.ref p) s') : wpAny (model P w) A (call (Value.builtin "sorted") [.ref a]) Q E s := by
  obtain ⟨o, es, ep, t, ks, ho, hex, hd, hel, hv, hp, hb, hf, hr, hl⟩ := R
  refine Calls.call_function_entry PyProof.Rows.kind_sorted PyProof.Rows.plain_sorted PyProof.Rows.entry_sorted (PyProof.Rows.args_sorted1 (Value.ref a)) ?_
  refine wpAny_bind (wpAny_pure ?_)
  refine wpAny_bind (collect_set hh ⟨o, ho, hex.1, hd⟩ hf hb hr hl fun s1 vs k1 hz g1 o1 pm => ?_)
  obtain ⟨ks', pk, hv'⟩ := vals_perm pm hv
  have lv : vs.length = L.length := by
    have h1 := Paired.len hv'
    rw [List.length_map] at h1
    rw [← h1, pk.length_eq, hp.length_eq]
  have h64 : vs.length < 64 := by omega
  have hsl : vs.length ≤ sizeLine := sz (by omega)
  refine wpAny_bind (wpAny_newList ?_ hsl)
  have hoL := Heap.get?_push_size s1.heap (o := PyProof.Rows.seqObj "list" vs.toArray 0) rfl
  have hS := Vals.strs hv'
  refine wpAny_bind (wpAny_holding (wpAny_call_entry (rest := []) PyProof.Rows.slot_list_sort ⟨_, hoL, rfl⟩ PyProof.Rows.entry_list_sort (PyProof.Rows.list_sort_treeK PyProof.Rows.strKind_oneLt hoL (PyProof.Rows.StrsAre.keysOf hS) (fun v₁ v₂ rest e => PyProof.Rows.keyKind_strs (by rw [← e]; exact hS)) h64 fun st' hp' hs' => ?_) (PyProof.Rows.args_list_sort _)))
  obtain ⟨ys, g1', g2, g3⟩ := PyProof.Rows.sorted_out_str hS hp' hs'
  obtain ⟨c, hc⟩ := PyProof.Rows.sortedHeap_at (out := Array.map (fun x => x.snd) (PyProof.Rows.arrOf st')) hoL
  refine ⟨_, rfl, ?_⟩
  refine wpAny_pure ⟨_, rfl, ?_⟩
  refine hQ _ s1.heap.objs.size _ c ys (fun b u e => ?_) g1 o1 hz hc (vals_of_strs g1') (g2.trans (pk.trans hp)) g3
  have q := k1 b u e
  have hlt := Heap.lt_size q
  show (PyProof.Rows.sortedHeap _ _ _ _).get? b = some u
  rw [PyProof.Rows.sortedHeap_old (Nat.ne_of_lt hlt) (by rw [PyProof.Rows.size_push']; exact Nat.lt_succ_of_lt hlt)]
  exact Heap.get?_push_of_some _ q
/-- a set of just the texts L -/
def SetSO (P : Program) (w : World) (a : Addr) (L : List Str) : HO := .ext fun h => SetSR P w h a L
theorem setSO_new {P : Program} {w : World} {H : Hp} {h : Heap} {a : Addr} {L : List Str} (R : SetSR P w h a L) : ObjOk P w H h a (SetSO P w a L) := by
  refine ⟨R, ?_, ?_⟩
  · obtain ⟨o, es, ep, t, ks, ho, _⟩ := R
    exact ⟨o, ho⟩
  · rintro h1 h2 ⟨o, es, ep, t, ks, ho, r⟩ k
    exact ⟨o, es, ep, t, ks, k o ho, r⟩
def rSetD (P : Program) (w : World) : List V → Hp → VK → Prop := fun xs H Q => ∃ (d : Addr) (kvs : List (Key × V)) (ks : List Str), xs = [.ref d] ∧ H d = some (.dK kvs) ∧ kvs.map (·.1) = ks.map Sum.inr ∧ kvs.length ≤ 30 ∧ ∀ a, H a = none → Q (.ref a) (upd H a (SetSO P w a ks))
theorem kv_keys {κ : Type} : ∀ {kvs : List (κ × V)} {vs : List (κ × Value)}, KV kvs vs → vs.map (·.1) = kvs.map (·.1)
  | _, _, .nil => rfl
  | _, _, .cons h r => by
    rw [List.map_cons, List.map_cons, kv_keys r, h.1]
theorem cr_setD {X : Cx} : CallR X (.type "set") (rSetD X.prog X.w) := by
  intro pins s σ H xs us Q I r h
  obtain ⟨d, kvs, ks, rfl, hd, hk, hn, q⟩ := h
  obtain ⟨u, rfl, ru⟩ := vals1 r
  cases ru
  obtain ⟨hz, hs, vs, kv, dof⟩ := (show kvs.length ≤ sizeLine ∧ (d == sysModules) = false ∧ ∃ vs, KV kvs vs ∧ Heap.DictOf (mixKind X.prog X.w) s.heap d vs from I.hok d _ hd)
  have e1 := kv_keys kv
  have e2 : vs.length = kvs.length := by
    have := congrArg List.length e1
    rwa [List.length_map, List.length_map] at this
  refine call_set_dict dof (e1.trans hk) (by omega) hs fun h' k R => ?_
  have hnw := HOk.fresh I.hok (Nat.le_refl s.heap.objs.size)
  exact ⟨.ref s.heap.objs.size, _, Inv.laid I k (Nat.le_refl _) (setSO_new R), rfl, q _ hnw⟩
def rSortedSet' (P : Program) (w : World) : List V → Hp → VK → Prop := fun xs H Q => ∃ (a : Addr) (L : List Str), xs = [.ref a] ∧ H a = some (SetSO P w a L) ∧ L.length < 64 ∧ ∀ (ys : List Str) (p : Addr), ys.Perm L → PyProof.Rows.sortedS ys = true → H p = none → Q (.ref p) (upd H p (.lst (ys.map V.str)))
theorem cr_sortedSO {X : Cx} (hc : X.calm = true) : CallR X (.builtin "sorted") (rSortedSet' X.prog X.w) := by
  intro pins s σ H xs us Q I r h
  obtain ⟨a, L, rfl, ha, hn, q⟩ := h
  obtain ⟨u, rfl, ru⟩ := vals1 r
  cases ru
  have R : SetSR X.prog X.w s.heap a L := (I.hok a _ ha).1
  refine sorted_setS R (I.ok.hd hc) hn fun s' p out c ys k g o hp hg hv pm so => ?_
  have hnp := HOk.fresh I.hok hp
  have hlen : (ys.map V.str).length ≤ sizeLine := by
    rw [List.length_map, pm.length_eq]
    exact sz (by omega)
  have J : Inv X pins σ (upd H p (.lst (ys.map V.str))) { heap := s'.heap, gens := s'.gens, drawn := s'.drawn, toks := s'.toks, os := s.os } :=
    Inv.call (ch := []) I (Un.laid k hp hnp) (HOk.laid I.hok k hp ⟨hlen, out.toList, c, hv, hg⟩) (by rw [g]; exact I.bare) fun x z => by cases z
  have e : s' = { heap := s'.heap, gens := s'.gens, drawn := s'.drawn, toks := s'.toks, os := s.os } := by rw [← o]
  rw [e]
  exact ⟨.ref p, _, J, rfl, q ys p pm so hnp⟩
end My

namespace My
open PySem L2
/-! a Lot: an instance with a dict of numbers above 0 -/
structure LoA (C : Addr) (H : Hp) (a : Addr) (m : AL) : Prop where
  ex : ∃ d dx, H a = some (.ins C dx [("_many", .ref d)]) ∧ H d = some (.dK (enc m))
  nd : (keys m).Nodup
  ps : ∀ p ∈ m, 0 < p.2
  ln : m.length ≤ 30
theorem LoA.same {C : Addr} {H H' : Hp} {a : Addr} {m : AL} (h : LoA C H a m) (s : Same H H') : LoA C H' a m := by
  obtain ⟨⟨d, dx, h1, h2⟩, nd, ps, ln⟩ := h
  exact ⟨⟨d, dx, s _ _ h1, s _ _ h2⟩, nd, ps, ln⟩
theorem LoA.upd {C : Addr} {H : Hp} {a p : Addr} {m : AL} {o : HO} (h : LoA C H a m) (hp : H p = none) : LoA C (L2.upd H p o) a m := h.same fun _ _ e => upd_at e (ne_of_none e hp)
theorem pos_all {m : AL} (h : ∀ p ∈ m, 0 < p.2) : pos m = m := List.filter_eq_self.mpr fun p hp => decide_eq_true (h p hp)
theorem LoA.pos {C : Addr} {H : Hp} {a : Addr} {m : AL} (h : LoA C H a m) : My.pos m = m := pos_all h.ps
theorem get_pos {m : AL} (h : ∀ p ∈ m, 0 < p.2) (nd : (keys m).Nodup) {k : Str} (hk : k ∈ keys m) : 0 < get m k := by
  obtain ⟨p, hp, rfl⟩ := List.mem_map.mp hk
  have e : look m p.1 = some p.2 := (look_mem nd).mpr hp
  unfold get
  rw [e]
  exact h p hp
theorem get_none {m : AL} {k : Str} (hk : k ∉ keys m) : get m k = 0 := by
  unfold get
  rw [look_none.mpr hk]
  rfl
theorem get_nn {m : AL} (h : ∀ p ∈ m, 0 < p.2) (nd : (keys m).Nodup) (k : Str) : 0 ≤ get m k := by
  by_cases c : k ∈ keys m
  · exact Int.le_of_lt (get_pos h nd c)
  · rw [get_none c]
    exact Int.le_refl _
theorem enc_keys (m : AL) : (enc m).map (·.1) = (keys m).map Sum.inr := by
  unfold enc keys
  rw [List.map_map, List.map_map]
  rfl
section
variable {X : Cx} {CX : CXT} {k : Nat} {C : Addr} {m : Str} {ps : List Str} {sp : Sp} {E : XK}
theorem pe_methO0 {o : Expr} {ta : TE} {pos apos : Pos} {pl : Sem Bool} (O : OCal X.prog X.w X.K X.mg X.base CX k C m ps sp) (c : Cls X.K C) (hr : Room k X.A) (hx : Passes CX X E) (ho : PE X o ta)
    (h3 : eval (.Call (.Attribute o m apos) [] [] pos) X.env = (do
      let ov ← eval o X.env
      standAt apos.atName
      let __x ← holding [ov] (getMethod ov m pl)
      match __x with
      | (f, first) => callWith pos f first (backTo pos (starEach [] X.env)) (backToKw pos (keywordEach [] X.env))) := by with_unfolding_all rfl) :
    PE X (.Call (.Attribute o m apos) [] [] pos) (tMeth C m sp [] E ta tNil) := by
  obtain ⟨f, fd, F, hs, hf, hk, _, hb⟩ := O.ex
  exact pe_meth0 (pl := pl) ho c ⟨hs, hf, hk⟩ F hr hb .nil hx h3
theorem r_meth0 {σ : L2.St} {H : Hp} {Q : VK} {ta : TE} (h : ta σ H fun x H1 => ∃ a dx fs, x = .ref a ∧ H1 a = some (.ins C dx fs) ∧ fs.lookup m = none ∧ sp [x] H1 Q E) : tMeth C m sp [] E ta tNil σ H Q := h
/-- C(e): a new instance by __init__ -/
structure OMk (P : Program) (w : World) (K : PySem.W.Frag) (mg : Str → Option Value) (base : Heap) (CX : CXT) (k : Nat) (C : Addr) (x : Str) (ps : List Str) (sp : Sp) : Prop where
  ex : ∃ (f : Addr) (fd : FuncData), Mk K C f ∧ FnOk P w K mg base CX k f fd ps sp ∧ mg x = some (.ref C) ∧ Binds K fd ps []
def tMk (C : Addr) (sp : Sp) (E : XK) (t : TA) : TE := fun σ H Q => t σ H fun vs H1 => ∀ x dx, H1 x = none → H1 dx = none → dx ≠ x → sp (.ref x :: vs) (upd (upd H1 dx (.own x)) x (.ins C dx [])) (fun v H2 => v = .non ∧ Q (.ref x) H2) E
theorem pe_makeO {x : Str} {e : Expr} {es : List Expr} {t : TA} {p pos : Pos} (O : OMk X.prog X.w X.K X.mg X.base CX k C x ps sp) (hr : Room (k + 1) X.A) (hx : Passes CX X E) (ha : PA X (e :: es) t) (hg : Gl X x := by rfl)
    (hdb : (x == ("__debug__" : Str)) = false := by decide) (he : starEach (e :: es) X.env = (false, eval e X.env) :: starEach es X.env := by rfl) (hpl : (backTo pos (starEach es X.env)).any (·.1) = false := by rfl) : PE X (.Call (.Name x p) (e :: es) [] pos) (tMk C sp E t) := by
  obtain ⟨f, fd, M, F, hm, hb⟩ := O.ex
  have h := pe_make (p := p) (pos := pos) M F hr hg hm hb (dvs := []) .nil hx ha hdb he hpl
  refine ⟨fun pins s σ H Q I q => h.run pins s σ H Q I ?_⟩
  have e : (fun vs H1 => ∀ x dx, H1 x = none → H1 dx = none → dx ≠ x → sp (.ref x :: (vs ++ [])) (upd (upd H1 dx (.own x)) x (.ins C dx [])) (fun v H2 => v = .non ∧ Q (.ref x) H2) E) = fun vs H1 => ∀ x dx, H1 x = none → H1 dx = none → dx ≠ x → sp (.ref x :: vs) (upd (upd H1 dx (.own x)) x (.ins C dx [])) (fun v H2 => v = .non ∧ Q (.ref x) H2) E := by
    funext vs H1
    rw [List.append_nil]
  show t σ H _
  rw [e]
  exact q
end
theorem fldK {X : Cx} {e : Expr} {f : Str} {pos : Pos} {ta : TE} (K : PySem.W.Frag) (h : PE X e ta) (hb : attributeBase e f X.env (eval e X.env) = eval e X.env) (eK : X.K = K := by rfl) : PE X (.Attribute e f pos) (tFld K ta f) := by
  subst eK
  exact pe_fld h hb
theorem rising_sle : ∀ {r : List Str} {x : Str}, PyProof.Rows.risingS x r = true → (x :: r).Pairwise (fun a b => sle a b = true)
  | [], x, _ => List.pairwise_singleton _ _
  | y :: r, x, h => by
    unfold PyProof.Rows.risingS at h
    rw [Bool.and_eq_true, PyProof.Rows.ltCps_eq] at h
    have ih := rising_sle h.2
    have h1 : sle x y = true := h.1
    refine List.pairwise_cons.mpr ⟨fun b hb => ?_, ih⟩
    rcases List.mem_cons.mp hb with z | z
    · rw [z]
      exact h1
    · exact sle_trans h1 ((List.pairwise_cons.mp ih).1 b z)
theorem sorted_sle : ∀ {ys : List Str}, PyProof.Rows.sortedS ys = true → ys.Pairwise (fun a b => sle a b = true)
  | [], _ => List.Pairwise.nil
  | _ :: _, h => rising_sle h
theorem cn_of {m : AL} {ys : List Str} (h : ∀ p ∈ m, 0 < p.2) (nd : (keys m).Nodup) (hp : ys.Perm (keys m)) (hs : PyProof.Rows.sortedS ys = true) : Cn m (ys.map fun k => (k, get m k)) := by
  constructor
  · rw [pos_all h]
    refine (hp.map _).trans (List.Perm.of_eq ?_)
    unfold keys
    rw [List.map_map]
    refine (List.map_congr_left fun p hp => ?_).trans (List.map_id m)
    show (p.1, get m p.1) = p
    unfold get
    rw [(look_mem nd).mpr (show (p.1, p.2) ∈ m from hp)]
    rfl
  · rw [List.pairwise_map]
    refine List.Pairwise.imp (fun {a b} z => ?_) (List.Pairwise.and (sorted_sle hs) (hp.nodup_iff.mpr nd))
    show (if a = b then _ else sle a b) = true
    rw [if_neg z.2]
    exact z.1
theorem Cn.mem {m qs : AL} (h : Cn m qs) (mp : ∀ p ∈ m, 0 < p.2) (p : Str × Int) : p ∈ qs ↔ p ∈ m := by
  have := h.1.mem_iff (a := p)
  rwa [pos_all mp] at this
theorem Cn.len {m qs : AL} (h : Cn m qs) (mp : ∀ p ∈ m, 0 < p.2) : qs.length = m.length := by
  have := h.1.length_eq
  rwa [pos_all mp] at this
theorem r_mk {C : Addr} {sp : Sp} {E : XK} {σ : L2.St} {H : Hp} {Q : VK} {t : TA} (h : t σ H fun vs H1 => ∀ x dx, H1 x = none → H1 dx = none → dx ≠ x → sp (.ref x :: vs) (L2.upd (L2.upd H1 dx (.own x)) x (.ins C dx [])) (fun v H2 => v = .non ∧ Q (.ref x) H2) E) : tMk C sp E t σ H Q := h
/-- facts of the class Lot -/
structure TxL (K : PySem.W.Frag) (C : Addr) : Prop where
  oc : OCls K C
  nM : NoAttr K C "_many"
theorem r_many {σ : L2.St} {H : Hp} {Q : VK} {K : PySem.W.Frag} {C a d dx : Addr} {i : Nat} (L : TxL K C) (h : H a = some (.ins C dx [("_many", .ref d)])) (q : Q (.ref d) H) (e : σ[i]? = some (some (.ref a)) := by rfl) : tFld K (tVar i) "_many" σ H Q :=
  ⟨_, e, a, C, dx, _, _, rfl, h, L.oc.cl, L.nM, List.lookup_cons_self, q⟩
theorem look1 {m : Str} {v : V} (h : (m == ("_many" : Str)) = false := by decide +kernel) : List.lookup m [(("_many" : Str), v)] = none := by
  rw [List.lookup_cons, h]
  rfl
theorem r_setD {P : Program} {w : World} {H : Hp} {Q : VK} {d : Addr} {m : AL} (h : H d = some (.dK (enc m))) (hn : m.length ≤ 30) (q : ∀ a, H a = none → Q (.ref a) (L2.upd H a (SetSO P w a (keys m)))) : rSetD P w [.ref d] H Q := ⟨d, enc m, keys m, rfl, h, enc_keys m, by rw [enc_len]; exact hn, q⟩
theorem r_sortedSO {P : Program} {w : World} {H : Hp} {Q : VK} {a : Addr} {L : List Str} (h : H a = some (SetSO P w a L)) (hn : L.length < 64) (q : ∀ (ys : List Str) (p : Addr), ys.Perm L → PyProof.Rows.sortedS ys = true → H p = none → Q (.ref p) (L2.upd H p (.lst (ys.map V.str)))) : rSortedSet' P w [.ref a] H Q := ⟨a, L, rfl, h, hn, q⟩
end My

namespace My
open PySem L2
/-- a def with defaults, called with all its arguments -/
theorem binds_full {K : PySem.W.Frag} {x qual : Str} {params : Arguments} {body : List Stmt} {scope : PySem.Scope} {dvs : List V} {kws : List (Str × V)} {f : Addr} {fd : FuncData} {ps : List Str} (F : FunD K x qual params body scope dvs kws f fd) (hd : dvs ≠ [])
    (h : ∀ (T : Addr) (kV doc pm : Value) (an : Option Addr) (cdv ct : Value) (us : List Value), us.length = ps.length → ∃ k, bindArgs (PySem.W.fnOf x qual params body scope (.ref T) kV doc pm an cdv ct) { pos := us } = seqItems? (.ref T) >>= k ∧ ∀ its : List Value, its.length = dvs.length → k (some its.toArray) = pure (ps.zip us)) : Binds K fd ps [] := by
  intro s us hk hl
  obtain ⟨oc, od, dV, kV, doc, pm, an, cdv, ct, osl, rfl, h1, h2, h3, h4⟩ := F.ex
  rcases h3 with ⟨e, _⟩ | ⟨_, T, o, its, n, rfl, e1, e2, hv⟩
  · exact absurd e hd
  rw [List.append_nil] at hl ⊢
  obtain ⟨k, hb, hk2⟩ := h T kV doc pm an cdv ct us hl
  refine BindsTo.of_looks fun M => ?_
  rw [hb]
  refine looks_items hk e1 e2 ?_
  rw [hk2 its (Paired.len hv).symm]
  exact PySem.W.Looks.now
end My

/-! Lots that are changed in place: the Lot's own dict has an address -/
namespace My
open PySem L2
section
variable {C : Addr}
/-- a Lot whose dict stands at d -/
structure LoD (C : Addr) (H : Hp) (x d : Addr) (m : AL) : Prop where
  at_ : ∃ dx, H x = some (.ins C dx [("_many", .ref d)])
  di : H d = some (.dK (enc m))
  nd : (keys m).Nodup
  ps : ∀ p ∈ m, 0 < p.2
  ln : m.length ≤ 30
theorem LoD.lo {H : Hp} {x d : Addr} {m : AL} (h : LoD C H x d m) : LoA C H x m := by
  obtain ⟨⟨dx, h1⟩, h2, h3, h4, h5⟩ := h
  exact ⟨⟨d, dx, h1, h2⟩, h3, h4, h5⟩
theorem LoD.same {H H' : Hp} {x d : Addr} {m : AL} (h : LoD C H x d m) (s : Same H H') : LoD C H' x d m := by
  obtain ⟨⟨dx, h1⟩, h2, h3, h4, h5⟩ := h
  exact ⟨⟨dx, s _ _ h1⟩, s _ _ h2, h3, h4, h5⟩
theorem LoD.ne {H : Hp} {x d y e : Addr} {m m' : AL} (h : LoD C H x d m) (h' : LoD C H y e m') : x ≠ e := fun z => by
  obtain ⟨dx, h1⟩ := h.at_
  rw [z, h'.di] at h1
  cases h1
/-- a new Lot with a new dict -/
def LoN (C : Addr) (H H' : Hp) (x : Addr) (m : AL) : Prop := ∃ d, H d = none ∧ LoD C H' x d m
theorem LoN.lo {H H' : Hp} {x : Addr} {m : AL} (h : LoN C H H' x m) : LoA C H' x m := by
  obtain ⟨d, _, h⟩ := h
  exact h.lo
theorem LoN.mono {H0 H H' : Hp} {x : Addr} {m : AL} (h : LoN C H H' x m) (s : Same H0 H) : LoN C H0 H' x m := by
  obtain ⟨d, h1, h⟩ := h
  exact ⟨d, Same.free s h1, h⟩
theorem LoN.same {H H' H'' : Hp} {x : Addr} {m : AL} (h : LoN C H H' x m) (s : Same H' H'') : LoN C H H'' x m := by
  obtain ⟨d, h1, h⟩ := h
  exact ⟨d, h1, h.same s⟩
/-- all but what stands at x and d is as it was -/
def Kx (x d : Addr) (H H' : Hp) : Prop := ∀ c o, H c = some o → c ≠ x → c ≠ d → H' c = some o
theorem Kx.of {x d : Addr} {H H' : Hp} (s : Same H H') : Kx x d H H' := fun c o e _ _ => s c o e
theorem Kx.kp {x d : Addr} {H H' : Hp} (s : Kp x H H') : Kx x d H H' := fun c o e n _ => s c o e n
theorem LoD.kx {H H' : Hp} {x d y e : Addr} {m : AL} (h : LoD C H y e m) (k : Kx x d H H') (n1 : y ≠ x) (n2 : y ≠ d) (n3 : e ≠ x) (n4 : e ≠ d) : LoD C H' y e m := by
  obtain ⟨⟨dx, h1⟩, h2, h3, h4, h5⟩ := h
  exact ⟨⟨dx, k _ _ h1 n1 n2⟩, k _ _ h2 n3 n4, h3, h4, h5⟩
end
end My

namespace My
open PySem L2
end My

namespace My
open PySem L2
/-- X(): an own class of errors without __init__, made of nothing -/
theorem pmk_own0 {X : Cx} {C : Addr} {bmB : List Value} {B newId initId : String} {x : Str} {p pos : Pos} (F : ExcBaseFacts B newId initId bmB) (q : PySem.W.excIn X.K C bmB newId = true) (gC : X.mg x = some (.ref C)) (kC : PySem.W.keepIn X.K (.ref C) = true) (r : Raises X (.ref C)) (hg : Gl X x) (hdb : (x == ("__debug__" : Str)) = false := by decide) :
    PMk X (.Call (.Name x p) [] [] pos) (fun _ H Q => Q (.ref C) none H) := by
  intro pins s σ H Q I h
  refine wpAny_Call_Name_kw (ld_glob I hg gC ?_ hdb)
  refine PySem.W.callWith_K0 I.kIn kC ?_
  obtain ⟨bm, N, nm, qn, bs, hdct, sn, sub, ab, col, dd, k0, k1, k2, k3, k5, mN, hC, hN, hni, T⟩ := exc_obj I.kIn q
  exact wpAny_call_exc_subT F T hC hN hni (fun h' e hm => mk_of I hm r h (HOk.gone I.hok hm.new)) (Nat.zero_le _)
end My

namespace My
open PySem L2
theorem hu64 {k : Nat} {A : Around} (h : Room k A) : A.units + 64 < cLine := by
  have := h.un
  omega
def pd1 (p : Str × Int) : PyData := .tuple [.str p.1, .int p.2]
def pd (qs : AL) : PyData := .tuple (qs.map pd1)
theorem dp_all {K : PySem.W.Frag} {H : Hp} : ∀ {xs : List V} {qs : AL}, Paired (PrA H) xs qs → DpAll K H xs (qs.map pd1)
  | _, _, .nil => .nil
  | _, _, .cons h r => by
    obtain ⟨t, e, ht⟩ := h
    subst e
    exact .cons (.tup (SqT.of ht) (.cons (.str _) (.cons (.int _) .nil))) (dp_all r)
theorem dp_pairs {K : PySem.W.Frag} {H : Hp} {a : Addr} {xs : List V} {qs : AL} (h : H a = some (.tup xs)) (hp : Paired (PrA H) xs qs) : Dp K H (.ref a) (pd qs) := .tup (SqT.of h) (dp_all hp)
theorem strOk_kind {z : Str} (h : KindS z) : PyData.strOk z = true := by
  show z.cps.all (fun c => decide (c < 0x110000)) = true
  rw [← Array.all_toList, List.all_eq_true]
  intro c hc
  have := h.2.2 c hc
  exact decide_eq_true (by omega)
theorem can_pd {qs : AL} (h : ∀ p ∈ qs, KindS p.1) : (pd qs).canLay0 = true := by
  unfold pd
  unfold PyData.canLay0
  induction qs with
  | nil => rfl
  | cons p r ih =>
    rw [List.map_cons]
    show (PyData.canLay0 (pd1 p) && PyData.canLayAll0 (List.map pd1 r)) = true
    rw [ih fun q hq => h q (List.mem_cons_of_mem _ hq), Bool.and_true]
    show (PyData.strOk p.1 && (true && true)) = true
    rw [strOk_kind (h p List.mem_cons_self)]
    rfl
theorem depth_pd (qs : AL) : PyData.depthAll (qs.map pd1) ≤ 1 := by
  induction qs with
  | nil => exact Nat.zero_le _
  | cons p r ih =>
    rw [List.map_cons]
    show max (PyData.depth (pd1 p)) (PyData.depthAll (List.map pd1 r)) ≤ 1
    exact Nat.max_le.mpr ⟨by show max 0 (max 0 0) + 1 ≤ 1; decide, ih⟩
theorem shaped_pd {qs : AL} (h : ∀ p ∈ qs, KindS p.1) : SeqAt.shaped (pd qs) = true := by
  unfold SeqAt.shaped
  rw [can_pd h, Bool.true_and]
  refine decide_eq_true ?_
  show PyData.depthAll (qs.map pd1) + 1 ≤ 64
  have := depth_pd qs
  omega
end My

/-! == of two dicts from texts to numbers -/
namespace My
open PySem L2
end My

/-! own classes: in, abs, ==, n * x -/
namespace PySem.W
open PySem PySem.Spec PySem.Calls PyProof.Rows
section
variable {prog : Program} {w : World} {A : Around} {E : Value → Shared → Prop} {s : Shared} {h₀ : Heap} {L : Addr} {m : Str → Option Value} {K : Frag} {x C f : Addr} {ox : Obj} {od : Option Obj}
end
end PySem.W
namespace My
open PySem L2 PySem.W
section
variable {X : Cx} {CX : CXT} {k : Nat} {f C : Addr} {fd : FuncData} {ps : List Str} {sp : Sp} {E : XK}
/-- x in y -/
theorem op_inO (O : OCal X.prog X.w X.K X.mg X.base CX k C "__contains__" ps sp) (hr : Room k X.A) (hx : Passes CX X E) :
    OpR X (compareOp .In) (fun x y H Q => ∃ a dx fs, y = .ref a ∧ H a = some (.ins C dx fs) ∧ sp [y, x] H (fun v H' => ∃ b, v = .bl b ∧ Q (.bl b) H') E) := by
  intro pins s σ H x y v u Q I rx ry h
  obtain ⟨a, dx, fs, rfl, e1, h⟩ := h
  cases ry
  obtain ⟨f, fd, F, hs, hf, hk, hfn, hb⟩ := O.ex
  obtain ⟨mA, J, _⟩ := ins_get I.hok e1
  obtain ⟨od, J, _⟩ := J.look
  obtain ⟨m, hF⟩ := I.fr
  refine in_K hF I.ok.mod.kin J hs hf ?_
  refine wpAny_mono (run_at F hr rfl hb (fun e s' c => hx pins σ H s e s' I c) I (vs := [.ref a, x]) (.cons rfl (.cons rx .nil)) h) (fun u s' q => ?_) fun _ _ z => z
  obtain ⟨z, H', I', rz, b, rfl, q⟩ := q
  cases rz
  exact wpAny_truthy_bool ⟨.bl b, H', I', rfl, q⟩
end
end My

namespace My
open PySem L2
/-! sets of texts made of a list of texts -/
theorem find_some {P : Program} {w : World} {ks : List Str} {k : Str} {es : List (Int × Value)} (hv : Vals (ks.map V.str) (es.map (·.2))) (hk : k ∈ ks) : ∃ j, List.findIdx? (fun e => (mixKind P w).is (Sum.inr k) e.2) es = some j := by
  cases h : List.findIdx? (fun e => (mixKind P w).is (Sum.inr k) e.2) es with
  | some j => exact ⟨j, rfl⟩
  | none =>
    rw [List.findIdx?_eq_none_iff] at h
    exfalso
    induction ks generalizing es with
    | nil => cases hk
    | cons y r ih =>
      cases es with
      | nil => cases hv
      | cons e es =>
        cases hv with
        | cons h1 h2 =>
          rcases List.mem_cons.mp hk with z | z
          · obtain ⟨tk, ht⟩ := h1
            have q := h e List.mem_cons_self
            replace q : Value.isStrOf k e.2 = false := q
            replace ht : e.2 = Value.str y tk := ht
            rw [ht] at q
            replace q : (y == k) = false := q
            rw [z, beq_self_eq_true] at q
            cases q
          · exact ih h2 z fun x hx => h x (List.mem_cons_of_mem _ hx)
theorem setS_old {P : Program} {w : World} {A : Around} {E : Value → Shared → Prop} {s : Shared} {a : Addr} {L : List Str} {k : Str} {tk : Tok} {Q : Bool → Shared → Prop} (R : SetSR P w s.heap a L) (hk : k ∈ L)
    (hQ : Q false s) : wpAny (model P w) A (setAddHashed a (.str k tk) ((mixKind P w).hash (Sum.inr k))) Q E s := by
  obtain ⟨o, es, ep, t, ks, ho, hex, hd, hel, hv, hp, hb, hf, hr, hl⟩ := R
  have hkey : (mixKind P w).is (Sum.inr k) (Value.str k tk) = true := by show (k == k) = true; exact beq_self_eq_true k
  have hsc : (Value.str k tk).scannable = true := rfl
  have hk' : k ∈ ks := hp.mem_iff.mpr hk
  show wpAny (model P w) A (holding [Value.str k tk] do setAddHashedIn a (.str k tk) ((mixKind P w).hash (Sum.inr k)) (99999 + 1)) Q E s
  rw [setAddHashedIn_succ]
  refine wpAny_holding (wpAny_bind (wpAny_setState_of ho hd hf ?_))
  show wpAny (model P w) _ (if byScan (Value.str k tk) es = true then _ else _) _ _ _
  rw [if_pos (byScan_of hsc hb hel)]
  refine wpAny_bind ?_
  unfold setAddByScan
  refine wpAny_bind (wpAny_rule ?_)
  refine wpAny_bind (wpAny_setScan_of (knd := mixKind P w) (k := Sum.inr k) hkey ho hd hf hel ?_)
  obtain ⟨j, hj⟩ := find_some (P := P) (w := w) hv hk'
  rw [hj]
  exact wpAny_pure (wpAny_pure hQ)
theorem SetSR.nil {P : Program} {w : World} {s : Shared} {a : Addr} (ho : s.heap.get? a = some { cls := .type "set", dict := none, data := .set #[] 0 (.fresh 0 0 (!w.params.followText "set-order")) }) : SetSR P w s.heap a [] :=
  SetTR.to_s (s := s) (setTR_fresh ho)
theorem SetSR.at_ {P : Program} {w : World} {h h' : Heap} {a : Addr} {L : List Str} (R : SetSR P w h a L) (k : ∀ o, h.get? a = some o → h'.get? a = some o) : SetSR P w h' a L := by
  obtain ⟨o, es, ep, t, ks, ho, r⟩ := R
  exact ⟨o, es, ep, t, ks, k o ho, r⟩
theorem nodup_sub_len {α : Type} [DecidableEq α] : ∀ {l m : List α}, l.Nodup → (∀ x ∈ l, x ∈ m) → l.length ≤ m.length
  | [], _, _, _ => Nat.zero_le _
  | x :: l, m, h, s => by
    have hx := s x List.mem_cons_self
    have h2 := nodup_sub_len (m := m.erase x) (List.nodup_cons.mp h).2 fun y hy => by
      refine (List.mem_erase_of_ne (fun e : y = x => (List.nodup_cons.mp h).1 (by rw [← e]; exact hy))).mpr (s y (List.mem_cons_of_mem _ hy))
    rw [List.length_erase_of_mem hx] at h2
    have := List.length_pos_of_mem hx
    rw [List.length_cons]
    omega
/-- what of xs is taken up to i: no text twice -/
structure GotS (xs : List Str) (i : Nat) (L : List Str) : Prop where
  nd : L.Nodup
  me : ∀ k, k ∈ L ↔ k ∈ xs.take i
theorem GotS.zero (xs : List Str) : GotS xs 0 [] := ⟨List.nodup_nil, fun k => by rw [List.take_zero]⟩
theorem GotS.same {xs : List Str} {i : Nat} {L : List Str} {k : Str} (g : GotS xs i L) (hk : xs[i]? = some k) (h : k ∈ L) : GotS xs (i + 1) L := ⟨g.nd, fun j => by
  rw [List.take_add_one, hk, List.mem_append, ← g.me j]
  refine ⟨.inl, fun z => z.elim id fun z => ?_⟩
  rw [List.mem_singleton.mp z]
  exact h⟩
theorem GotS.more {xs : List Str} {i : Nat} {L : List Str} {k : Str} (g : GotS xs i L) (hk : xs[i]? = some k) (h : k ∉ L) : GotS xs (i + 1) (k :: L) := ⟨List.nodup_cons.mpr ⟨h, g.nd⟩, fun j => by
  rw [List.take_add_one, hk, List.mem_append, ← g.me j, List.mem_cons]
  exact ⟨fun z => z.elim (fun z => .inr (by rw [z]; exact List.mem_singleton_self _)) .inl, fun z => z.elim .inr fun z => .inl (List.mem_singleton.mp z)⟩⟩
theorem GotS.len {xs : List Str} {i : Nat} {L : List Str} (g : GotS xs i L) : L.length ≤ xs.length := by
  have h := nodup_sub_len g.nd fun k hk => (g.me k).mp hk
  rw [List.length_take] at h
  omega
section
open PySem.Spec PyProof.Rows
variable {P : Program} {w : World} {A : Around} {E : Value → Shared → Prop} {s : Shared}
theorem set_update_strs {I : Addr} {fp wr : List Addr} {G : Array GenState → Array GenState → Prop} {n : Nat} {Pv : Nat → Value → Prop} {St : Nat → Shared → Prop} {R : Result → Shared → Prop}
    (W : WalksS P w A.in1 I fp wr G n Pv St) (S : Addr) (hSf : S ∉ fp) (ks : List Str) (hn : n = ks.length) (hfew : ks.length < 64) (hval : ∀ i v, Pv i v → ∃ k t, ks[i]? = some k ∧ v = .str k t) :
    ∀ (k i : Nat) (s : Shared), n - i = k → i ≤ n → St i s → (∃ L, SetSR P w s.heap S L ∧ GotS ks i L) →
      (∀ s' L, Moved (S :: wr) G s s' → SetSR P w s'.heap S L → GotS ks n L → R (.ok (.ret .none)) s') →
      codeAny (model P w) A (.builtin "set.update.loop" ⟨[.ref S, .ref I], []⟩) R s := by
  have hSw : S ∉ wr := fun h => hSf (W.sub _ h)
  have hsub : ∀ b ∈ wr, b ∈ S :: wr := fun b hb => List.mem_cons_of_mem _ hb
  intro k
  induction k with
  | zero =>
    intro i s hk' hi hst ⟨L, hS, g⟩ hR
    have hin : i = n := by omega
    subst hin
    refine codeAny_builtin PyProof.Rows.F.entry_set_update_loop ?_
    rw [Around.under_plainId PyProof.Rows.F.plain_set_update_loop _]
    show wpAny _ A.in1 (pyNext (.ref I) >>= _) _ _ s
    refine wpAny_bind (W.done s _ _ hst fun s' hm => ?_)
    show wpAny _ A.in1 (ret Value.none) _ _ s'
    exact wpAny_pure (hR s' L (hm.mono hsub) (hS.at_ fun o e => hm.heap S o hSw e) g)
  | succ k ih =>
    intro i s hk' hi hst ⟨L, hS, g⟩ hR
    have hlt : i < n := by omega
    refine codeAny_builtin PyProof.Rows.F.entry_set_update_loop ?_
    rw [Around.under_plainId PyProof.Rows.F.plain_set_update_loop _]
    show wpAny _ A.in1 (pyNext (.ref I) >>= _) _ _ s
    refine wpAny_bind (W.item i s _ _ hlt hst fun v s' hP hst' hm => ?_)
    obtain ⟨p, t, hp, rfl⟩ := hval i v hP
    have hS' : SetSR P w s'.heap S L := hS.at_ fun o e => hm.heap S o hSw e
    show wpAny _ A.in1 (holding [Value.str p t] (setAdd S (.str p t)) >>= _) _ _ s'
    refine wpAny_bind (wpAny_holding ?_)
    unfold setAdd
    refine wpAny_holding ?_
    refine wpAny_bind ((mixKind P w).pyHash (k := Sum.inr p) (show (p == p) = true from beq_self_eq_true p) ?_)
    have room := g.len
    by_cases c : p ∈ L
    · refine setS_old (s := { s' with toks := s'.toks + 1 }) hS' c ?_
      refine wpAny_pure ⟨plainId_quiet PyProof.Rows.F.plain_set_update_loop _, ih (i + 1) _ (by omega) hlt (W.frame _ s' _ _ hst' (Nat.le_succ _) fun b hb o e => e) ⟨L, hS', g.same hp c⟩ fun s'' L2 hm'' hS'' g'' => ?_⟩
      exact hR s'' L2 (Moved.trans W.gtrans ((hm.mono hsub).then_heap (Nat.le_succ _) fun b o hb e => e) hm'') hS'' g''
    · refine setS_add (s := { s' with toks := s'.toks + 1 }) hS' c (by unfold scanBound; omega) fun h' hsb R' => ?_
      refine wpAny_pure ⟨plainId_quiet PyProof.Rows.F.plain_set_update_loop _, ih (i + 1) _ (by omega) hlt (W.frame _ s' _ _ hst' (Nat.le_succ _) fun b hb o e => ?_) ⟨_, R', g.more hp c⟩ fun s'' L2 hm'' hS'' g'' => ?_⟩
      · rw [hsb.2 b (fun h : b = S => hSf (by rw [← h]; exact hb))]; exact e
      · refine hR s'' L2 (Moved.trans W.gtrans ((hm.mono hsub).then_heap (Nat.le_succ _) fun b o hb e => ?_) hm'') hS'' g''
        rw [hsb.2 b (fun h : b = S => hb (by rw [h]; exact List.mem_cons_self))]; exact e

set_option maxHeartbeats 3200000 in
/-- set(xs) -/
theorem call_set_strs {l : Addr} {items : Array Value} (ks : List Str) {Q : Value → Shared → Prop} (hh : A.handled = none) (hl : s.heap.IsList l items) (hit : StrsAre items.toList ks) (hfew : ks.length < 64)
    (h : ∀ (h' : Heap) (tk : Nat) L, SetSR P w h' s.heap.objs.size L → GotS ks ks.length L → (∀ b o, s.heap.get? b = some o → h'.get? b = some o) → Q (.ref s.heap.objs.size) { s with heap := h', toks := tk }) :
    wpAny (model P w) A (call (.type "set") [.ref l]) Q E s := by
  have hisz : items.size = ks.length := by rw [← StrsAre.len_eq hit, Array.length_toList]
  obtain ⟨c, tl, hmro⟩ := PySem.F.called_set.mro
  have hmade := PySem.F.called_set.made
  have hsub := PySem.F.called_set.sub
  refine wpAny_call (codeAny_of_tree ?_)
  show wpAny _ _ (callAny (.type "set") _) _ _ _
  refine wpAny_pure ⟨Code.quiet_builtin _ (by decide +kernel), codeAny_builtin PySem.F.entry_type_call ?_⟩
  rw [Around.under_plain (weight_type_call_type "set" [.ref l] []) rfl]
  have h1 := PySem.F.called_set.notType
  have h2 := PySem.F.called_set.canCreate
  have hct := PySem.F.typeCall_set_1 (.ref l)
  repeat (any_goals (first | assumption | wp_step))

  refine codeAny_mono (code_set_led1 (.ref l) (E := E) (Q₁ := fun obj s₁ => obj = .ref s.heap.objs.size ∧ s₁ = { s with heap := s.heap.push { cls := .type "set", dict := none, data := .set #[] 0 (.fresh 0 0 (!w.params.followText "set-order")) } }) ⟨rfl, rfl⟩) fun r s₁ hr => ?_
  cases r with
  | error e => exact hr
  | ok fl =>
    cases fl with
    | ret obj =>
      obtain ⟨rfl, rfl⟩ := hr
      have hS : (s.heap.push { cls := .type "set", dict := none, data := .set #[] 0 (.fresh 0 0 (!w.params.followText "set-order")) }).get? s.heap.objs.size = some { cls := .type "set", dict := none, data := .set #[] 0 (.fresh 0 0 (!w.params.followText "set-order")) } := Heap.get?_push_size _ rfl
      have hT : Shared.TypeIs { s with heap := s.heap.push { cls := .type "set", dict := none, data := .set #[] 0 (.fresh 0 0 (!w.params.followText "set-order")) } } (.ref s.heap.objs.size) "set" := ⟨_, hS, rfl⟩
      have hli := PySem.F.called_set.init.lookup
      have hbi := PySem.F.called_set.init.bind (.ref s.heap.objs.size)
      repeat (any_goals (first | assumption | wp_step))

      refine codeAny_mono (codeAny_call_builtin (R := wants (fun r s₂ => r = .none ∧ ∃ h' tk L, s₂ = { s with heap := h', toks := tk } ∧ SetSR P w h' s.heap.objs.size L ∧ GotS ks ks.length L ∧
          (∀ b o, s.heap.get? b = some o → h'.get? b = some o)) E) PySem.F.called_set.init.plain PySem.F.entry_set_init (check_set_init_1 hT ?_)) fun r₂ s₂ hr₂ => ?_
      · obtain ⟨ol, hol, hcl, nl, hdl⟩ := hl
        obtain ⟨ocls, odict, odata, oslots⟩ := ol
        simp only at hcl hdl
        subst hcl; subst hdl
        have hol' : (s.heap.push { cls := .type "set", dict := none, data := .set #[] 0 (.fresh 0 0 (!w.params.followText "set-order")) }).get? l = some { cls := .type "list", dict := odict, data := .seq items nl, slots := oslots } := Heap.get?_push_of_some _ hol
        have hsls := PySem.F.sub_list_set
        have hslf := PySem.F.sub_list_frozenset
        have hne : (Value.type "list" == Value.type "dict") = false := by decide
        have hl1 : (s.heap.push { cls := .type "set", dict := none, data := .set #[] 0 (.fresh 0 0 (!w.params.followText "set-order")) }).IsList l items := ⟨_, hol', rfl, nl, rfl⟩
        unfold Builtin.«set.__init__» noKeywords Builtin.Frozenset.updateFrom
        generalize hPI : pyIter = PI
        wp_walk
        subst hPI

        refine wpAny_pyIter_list hl1 ?_
        refine wpAny_bind (wpAny_runValue ?_)
        have hlS : l < s.heap.objs.size := Heap.lt_size hol
        have hh3 : A.in1.in1.in1.handled = none := by simp [hh]
        have hneI : l ≠ (s.heap.push { cls := .type "set", dict := none, data := .set #[] 0 (.fresh 0 0 (!w.params.followText "set-order")) }).objs.size := by
          rw [Heap.size_push]; exact Nat.ne_of_lt (Nat.lt_succ_of_lt hlS)
        have hSf : s.heap.objs.size ∉ [(s.heap.push { cls := .type "set", dict := none, data := .set #[] 0 (.fresh 0 0 (!w.params.followText "set-order")) }).objs.size, l] := by
          rw [Heap.size_push]; simp only [List.mem_cons, List.mem_singleton, List.not_mem_nil, or_false, not_or]
          exact ⟨Nat.ne_of_lt (Nat.lt_succ_self _), Nat.ne_of_gt hlS⟩
        have hval : ∀ (i : Nat) (v : Value), items[i]? = some v → ∃ k t, ks[i]? = some k ∧ v = .str k t := fun i v hv => by
          obtain ⟨t, ht⟩ := SS.strs_at hit i v (by rw [Array.getElem?_toList]; exact hv)
          have hlt : i < ks.length := by
            rw [← hisz]
            exact (Array.getElem?_eq_some_iff.mp hv).1
          refine ⟨_, t, List.getElem?_eq_getElem hlt, ?_⟩
          rw [ht, List.getD_eq_getElem?_getD, List.getElem?_eq_getElem hlt]
          rfl
        refine set_update_strs ((Walks.list hh3 _ l hneI items).toS) s.heap.objs.size
          hSf ks hisz hfew hval (items.size - 0) 0 _ (by omega) (Nat.zero_le _)
          ⟨⟨_, Heap.get?_push_size _ rfl, rfl, rfl⟩, (hl1.push _)⟩ ?hS0 ?hR
        case hS0 =>
          refine ⟨[], ?_, GotS.zero ks⟩
          exact SetSR.at_ (SetSR.nil (s := { s with heap := s.heap.push { cls := .type "set", dict := none, data := .set #[] 0 (.fresh 0 0 (!w.params.followText "set-order")) } }) hS) fun o e => Heap.get?_push_of_some _ e
        case hR =>
          intro s' L hm hS' g'
          obtain ⟨h', g2, d', tk', os'⟩ := s'
          have eg : g2 = s.gens := hm.gens
          have ed : d' = s.drawn := hm.drawn
          have eo : os' = s.os := hm.os
          subst eg; subst ed; subst eo
          show wpAny _ _ _ _ _ _
          refine wpAny_pure ?_
          show wpAny _ _ (ret Value.none) _ _ _
          rw [hisz] at g'
          refine wpAny_pure ⟨rfl, h', tk', L, rfl, hS', g', fun b o e => ?_⟩
          have hb := Heap.lt_size e
          have hb1 : b ≠ s.heap.objs.size := Nat.ne_of_lt hb
          have hb2 : b ≠ (s.heap.push { cls := .type "set", dict := none, data := .set #[] 0 (.fresh 0 0 (!w.params.followText "set-order")) }).objs.size := by
            rw [Heap.size_push]; exact Nat.ne_of_lt (Nat.lt_succ_of_lt hb)
          exact hm.heap b o (by simp only [List.mem_cons, List.mem_singleton, List.not_mem_nil, or_false, not_or]; exact ⟨hb1, hb2⟩) (Heap.get?_push_of_some _ (Heap.get?_push_of_some _ e))

      · cases r₂ with
        | error e => exact hr₂
        | ok fl₂ =>
          cases fl₂ with
          | ret r =>
            obtain ⟨rfl, h', tk, L, rfl, hS', g', hk'⟩ := hr₂
            repeat (any_goals (first | assumption | wp_step))
            exact h _ _ _ hS' g' hk'
          | _ => exact hr₂.elim
    | _ => exact hr.elim
end
def rSetL (K : PySem.W.Frag) (P : Program) (w : World) : List V → Hp → VK → Prop := fun xs H Q => ∃ (l : Addr) (ks : List Str), xs = [V.ref l] ∧ SqL K H l (ks.map V.str) ∧ ks.length < 64 ∧
  ∀ a L, H a = none → L.Nodup → (∀ k, k ∈ L ↔ k ∈ ks) → Q (.ref a) (upd H a (SetSO P w a L))
theorem strs_of_vals : ∀ {ks : List Str} {us : List Value}, Vals (ks.map V.str) us → PyProof.Rows.StrsAre us ks
  | [], _, .nil => .nil
  | _ :: _, _, .cons ⟨t, e⟩ r => by
    subst e
    exact .cons _ t (strs_of_vals r)
/-- set(xs), xs a list of texts -/
theorem cr_setL {X : Cx} (hc : X.calm = true) : CallR X (.type "set") (rSetL X.K X.prog X.w) := by
  intro pins s σ H xs us Q I r h
  obtain ⟨l, ks, rfl, hl, hf, q⟩ := h
  obtain ⟨u, rfl, ru⟩ := vals1 r
  cases ru
  obtain ⟨its, rv, pl, hz⟩ := I.list hl
  have hn : H s.heap.objs.size = none := I.hok.fresh (Nat.le_refl _)
  refine call_set_strs (P := X.prog) (w := X.w) ks (I.ok.hd hc) pl.isList (by simpa using strs_of_vals rv) hf fun h' tk L R g k => ?_
  refine ⟨.ref s.heap.objs.size, upd H s.heap.objs.size (SetSO X.prog X.w s.heap.objs.size L), I.laid (t' := tk) k (Nat.le_refl _) (setSO_new R), rfl, q _ L hn g.nd fun j => ?_⟩
  rw [g.me j, List.take_length]
end My

namespace My
open PySem L2
/-! xs[lo::2] -/
/-- the items at 0, 2, 4 .. -/
def evs {α : Type} : List α → List α
  | [] => []
  | [a] => [a]
  | a :: _ :: r => a :: evs r
theorem evs_map {α β : Type} (f : α → β) : ∀ xs : List α, evs (xs.map f) = (evs xs).map f
  | [] => rfl
  | [_] => rfl
  | a :: _ :: r => by show f a :: evs (r.map f) = f a :: (evs r).map f; rw [evs_map f r]
theorem evs_len {α : Type} : ∀ xs : List α, (evs xs).length = (xs.length + 1) / 2
  | [] => by simp [evs]
  | [_] => by simp [evs]
  | a :: _ :: r => by show (evs r).length + 1 = (r.length + 1 + 1 + 1) / 2; rw [evs_len r]; omega
theorem evs_at {α : Type} : ∀ (xs : List α) (i : Nat), (evs xs)[i]? = xs[2 * i]?
  | [], i => by simp [evs]
  | [a], 0 => rfl
  | [a], i + 1 => by simp [evs]
  | a :: b :: r, 0 => rfl
  | a :: b :: r, i + 1 => by
    show (evs r)[i]? = _
    rw [evs_at r i, show 2 * (i + 1) = 2 * i + 1 + 1 from by omega]
    rfl
theorem pick2 {α : Type} (xs : Array α) (a n : Nat) (h : xs.size ≤ a + 2 * n) : ((List.range n).map (fun k => a + 2 * k)).filterMap (xs[·]?) = evs (xs.toList.drop a) := by
  rw [List.filterMap_map]
  have key : ∀ m : Nat, (List.range m).filterMap ((fun x => xs[x]?) ∘ fun k => a + 2 * k) = (evs (xs.toList.drop a)).take m := by
    intro m
    induction m with
    | zero => simp
    | succ m ih =>
      rw [List.range_succ, List.filterMap_append, ih, List.take_add_one]
      congr 1
      rw [evs_at, List.getElem?_drop, Array.getElem?_toList]
      show (List.filterMap _ [m]) = _
      simp only [List.filterMap_cons, List.filterMap_nil, Function.comp]
      cases xs[a + 2 * m]? <;> rfl
  rw [key n]
  refine List.take_of_length_le ?_
  rw [evs_len, List.length_drop, Array.length_toList]
  omega
theorem slicePick_two (its : List Value) (a : Nat) (lo : Option Int) (hlo : lo = none ∧ a = 0 ∨ lo = some (a : Int)) : slicePick its.toArray lo none (some 2) = (evs (its.drop a)).toArray := by
  have e : ∃ b : Nat, sliceBounds lo none (some 2) its.toArray.size = ((b : Int), (its.length : Int), 2) ∧ its.drop b = its.drop a := by
    rcases hlo with ⟨rfl, rfl⟩ | rfl
    · exact ⟨0, rfl, rfl⟩
    · refine ⟨min a its.length, ?_, ?_⟩
      · simp only [sliceBounds, Option.getD_some]
        have h1 : ¬ ((a : Int) < 0) := by omega
        simp only [h1, if_false, show (2 : Int) > 0 by decide, if_true, List.size_toArray]
        congr 1
        omega
      · by_cases c : a ≤ its.length
        · rw [Nat.min_eq_left c]
        · rw [Nat.min_eq_right (by omega), List.drop_length, List.drop_of_length_le (by omega)]
  obtain ⟨b, e, ed⟩ := e
  unfold slicePick
  rw [e, ← ed]
  have er : sliceRange (b : Int) (its.length : Int) 2 = (List.range ((its.length - b + 1) / 2)).map fun k => b + 2 * k := by
    unfold sliceRange
    by_cases h : (b : Int) < its.length
    · simp only [show (2 : Int) > 0 by decide, if_true, h]
      have e2 : (((its.length : Int) - b + 2 - 1) / 2).toNat = (its.length - b + 1) / 2 := by omega
      rw [e2]
      exact List.map_congr_left fun k _ => by omega
    · have e2 : (its.length - b + 1) / 2 = 0 := by omega
      simp [h, e2]
  show (((sliceRange (b : Int) (its.length : Int) 2).filterMap (its.toArray[·]?))).toArray = _
  rw [er, pick2 _ _ _ (by rw [List.size_toArray]; omega)]
def tSl2 (K : PySem.W.Frag) (te : TE) (tl th ts : TO) : TE := fun σ H Q => te σ H fun x H1 => tl σ H1 fun l H2 => th σ H2 fun u H3 => ts σ H3 fun st H4 => u = none ∧ st = some 2 ∧ ∃ (p : Addr) (xs : List V) (a : Nat), x = .ref p ∧ (l = none ∧ a = 0 ∨ l = some (a : Int)) ∧ SqL K H4 p xs ∧ ∀ q, H4 q = none → Q (.ref q) (upd H4 q (.lst (evs (xs.drop a))))
theorem evs_rel : ∀ {xs : List V} {us : List Value}, Vals xs us → Vals (evs xs) (evs us)
  | _, _, .nil => .nil
  | _, _, .cons h .nil => .cons h .nil
  | _, _, .cons h (.cons _ r) => .cons h (evs_rel r)
theorem vals_drop : ∀ {xs : List V} {us : List Value} (a : Nat), Vals xs us → Vals (xs.drop a) (us.drop a)
  | _, _, 0, h => h
  | _, _, _ + 1, .nil => .nil
  | _, _, a + 1, .cons _ r => vals_drop a r
section
open PyProof.Rows PySem.Spec
variable {X : Cx} {e : Expr} {te : TE} {lo hi : Option Expr} {st : Expr} {tl th ts : TO} {pos p2 : Pos}
/-- xs[lo::2] of a list -/
theorem pe_slice2 (he : PE X e te) (hl : PO X lo tl) (hu : PO X hi th) (hs : PO X (some st) ts) : PE X (.Subscript e (.Slice lo hi (some st) p2) pos) (tSl2 X.K te tl th ts) := by
  refine ⟨fun pins s σ H Q I h => ?_⟩
  refine Subscript_ (thn (he.run pins s σ H _ I h) fun v s1 ⟨x, H1, I1, r1, q1⟩ => ?_)
  refine wpAny_Slice (thn (hl.run pins s1 σ H1 _ I1 q1) fun vl s2 ⟨l, H2, I2, pl, q2⟩ => thn (hu.run pins s2 σ H2 _ I2 q2) fun vu s3 ⟨u, H3, I3, pu, q3⟩ => thn (hs.run pins s3 σ H3 _ I3 q3) fun vs s4 ⟨t, H4, I4, ps, q4⟩ => ?_)
  obtain ⟨rfl, rfl, p, xs, a, rfl, hla, hx, q⟩ := q4
  have I5 : Inv X pins σ H4 { s4 with heap := s4.heap.push { cls := .type "slice", data := .fields #[vl, vu, vs] } } := I4.kept (t' := s4.toks) fun b ob q => Heap.get?_push_of_some _ q
  cases r1
  obtain ⟨its, r, ht, hz⟩ := I5.list hx
  have hlen := r.length
  show wpAny (model X.prog X.w) X.A (subscriptTail e (.Slice lo hi (some st) p2) (.ref p) (.ref s4.heap.objs.size)) (EP X pins σ Q) X.xe { s4 with heap := s4.heap.push { cls := .type "slice", data := .fields #[vl, vu, vs] } }
  refine tail_any (T := "list") (ops := [.ref p, .ref s4.heap.objs.size]) ht.isList.typeIs slot_list_getitem.lookup ?_ (by with_unfolding_all rfl)
  refine wpAny_getItem_list_slice ht.isList (Heap.IsSliceOf.new ..) pl pu ps (by simp) ?_ (by rw [List.size_toArray] <;> omega)
  rw [slicePick_two its a l hla]
  have hz2 : (evs (xs.drop a)).length ≤ sizeLine := by
    rw [evs_len, List.length_drop]
    omega
  exact ⟨.ref _, _, I5.laid (t' := s4.toks) (o := .lst (evs (xs.drop a))) (fun b ob q => Heap.get?_push_of_some _ q) (Nat.le_refl _) ⟨hz2, _, 0, evs_rel (vals_drop a r), Heap.get?_push_size _ rfl⟩, rfl, q _ (I5.hok.fresh (Nat.le_refl _))⟩
end
end My

/-! C(e), whose __init__ raises -/
namespace My
open PySem L2
section
variable {X : Cx} {CX : CXT} {k : Nat} {f C : Addr} {fd : FuncData} {ps : List Str} {sp : Sp} {E : L2.St → XK} {ds : List Value} {dvs : List V}
theorem run_makeS {pins : List (Addr × Obj)} {σ : L2.St} {H : Hp} {s : Shared} {Q : VK} {us : List Value} {vs : List V} (M : Mk X.K C f) (F : FnOk X.prog X.w X.K X.mg X.base CX k f fd ps sp) (hr : Room (k + 1) X.A) (hb : Binds X.K fd ps ds) (hd : Vals dvs ds)
    (hx : PassS CX X E) (I : Inv X pins σ H s) (r : Vals vs us)
    (h : ∀ x dx, H x = none → H dx = none → dx ≠ x → sp (.ref x :: (vs ++ dvs)) (upd (upd H dx (.own x)) x (.ins C dx [])) (fun v H2 => v = .non ∧ Q (.ref x) H2) (E σ)) :
    wpAny (model X.prog X.w) X.A (call (.ref C) us) (EP X pins σ Q) X.xe s := by
  have hq := h (s.heap.objs.size + 1) s.heap.objs.size (I.hok.fresh (Nat.le_succ _)) (I.hok.fresh (Nat.le_refl _)) (Nat.ne_of_lt (Nat.lt_succ_self _))
  have I2 := Inv.made (C := C) I
  have r2 : Vals (V.ref (s.heap.objs.size + 1) :: (vs ++ dvs)) (Value.ref (s.heap.objs.size + 1) :: (us ++ ds)) := .cons rfl (r.append hd)
  have hl : (Value.ref (s.heap.objs.size + 1) :: us ++ ds).length = ps.length := by
    have e := r2.length
    rw [F.len _ _ _ _ hq] at e
    exact e.symm
  refine wpAny_call (make_map (f := f) I.kIn M.makes M.init (beq_iff_eq.mp M.fn) (codeAny_mono (F.run _ X.stack _ _ ⟨Value.ref (s.heap.objs.size + 1) :: us, []⟩ (Value.ref (s.heap.objs.size + 1) :: (us ++ ds)) _ _ (E σ) (hr.make C us [])
    (I2.env0.make C us []) (hb _ (Value.ref (s.heap.objs.size + 1) :: us) I2.kIn hl) r2 hq) fun r s' hq' => ?_))
  cases r with
  | error e => exact hx pins σ _ _ e s' I2 hq'
  | ok fl =>
    cases fl with
    | ret u =>
      obtain ⟨v, H', I3, rv, ev, q3⟩ := I2.after hq'
      subst ev
      exact ⟨rv, ⟨V.ref (s.heap.objs.size + 1), H', I3, rfl, q3⟩⟩
    | next => exact False.elim hq'
    | brk => exact False.elim hq'
    | cont => exact False.elim hq'
def tMkS (C : Addr) (sp : Sp) (E : L2.St → XK) (t : TA) : TE := fun σ H Q => t σ H fun vs H1 => ∀ x dx, H1 x = none → H1 dx = none → dx ≠ x → sp (.ref x :: vs) (upd (upd H1 dx (.own x)) x (.ins C dx [])) (fun v H2 => v = .non ∧ Q (.ref x) H2) (E σ)
theorem pe_makeS {x : Str} {e : Expr} {es : List Expr} {t : TA} {p pos : Pos} (O : OMk X.prog X.w X.K X.mg X.base CX k C x ps sp) (hr : Room (k + 1) X.A) (hx : PassS CX X E) (ha : PA X (e :: es) t) (hg : Gl X x := by rfl)
    (hdb : (x == ("__debug__" : Str)) = false := by decide) (he : starEach (e :: es) X.env = (false, eval e X.env) :: starEach es X.env := by rfl) (hpl : (backTo pos (starEach es X.env)).any (·.1) = false := by rfl) : PE X (.Call (.Name x p) (e :: es) [] pos) (tMkS C sp E t) := by
  obtain ⟨f, fd, M, F, hm, hb⟩ := O.ex
  refine ⟨fun pins s σ H Q I h => ?_⟩
  refine wpAny_Call_Name_kw (ld_glob I hg hm ?_ hdb)
  refine PySem.W.callWith_K (h₀ := X.base) I.ok.mod.kin M.kp (thn (ha.run pos pins s σ H _ I h) fun us s1 ⟨vs, H1, I1, r, q⟩ => ⟨I1.kIn, ?_⟩) he hpl
  refine run_makeS (dvs := []) M F hr hb .nil hx I1 r fun x dx h1 h2 h3 => ?_
  rw [List.append_nil]
  exact q x dx h1 h2 h3
theorem r_mkS {C : Addr} {sp : Sp} {E : L2.St → XK} {σ : L2.St} {H : Hp} {Q : VK} {t : TA} (h : t σ H fun vs H1 => ∀ x dx, H1 x = none → H1 dx = none → dx ≠ x → sp (.ref x :: vs) (L2.upd (L2.upd H1 dx (.own x)) x (.ins C dx [])) (fun v H2 => v = .non ∧ Q (.ref x) H2) (E σ)) : tMkS C sp E t σ H Q := h
end
end My

/-! x[k] = v and x op= y of own classes, that may raise -/
namespace My
open PySem L2
section
variable {X : Cx} {CX : CXT} {k : Nat} {C : Addr} {ps : List Str} {sp : Sp} {E : L2.St → XK}
end
end My

/-! own classes with keywords -/
namespace My
open PySem L2
def g1 {α : Type} : List α → List α → List α
  | [u], [v] => [u, v]
  | _, _ => []
theorem g1_rel {vs zs : List V} {us ws : List Value} (h : Vals vs us) (h' : Vals zs ws) : Vals (g1 vs zs) (g1 us ws) := by
  match vs, us, h, zs, ws, h' with
  | [], [], .nil, _, _, _ => exact .nil
  | [_], [_], .cons r .nil, [], [], .nil => exact .nil
  | [_], [_], .cons r .nil, [_], [_], .cons r' .nil => exact .cons r (.cons r' .nil)
  | [_], [_], .cons r .nil, _ :: _ :: _, _ :: _ :: _, .cons _ (.cons _ _) => exact .nil
  | _ :: _ :: _, _ :: _ :: _, .cons _ (.cons _ _), _, _, _ => exact .nil
structure OCalK (P : Program) (w : World) (K : PySem.W.Frag) (mg : Str → Option Value) (base : Heap) (CX : CXT) (k : Nat) (C : Addr) (m : Str) (ps ks : List Str) (sp : Sp) : Prop where
  ex : ∃ (f : Addr) (fd : FuncData), FnOk P w K mg base CX k f fd ps sp ∧ Meth K C m f ∧ KBinds K fd ps ks g1 g1
structure OMkK (P : Program) (w : World) (K : PySem.W.Frag) (mg : Str → Option Value) (base : Heap) (CX : CXT) (k : Nat) (C : Addr) (x : Str) (ps ks : List Str) (gV : List V → List V → List V) (sp : Sp) : Prop where
  ex : ∃ (f : Addr) (fd : FuncData) (g : List Value → List Value → List Value), Mk K C f ∧ FnOk P w K mg base CX k f fd ps sp ∧ mg x = some (.ref C) ∧ KBn K fd ps 1 ks g gV
section
variable {X : Cx} {CX : CXT} {k : Nat} {C : Addr} {ps ks : List Str} {sp : Sp} {E : XK} {m x : Str} {o : Expr} {ta : TE} {tk : TA} {pos apos p : Pos} {kws : List Keyword} {pl : Sem Bool} {gV : List V → List V → List V}
end
end My

/-! C(k = e, ..), whose __init__ raises -/
namespace My
open PySem L2 PyProof.Rows
section
variable {X : Cx} {CX : CXT} {k n : Nat} {f C : Addr} {fd : FuncData} {ps ks : List Str} {sp : Sp} {E : L2.St → XK} {x : Str} {p pos : Pos} {kws : List Keyword} {t tk : TA} {g : List Value → List Value → List Value} {gV : List V → List V → List V}
end
end My

namespace My
open PySem L2
end My

/-! classmethods that raise: C.m(e), C.m(k = e); cls(..) of a local that holds a class -/
namespace My
open PySem L2 PyProof.Rows
/-- C.m is a classmethod, its def keeps sp -/
structure CCal (P : Program) (w : World) (K : PySem.W.Frag) (mg : Str → Option Value) (base : Heap) (CX : CXT) (k : Nat) (C : Addr) (m : Str) (ps ks : List Str) (sp : Sp) : Prop where
  ex : ∃ (f p : Addr) (fd : FuncData) (mc : Value), FnOk P w K mg base CX k f fd ps sp ∧ ClX.CRead K C mc ∧ ClX.CMet K C mc m p f ∧ Binds K fd ps [] ∧ KBinds K fd ps ks g1 g1
def tCmS (C : Addr) (sp : Sp) (E : L2.St → XK) (ta : TE) (t : TA) : TE := fun σ H Q => ta σ H fun x H1 => x = .ref C ∧ t σ H1 fun vs H2 => sp (.ref C :: vs) H2 Q (E σ)
def tCmSK (C : Addr) (sp : Sp) (E : L2.St → XK) (ta : TE) (tk : TA) : TE := fun σ H Q => ta σ H fun x H1 => x = .ref C ∧ tk σ H1 fun zs H2 => sp (g1 [.ref C] zs) H2 Q (E σ)
section
variable {X : Cx} {CX : CXT} {k : Nat} {C p g : Addr} {mc : Value} {ps ks : List Str} {sp : Sp} {E : L2.St → XK} {o e : Expr} {es : List Expr} {f m x : Str} {pos apos : Pos} {ta : TE} {t tk : TA} {pl : Sem Bool} {kws : List Keyword}
theorem run_cmS {pins : List (Addr × Obj)} {σ : L2.St} {H : Hp} {s : Shared} {fa q : Addr} {fd : FuncData} {Q : VK} {ws : List Value} {vs : List V} {args : Args} (F : FnOk X.prog X.w X.K X.mg X.base CX k fa fd ps sp) (hr : Room k X.A) (hx : PassS CX X E) (I : Inv X ((q, PySem.W.methodObj (.ref fa) (.ref C)) :: pins) σ H s)
    (hb : BindsTo s fd ⟨.ref C :: args.pos, args.kw⟩ (ps.zip ws)) (r : Vals vs ws) (h : sp vs H Q (E σ)) : wpAny (model X.prog X.w) X.A (call (.ref q) args.pos args.kw) (EP X pins σ Q) X.xe s := by
  have z : wpAny (model X.prog X.w) X.A (call (.ref q) args.pos args.kw) (EP X ((q, PySem.W.methodObj (.ref fa) (.ref C)) :: pins) σ Q) X.xe s := by
    refine wpAny_call (PySem.W.method_call (ClX.pin_at I) (codeAny_mono (F.run X.A X.stack s H ⟨.ref C :: args.pos, args.kw⟩ ws vs Q (E σ) hr I.env0 hb r h) fun r s' hq => ?_))
    cases r with
    | error e => exact hx _ σ H s e s' I hq
    | ok fl =>
      cases fl with
      | ret u => exact I.after hq
      | next => exact False.elim hq
      | brk => exact False.elim hq
      | cont => exact False.elim hq
  exact thn z fun _ _ y => ClX.unpinE y
theorem pe_cmS (O : CCal X.prog X.w X.K X.mg X.base CX k C m ps ks sp) (hr : Room k X.A) (hx : PassS CX X E) (he : PE X o ta) (ha : PA X (e :: es) t)
    (hst : starEach (e :: es) X.env = (false, eval e X.env) :: starEach es X.env := by rfl) (hpl : (backTo pos (starEach es X.env)).any (·.1) = false := by rfl)
    (ht : eval (.Call (.Attribute o m apos) (e :: es) [] pos) X.env = (do
      let ov ← eval o X.env
      standAt apos.atName
      let (f, first) ← holding [ov] (getMethod ov m pl)
      callWith pos f first (backTo pos (starEach (e :: es) X.env)) (backToKw pos (keywordEach [] X.env))) := by with_unfolding_all rfl) :
    PE X (.Call (.Attribute o m apos) (e :: es) [] pos) (tCmS C sp E ta t) := by
  obtain ⟨f, p, fd, mc, F, r, c, B, _⟩ := O.ex
  refine ⟨fun pins s σ H Q I h => ?_⟩
  refine PySem.W.methodCall_KW (pl := pl) (thn (he.run pins s σ H _ I h) fun u s1 ⟨x, H1, I1, rx, ex, q⟩ => ?_) ht
  subst ex
  obtain rfl : u = Value.ref C := rx
  refine ClX.getmethcm_ok I1 r c fun s2 I2 => ?_
  refine ClX.callwith_cm I2 (ClX.base_none I1 (Nat.le_refl _)) c.fi (thn (ha.run pos _ s2 σ H1 _ I2 q) fun us s3 ⟨vs, H2, I3, rv, q2⟩ => ⟨⟨ClX.pin_at I3, I3.kIn⟩, ?_⟩) hst hpl
  have rv' : Vals (V.ref C :: vs) (Value.ref C :: us) := .cons rfl rv
  have b := B s3 (Value.ref C :: us) I3.kIn (by rw [List.append_nil, ← rv'.length]; exact F.len _ _ _ _ q2)
  rw [List.append_nil] at b
  exact run_cmS (args := ⟨us, []⟩) F hr hx I3 b rv' q2
theorem pe_cmSK (O : CCal X.prog X.w X.K X.mg X.base CX k C m ps ks sp) (hr : Room k X.A) (hx : PassS CX X E) (he : PE X o ta) (hkw : PK X kws tk)
    (hall : (backToKw pos (keywordEach kws X.env)).all (·.1.isSome) = true := by rfl) (hks : (backToKw pos (keywordEach kws X.env)).filterMap (·.1) = ks := by rfl)
    (hpl : ((backTo pos (starEach [] X.env)).any (·.1) || (backToKw pos (keywordEach kws X.env)).any (·.1.isNone)) = false := by rfl)
    (ht : eval (.Call (.Attribute o m apos) [] kws pos) X.env = (do
      let ov ← eval o X.env
      standAt apos.atName
      let (f, first) ← holding [ov] (getMethod ov m pl)
      callWith pos f first (backTo pos (starEach [] X.env)) (backToKw pos (keywordEach kws X.env))) := by with_unfolding_all rfl) :
    PE X (.Call (.Attribute o m apos) [] kws pos) (tCmSK C sp E ta tk) := by
  obtain ⟨f, p, fd, mc, F, r, c, _, B⟩ := O.ex
  refine ⟨fun pins s σ H Q I h => ?_⟩
  refine PySem.W.methodCall_KW (pl := pl) (thn (he.run pins s σ H _ I h) fun u s1 ⟨x, H1, I1, rx, ex, q⟩ => ?_) ht
  subst ex
  obtain rfl : u = Value.ref C := rx
  refine ClX.getmethcm_ok I1 r c fun s2 I2 => ?_
  refine PySem.W.callWith_of (P := fun h => PySem.W.MethP X.K s1.heap.objs.size f (.ref C) h) hpl (PySem.W.keeps_M c.fi) (evalArgs_kw2_nil hall ?_)
  refine thn (hkw.run pos _ s2 σ H1 _ I2 q) fun ws s3 ⟨zs, H2, I3, rz, q2⟩ => ⟨⟨ClX.pin_at I3, I3.kIn⟩, ?_⟩
  rw [hks]
  have r1 : Vals [V.ref C] [Value.ref C] := .cons rfl .nil
  have r2 := B.rel r1 rz
  have hl : (g1 [Value.ref C] ws).length = ps.length := by rw [← r2.length]; exact F.len _ _ _ _ q2
  exact run_cmS (args := ⟨[], ks.zip ws⟩) F hr hx I3 (B.to s3 [.ref C] ws I3.kIn hl) r2 q2
/-- cls(e), cls() of a local that holds the class at C -/
def tMkV (i : Nat) (C : Addr) (sp : Sp) (E : XK) (t : TA) : TE := fun σ H Q => σ[i]? = some (some (.ref C)) ∧ tMk C sp E t σ H Q
structure OMkD (P : Program) (w : World) (K : PySem.W.Frag) (mg : Str → Option Value) (base : Heap) (CX : CXT) (k : Nat) (C : Addr) (ps : List Str) (dvs : List V) (sp : Sp) : Prop where
  ex : ∃ (f : Addr) (fd : FuncData) (ds : List Value), Mk K C f ∧ FnOk P w K mg base CX k f fd ps sp ∧ Binds K fd ps ds ∧ Vals dvs ds
theorem pe_makeV {i : Nat} {E : XK} (O : OMk X.prog X.w X.K X.mg X.base CX k C f ps sp) (hr : Room (k + 1) X.A) (hx : Passes CX X E) (hN : X.N[i]? = some x) (hv : Vis X.env.scope x) (ha : PA X (e :: es) t)
    (hd : (x == ("__debug__" : Str)) = false := by decide) (hcd : (x == ("__classdict__" : Str)) = false := by decide)
    (he : starEach (e :: es) X.env = (false, eval e X.env) :: starEach es X.env := by rfl) (hpl : (backTo pos (starEach es X.env)).any (·.1) = false := by rfl) :
    PE X (.Call (.Name x apos) (e :: es) [] pos) (tMkV i C sp E t) := by
  obtain ⟨fa, fd, M, F, _, hb⟩ := O.ex
  refine ⟨fun pins s σ H Q I ⟨hs, h⟩ => ?_⟩
  refine wpAny_Call_Name_kw (thn ((pe_var (pos := apos) hN hv hd hcd).run pins s σ H (fun v H1 => v = .ref C ∧ H1 = H) I ⟨.ref C, hs, rfl, rfl⟩) fun u s1 ⟨v, H1, I1, r1, q1⟩ => ?_)
  obtain ⟨rfl, rfl⟩ := q1
  cases r1
  refine PySem.W.callWith_K (h₀ := X.base) I1.ok.mod.kin M.kp (thn (ha.run pos pins s1 σ _ _ I1 h) fun us s2 ⟨vs, H2, I2, r, q⟩ => ⟨I2.kIn, ?_⟩) he hpl
  exact run_make M F hr hb .nil hx I2 r (by rw [List.append_nil]; exact q)
theorem pe_makeV0 {i : Nat} {E : XK} {dvs : List V} (O : OMkD X.prog X.w X.K X.mg X.base CX k C ps dvs sp) (hr : Room (k + 1) X.A) (hx : Passes CX X E) (hN : X.N[i]? = some x) (hv : Vis X.env.scope x)
    (hd : (x == ("__debug__" : Str)) = false := by decide) (hcd : (x == ("__classdict__" : Str)) = false := by decide) :
    PE X (.Call (.Name x apos) [] [] pos) (tMkV i C (fun vs => sp (vs ++ dvs)) E tNil) := by
  obtain ⟨fa, fd, ds, M, F, hb, hds⟩ := O.ex
  refine ⟨fun pins s σ H Q I ⟨hs, h⟩ => ?_⟩
  refine wpAny_Call_Name_kw (thn ((pe_var (pos := apos) hN hv hd hcd).run pins s σ H (fun v H1 => v = .ref C ∧ H1 = H) I ⟨.ref C, hs, rfl, rfl⟩) fun u s1 ⟨v, H1, I1, r1, q1⟩ => ?_)
  obtain ⟨rfl, rfl⟩ := q1
  cases r1
  exact PySem.W.callWith_K0 I1.kIn M.kp (run_make (us := []) M F hr hb hds hx I1 .nil h)
end
theorem r_cmS {σ : L2.St} {H : Hp} {Q : VK} {C : Addr} {sp : Sp} {E : L2.St → XK} {ta : TE} {t : TA} (h : ta σ H fun x H1 => x = .ref C ∧ t σ H1 fun vs H2 => sp (.ref C :: vs) H2 Q (E σ)) : tCmS C sp E ta t σ H Q := h
theorem r_cmSK {σ : L2.St} {H : Hp} {Q : VK} {C : Addr} {sp : Sp} {E : L2.St → XK} {ta : TE} {tk : TA} (h : ta σ H fun x H1 => x = .ref C ∧ tk σ H1 fun zs H2 => sp (g1 [.ref C] zs) H2 Q (E σ)) : tCmSK C sp E ta tk σ H Q := h
end My

set_option exponentiation.threshold 2000
/-! lots as texts: words, numbers, kinds -/
namespace My
open PySem L2
def ods {α : Type} (xs : List α) : List α := evs (xs.drop 1)
theorem ods_len {α : Type} (xs : List α) : (ods xs).length = xs.length / 2 := by
  unfold ods
  rw [evs_len, List.length_drop]
  omega
theorem ods_at {α : Type} (xs : List α) (i : Nat) : (ods xs)[i]? = xs[2 * i + 1]? := by
  unfold ods
  rw [evs_at, List.getElem?_drop, Nat.add_comm]
/-- a number as a Lot's text has it -/
def ManyS (s : Str) : Prop := 1 ≤ (cds s).length ∧ (cds s).length ≤ 300 ∧ (cds s)[0]? ≠ some 48 ∧ NumText.AllDigits (cds s)
def num (s : Str) : Int := ((NumText.digitsVal (cds s) : Nat) : Int)
def sp1 : Str := Str.ofString " "
def words (z : Str) : List Str := Txt.split z sp1
structure OkW (ws : List Str) : Prop where
  ev : ws.length % 2 = 0
  nu : ∀ c ∈ evs ws, ManyS c
  ki : ∀ k ∈ ods ws, KindS k
  up : (ods ws).Pairwise fun a b => cds a < cds b
def qsOf (ws : List Str) : AL := (ods ws).zip ((evs ws).map num)
def dash : Str := Str.ofString "-"
/-- what a line gives: none where it is no Lot's text -/
structure Reads (z : Str) (qs : AL) : Prop where
  ex : z = dash ∧ qs = [] ∨ z ≠ dash ∧ OkW (words z) ∧ qs = qsOf (words z)
def Bad (z : Str) : Prop := z ≠ dash ∧ ¬ OkW (words z)
theorem Reads.not_bad {z : Str} {qs : AL} (r : Reads z qs) : ¬ Bad z := fun ⟨b1, b2⟩ => r.ex.elim (fun h => b1 h.1) fun h => b2 h.2.1
theorem Reads.uniq {z : Str} {q r : AL} (h : Reads z q) (g : Reads z r) : q = r := by
  rcases h.ex with ⟨e, rfl⟩ | ⟨e, _, rfl⟩ <;> rcases g.ex with ⟨e', rfl⟩ | ⟨e', _, rfl⟩
  · rfl
  · exact absurd e e'
  · exact absurd e' e
  · rfl
/-- the digits' worth, back -/
theorem val_snoc (cs : List Nat) (c : Nat) : NumText.digitsVal (cs ++ [c]) = NumText.digitsVal cs * 10 + (c - 48) := by
  unfold NumText.digitsVal
  rw [List.foldl_append]
  rfl
theorem snocRec {P : List Nat → Prop} (h0 : P []) (h : ∀ cs c, P cs → P (cs ++ [c])) (cs : List Nat) : P cs := by
  have : ∀ l : List Nat, P l.reverse := fun l => by
    induction l with
    | nil => exact h0
    | cons a l ih => rw [List.reverse_cons]; exact h _ _ ih
  have := this cs.reverse
  rwa [List.reverse_reverse] at this
theorem head_num : ∀ k : Nat, 0 < k → (TL.numL k)[0]? ≠ some 48 := by
  intro k
  induction k using Nat.strongRecOn with
  | _ k ih =>
    intro h
    by_cases c : k < 10
    · rw [TL.numL_lt c]
      intro e
      have := Option.some.inj e
      omega
    · rw [TL.numL_step (by omega)]
      have l := TL.numL_ne (k / 10)
      rw [List.getElem?_append_left (List.length_pos_iff.mpr l)]
      exact ih (k / 10) (by omega) (by omega)
theorem val_pos : ∀ (cs : List Nat), NumText.AllDigits cs → cs ≠ [] → cs[0]? ≠ some 48 → 0 < NumText.digitsVal cs := by
  intro cs
  induction cs using snocRec with
  | h0 => intro _ h; exact absurd rfl h
  | h cs c ih =>
    intro h _ h0
    rw [val_snoc]
    by_cases e : cs = []
    · subst e
      have hc := h c (by simp)
      have : c ≠ 48 := fun z => h0 (by rw [z]; rfl)
      omega
    · have := ih (fun d hd => h d (List.mem_append_left _ hd)) e (by
        rw [List.getElem?_append_left (by cases cs; exact absurd rfl e; simp)] at h0
        exact h0)
      omega
theorem numL_back : ∀ (cs : List Nat), NumText.AllDigits cs → cs ≠ [] → cs[0]? ≠ some 48 → TL.numL (NumText.digitsVal cs) = cs := by
  intro cs
  induction cs using snocRec with
  | h0 => intro _ h; exact absurd rfl h
  | h cs c ih =>
    intro h _ h0
    have hc := h c (by simp)
    have hcs : NumText.AllDigits cs := fun d hd => h d (List.mem_append_left _ hd)
    rw [val_snoc]
    by_cases e : cs = []
    · subst e
      show TL.numL (0 * 10 + (c - 48)) = [c]
      rw [TL.numL_lt (by omega)]
      congr 1
      omega
    · have h0' : cs[0]? ≠ some 48 := by
        rw [List.getElem?_append_left (by cases cs; exact absurd rfl e; simp)] at h0
        exact h0
      have p := val_pos cs hcs e h0'
      rw [TL.numL_step (by omega)]
      have e1 : (NumText.digitsVal cs * 10 + (c - 48)) / 10 = NumText.digitsVal cs := by omega
      have e2 : 48 + (NumText.digitsVal cs * 10 + (c - 48)) % 10 = c := by omega
      rw [e1, e2, ih hcs e h0']
theorem val_lt : ∀ (cs : List Nat), NumText.AllDigits cs → NumText.digitsVal cs < 10 ^ cs.length := by
  intro cs
  induction cs using snocRec with
  | h0 => intro _; show 0 < 10 ^ 0; decide
  | h cs c ih =>
    intro h
    have hc := h c (by simp)
    have := ih fun d hd => h d (List.mem_append_left _ hd)
    rw [val_snoc, List.length_append]
    show _ < 10 ^ (cs.length + 1)
    rw [Nat.pow_succ]
    omega
theorem ManyS.ne {s : Str} (h : ManyS s) : cds s ≠ [] := fun e => by have := h.1; rw [e] at this; exact absurd this (by decide)
theorem ManyS.pos {s : Str} (h : ManyS s) : 0 < num s := by
  have := val_pos _ h.2.2.2 h.ne h.2.2.1
  unfold num
  omega
theorem ManyS.lt {s : Str} (h : ManyS s) : (num s).natAbs < 2 ^ 1000 := by
  have h1 := val_lt _ h.2.2.2
  have h2 : (10 : Nat) ^ (cds s).length ≤ 10 ^ 300 := Nat.pow_le_pow_right (by decide) h.2.1
  have h3 : (10 : Nat) ^ 300 < 2 ^ 1000 := by decide +kernel
  unfold num
  rw [Int.natAbs_natCast]
  omega
theorem ManyS.reads {s : Str} (h : ManyS s) : intText? s = some (num s) := by
  refine intText_digits h.2.2.2 h.ne ?_
  rw [len_cds]
  have := h.2.1
  omega
theorem ManyS.text {s : Str} (h : ManyS s) : ((toString (num s) : String) : Str) = s := by
  refine TL.ext_tl ?_
  show TL.tl (Str.ofString (toString (num s))) = cds s
  unfold num
  rw [TL.tl_num]
  exact numL_back _ h.2.2.2 h.ne h.2.2.1
theorem many_num {n : Int} (h0 : 0 < n) (h1 : n < 10 ^ 20) : ManyS (Str.ofString (toString n)) ∧ num (Str.ofString (toString n)) = n := by
  obtain ⟨k, rfl⟩ : ∃ k : Nat, n = (k : Int) := ⟨n.toNat, by omega⟩
  have e : cds (Str.ofString (toString ((k : Nat) : Int))) = TL.numL k := TL.tl_num k
  have hk : k < 10 ^ 20 := by omega
  have ev : NumText.digitsVal (TL.numL k) = k := TL.numL_val k
  have hne := TL.numL_ne k
  refine ⟨⟨?_, ?_, ?_, ?_⟩, ?_⟩
  · rw [e]; exact List.length_pos_iff.mpr hne
  · rw [e]; exact Nat.le_trans (TL.numL_len (by decide) hk) (by decide)
  · rw [e]
    exact head_num k (by omega)
  · rw [e]; exact TL.numL_digits k
  · unfold num
    rw [e, ev]
end My

/-! lines: their words, how long, and back -/
namespace My
open PySem L2
theorem pre32 (c : Nat) (r : List Nat) : TL.pre [32] (c :: r) = (c == 32) := by
  show ([c] == [32]) = _
  by_cases h : c = 32
  · subst h; rfl
  · have : (c == 32) = false := beq_eq_false_iff_ne.mpr h
    rw [this]
    exact beq_eq_false_iff_ne.mpr fun z => h (by injection z)
theorem spl_len : ∀ (l acc : List Nat), (TL.spl [32] 0 acc l).length = l.count 32 + 1
  | [], _ => rfl
  | c :: r, acc => by
    by_cases h : c = 32
    · subst h
      rw [TL.spl_hit (by rw [pre32]; rfl), List.length_cons, List.count_cons_self]
      show (TL.spl [32] 0 [] r).length + 1 = _
      rw [spl_len r []]
    · rw [TL.spl_miss (by rw [pre32]; exact beq_eq_false_iff_ne.mpr h), spl_len r, List.count_cons_of_ne h]
theorem spl_sum : ∀ (l acc : List Nat), ((TL.spl [32] 0 acc l).map List.length).sum + l.count 32 = acc.length + l.length
  | [], acc => rfl
  | c :: r, acc => by
    by_cases h : c = 32
    · subst h
      rw [TL.spl_hit (by rw [pre32]; rfl), List.map_cons, List.sum_cons, List.count_cons_self]
      have := spl_sum r []
      show acc.length + ((TL.spl [32] 0 [] r).map List.length).sum + _ = _
      rw [List.length_nil] at this
      rw [List.length_cons]
      omega
    · rw [TL.spl_miss (by rw [pre32]; exact beq_eq_false_iff_ne.mpr h), List.count_cons_of_ne h, spl_sum r, List.length_append, List.length_cons, List.length_cons, List.length_nil]; omega
theorem tl_sp1 : TL.tl sp1 = [32] := by decide +kernel
theorem words_cds (z : Str) : (words z).map cds = TL.spl [32] 0 [] (cds z) := by
  have := TL.split_spl z sp1 (by rw [tl_sp1]; simp) (TL.kind_ok (by decide +kernel))
  rw [tl_sp1] at this
  exact this
theorem words_len (z : Str) : (words z).length = (cds z).count 32 + 1 := by
  have := congrArg List.length (words_cds z)
  rw [List.length_map, spl_len] at this
  exact this
theorem words_sum (z : Str) : ((words z).map (·.length)).sum + (cds z).count 32 = z.length := by
  have h := spl_sum (cds z) []
  rw [← words_cds, List.map_map, List.length_nil, Nat.zero_add, ← len_cds] at h
  rw [← h]
  congr 2
/-- a line: its length, its blanks -/
structure Ln (z : Str) (a b : Nat) : Prop where
  le : (cds z).length ≤ a
  bl : (cds z).count 32 ≤ b
theorem cds_joinw (ps : List Str) : cds (Txt.join sp1 ps) = TL.joinL [32] (ps.map cds) := by
  have e := TL.tl_join sp1 ps
  rw [tl_sp1] at e
  rw [TL.join_eq]
  exact e
/-! ### the way back -/
def lw (p : Str × Int) : Str := (Str.ofString (toString p.2) ++ sp1) ++ p.1
def flat : AL → List Str
  | [] => []
  | p :: r => Str.ofString (toString p.2) :: p.1 :: flat r
def ltx (qs : AL) : Str := Txt.join sp1 (qs.map lw)
theorem flat2_len : ∀ qs : AL, (flat qs).length = 2 * qs.length
  | [] => rfl
  | p :: r => by show (flat r).length + 1 + 1 = 2 * (r.length + 1); rw [flat2_len r]; omega
theorem evs_flat : ∀ qs : AL, evs (flat qs) = qs.map fun p => Str.ofString (toString p.2)
  | [] => rfl
  | p :: r => by show _ :: evs (flat r) = _; rw [evs_flat r]; rfl
theorem ods_flat (qs : AL) : ods (flat qs) = keys qs := by
  refine List.ext_getElem? fun i => ?_
  rw [ods_at]
  unfold keys
  induction qs generalizing i with
  | nil => simp [flat]
  | cons p r ih =>
    cases i with
    | zero => rfl
    | succ i =>
      show (flat r)[2 * i + 1]? = _
      rw [ih i]
      rfl
theorem lw_cds (p : Str × Int) : cds (lw p) = cds (Str.ofString (toString p.2)) ++ ([32] ++ cds p.1) := by
  unfold lw
  rw [cds_app, cds_app, show cds sp1 = [32] from tl_sp1, List.append_assoc]
theorem flat_join : ∀ qs : AL, qs ≠ [] → TL.joinL [32] ((qs.map lw).map cds) = TL.joinL [32] ((flat qs).map cds)
  | [], h => absurd rfl h
  | [p], _ => lw_cds p
  | p :: q :: r, _ => by
    have ih := flat_join (q :: r) (by simp)
    show cds (lw p) ++ ([32] ++ TL.joinL [32] (((q :: r).map lw).map cds)) = cds (Str.ofString (toString p.2)) ++ ([32] ++ (cds p.1 ++ ([32] ++ TL.joinL [32] ((flat (q :: r)).map cds))))
    rw [ih, lw_cds, List.append_assoc, List.append_assoc]
theorem ltx_flat {qs : AL} (h : qs ≠ []) : ltx qs = Txt.join sp1 (flat qs) := by
  refine TL.ext_tl ?_
  show cds _ = cds _
  unfold ltx
  rw [cds_joinw, cds_joinw, flat_join qs h]
theorem flat_free {qs : AL} (h : ∀ p ∈ qs, 0 < p.2) (hk : ∀ p ∈ qs, KindS p.1) : ∀ w ∈ flat qs, 32 ∉ cds w := by
  induction qs with
  | nil => intro w hw; cases hw
  | cons p r ih =>
    intro w hw
    rcases List.mem_cons.mp hw with rfl | hw
    · have h0 := h p List.mem_cons_self
      obtain ⟨k, hk0⟩ : ∃ k : Nat, p.2 = (k : Int) := ⟨p.2.toNat, by omega⟩
      rw [hk0]
      show 32 ∉ TL.tl (Str.ofString (toString ((k : Nat) : Int)))
      rw [TL.tl_num]
      exact TL.numL_free (.inl (by decide))
    · rcases List.mem_cons.mp hw with rfl | hw
      · intro z
        have := (hk p List.mem_cons_self).2.2 _ z
        omega
      · exact ih (fun q hq => h q (List.mem_cons_of_mem _ hq)) (fun q hq => hk q (List.mem_cons_of_mem _ hq)) w hw
theorem words_ltx {qs : AL} (hne : qs ≠ []) (h : ∀ p ∈ qs, 0 < p.2) (hk : ∀ p ∈ qs, KindS p.1) : words (ltx qs) = flat qs := by
  rw [ltx_flat hne]
  exact TL.split_join (s := 32) (S := []) tl_sp1 (by decide +kernel) (fun e => hne (List.length_eq_zero_iff.mp (by have := congrArg List.length e; rw [flat2_len] at this; replace this : 2 * qs.length = 0 := this; omega))) (flat_free h hk)
theorem reads_ltx {qs : AL} (hne : qs ≠ []) (h : ∀ p ∈ qs, 0 < p.2 ∧ p.2 < 10 ^ 20) (hk : ∀ p ∈ qs, KindS p.1) (up : (keys qs).Pairwise fun a b => cds a < cds b) : Reads (ltx qs) qs := by
  have hw := words_ltx hne (fun p hp => (h p hp).1) hk
  have l1 : 0 < qs.length := List.length_pos_iff.mpr hne
  refine ⟨.inr ⟨fun e => ?_, ?_, ?_⟩⟩
  · rw [e] at hw
    have l2 := congrArg List.length hw
    rw [flat2_len, words_len, show (cds dash).count 32 = 0 by decide +kernel] at l2
    omega
  · rw [hw]
    refine ⟨by rw [flat2_len]; omega, fun c hc => ?_, fun k hk' => ?_, ?_⟩
    · rw [evs_flat] at hc
      obtain ⟨p, hp, rfl⟩ := List.mem_map.mp hc
      exact (many_num (h p hp).1 (h p hp).2).1
    · rw [ods_flat] at hk'
      obtain ⟨p, hp, rfl⟩ := List.mem_map.mp hk'
      exact hk p hp
    · rw [ods_flat]; exact up
  · rw [hw]
    unfold qsOf
    rw [ods_flat, evs_flat, List.map_map]
    unfold keys
    have : qs.map (num ∘ fun p : Str × Int => Str.ofString (toString p.2)) = qs.map (·.2) := List.map_congr_left fun p hp => (many_num (h p hp).1 (h p hp).2).2
    rw [this]
    exact (List.zip_unzip qs).symm.trans (by rw [List.unzip_eq_map])
end My

namespace My
open PySem L2
theorem unsuite2 {X : Cx} {pins : List (Addr × Obj)} {σ : L2.St} {H : Hp} {s : Shared} {a : Addr} {q : Addr × Obj} {pn' : List (Addr × Obj)} (I : Inv (X.suite a (q :: (X.pn ++ pins))) pn' σ H s) (ok : X.Ok) : Inv X (q :: pins) σ H s :=
  ⟨ok, I.os, I.bare, I.base, I.loc, I.cell, I.free, I.freeC, fun p hp => I.pin p (by
    rcases List.mem_append.mp hp with z | z
    · exact List.mem_append_left _ (List.mem_cons_of_mem _ (List.mem_append_left _ z))
    · rcases List.mem_cons.mp z with z | z
      · rw [z]
        exact List.mem_append_left _ List.mem_cons_self
      · exact List.mem_append_left _ (List.mem_cons_of_mem _ (List.mem_append_right _ z))), I.hok, I.len⟩
end My

/-! own errors with fields, made, raised, caught and kept as values -/
namespace My
open PySem L2
/-- an error of the class cls with the dict d -/
def ExD (cls : Value) (d : Option Addr) (a : Addr) : HO := .ext fun h => ∃ (oe : Obj) (vs : Array Value), h.get? a = some oe ∧ Zc cls d oe ∧ oe.data = Data.fields vs
theorem exD_ok {P : Program} {w : World} {H : Hp} {h : Heap} {a : Addr} {cls : Value} {d : Option Addr} {oe : Obj} {vs : Array Value} (h1 : h.get? a = some oe) (h2 : Zc cls d oe) (h3 : oe.data = Data.fields vs) : ObjOk P w H h a (ExD cls d a) :=
  ⟨⟨oe, vs, h1, h2, h3⟩, ⟨oe, h1⟩, fun _ _ ⟨o, v, e1, e2, e3⟩ k => ⟨o, v, k o e1, e2, e3⟩⟩
theorem exD_at {P : Program} {w : World} {H : Hp} {h : Heap} {a : Addr} {cls : Value} {d : Option Addr} (hok : HOk P w H h) (e : H a = some (ExD cls d a)) : ∃ (oe : Obj) (vs : Array Value), h.get? a = some oe ∧ Zc cls d oe ∧ oe.data = Data.fields vs := by
  have x : ObjOk P w H h a (.ext fun h => ∃ (oe : Obj) (vs : Array Value), h.get? a = some oe ∧ Zc cls d oe ∧ oe.data = Data.fields vs) := hok a _ e
  exact x.1
/-- at a an error of the class C with the fields fs -/
def Er (H : Hp) (a C : Addr) (fs : List (Str × V)) : Prop := ∃ d, H a = some (ExD (.ref C) d a) ∧ ((d = none ∧ fs = []) ∨ ∃ dd, d = some dd ∧ H dd = some (.xd fs))
theorem Er.same {H H' : Hp} {a C : Addr} {fs : List (Str × V)} (h : Er H a C fs) (s : ∀ c o, H c = some o → H' c = some o) : Er H' a C fs := by
  obtain ⟨d, h1, h2⟩ := h
  refine ⟨d, s _ _ h1, ?_⟩
  rcases h2 with z | ⟨dd, z1, z2⟩
  · exact .inl z
  · exact .inr ⟨dd, z1, s _ _ z2⟩
/-- the object with its dict, in the heap -/
theorem Er.inst {P : Program} {w : World} {H : Hp} {h : Heap} {a C : Addr} {fs : List (Str × V)} (hok : HOk P w H h) (e : Er H a C fs) : ∃ (oe : Obj) (od : Option Obj), PySem.W.InstAt h a oe C od ∧ (fs ≠ [] → ∃ (mA : Str → Option Value) (o : Obj), od = some o ∧ (∀ f, RelO (fs.lookup f) (mA f)) ∧ ∀ f, PySem.W.lookIn f o = some (mA f)) := by
  obtain ⟨d, h1, h2⟩ := e
  obtain ⟨oe, vs, g1, g2, g3⟩ := exD_at hok h1
  rcases h2 with ⟨rfl, rfl⟩ | ⟨dd, rfl, h2⟩
  · exact ⟨oe, none, ⟨g1, g2.1, by unfold PySem.W.notCls; rw [g3], by rw [g2.2]; trivial⟩, fun z => absurd rfl z⟩
  · have hx : ObjOk P w H h dd (.xd fs) := hok dd _ h2
    obtain ⟨mA, hns, hr⟩ := hx
    obtain ⟨od, ho, hl⟩ := lookIn_ns hns
    exact ⟨oe, some od, ⟨g1, g2.1, by unfold PySem.W.notCls; rw [g3], by rw [g2.2]; exact ho⟩, fun _ => ⟨mA, od, rfl, hr, hl⟩⟩
/-! ### e.f -/
def tXd (K : PySem.W.Frag) (f : Str) (te : TE) : TE := fun σ H Q => te σ H fun x H1 => ∃ (a C : Addr) (fs : List (Str × V)) (v : V), x = .ref a ∧ Er H1 a C fs ∧ XfC K C ∧ PySem.W.findIn K (.ref C) f = some none ∧ fs.lookup f = some v ∧ Q v H1
theorem pe_xd {X : Cx} {e : Expr} {te : TE} {pos : Pos} {n : Str} (K : PySem.W.Frag) (he : PE X e te) (hb : attributeBase e n X.env (eval e X.env) = eval e X.env := by rfl) (eK : X.K = K := by rfl) : PE X (.Attribute e n pos) (tXd K n te) := by
  subst eK
  refine ⟨fun pins s σ H Q I h => ?_⟩
  refine attr_of hb (thn (he.run pins s σ H _ I h) fun u s1 hh => ?_)
  obtain ⟨x, H1, I1, rx, a, C, fs, v, ex, ea, T, hno, l, q⟩ := hh
  subst ex
  obtain rfl : u = Value.ref a := rx
  obtain ⟨oe, od, J, hd⟩ := ea.inst I1.hok
  have hne : fs ≠ [] := fun z => by rw [z] at l; cases l
  obtain ⟨mA, o, rfl, hr, hl⟩ := hd hne
  obtain ⟨u, hu, ru⟩ := RelO.some_of (v := v) (o := mA n) (by rw [← l]; exact hr n)
  exact HandSPX.exc_get I1.kIn J T.ga T.gg T.exC (PySem.W.findObj_own T.hdC hno rfl (by rw [hl, hu])) (handed_of ru) ⟨v, H1, I1.tok _, ru, q⟩
end My
namespace PySem.W
open PySem PySem.Spec PySem.Calls PyProof.Rows
section
variable {prog : Program} {w : World} {A : Around} {E : Value → Shared → Prop} {s : Shared} {K : Frag} {x D : Addr} {ox : Obj} {od : Option Obj}
theorem my_findObj_data {C : Addr} {name : Str} {a g : Value} (hc : (clsIn K C).isSome = true) (ha : findIn K (.ref C) name = some (some a)) (hg : specialIn K a "__get__" = some (some g)) (ht : takesIn K a = some true) : findObj K C od name = some (.bind g a) := by
  obtain ⟨cd, hc⟩ := Option.isSome_iff_exists.mp hc
  unfold findObj
  rw [hc, Option.bind_some, ha, Option.bind_some]
  simp [hg, ht]
theorem my_kin_class {Q : Option Value → Shared → Prop} (C : L2.ExcC K D)
    (X : K.In s.heap) (I : InstAt s.heap x ox D od) (h : Q (some (.ref D)) { s with toks := s.toks + 1 }) : wpAny (model prog w) A (getAttr? (.ref x) "__class__") Q E s := by
  have hf : findObj K D od "__class__" = some (.bind (.builtin "getset_descriptor.__get__") (.builtin "object.__class__")) := my_findObj_data (by obtain ⟨cd, hc, _⟩ := any_some C.hd; rw [hc]; rfl) C.ha C.hn C.ht
  obtain ⟨hp, g, d, t, os⟩ := s
  have L0 := I.type (M := model prog w)
  have L1 := looks_findIn (M := model prog w) X C.hg
  have L2 := looks_findIn (M := model prog w) X C.hk
  have L3 := looks_find (M := model prog w) X I hf
  have sub : Looks (model prog w) hp (isInstance (.ref x) (.type "BaseException")) true := L0.andThen (looks_subIn X C.hs)
  have hx0 : (false && onTheHeap (Value.builtin "BaseException.__getattribute__")) = false := rfl
  have hx2 : (Value.builtin "BaseException.__getattribute__" == Value.builtin "object.__getattribute__") = false := by decide +kernel
  have hx1 : (onTheHeap (Value.ref D) && Value.builtin "BaseException.__getattribute__" == Value.builtin "object.__getattribute__") = false := by rw [hx2]; rfl
  unfold getAttr? getAttrBy? getAttrBy
  refine wpAny_bind (wpAny_mkText (wpAny_bind (wpAny_attempt (wpAny_holding (wpAny_bind (L0.at (wpAny_bind (L1.at ?_))))))))
  show wpAny _ _ (if (onTheHeap (Value.ref D) && Value.builtin "BaseException.__getattribute__" == Value.builtin "object.__getattribute__") = true then _ else _) _ _ _
  rw [hx1, if_neg Bool.false_ne_true]
  unfold getAttrByItsOwn hookBefore
  refine wpAny_bind ?_
  rw [if_pos (show onTheHeap (Value.ref D) = true from rfl)]
  refine L2.at ?_
  refine wpAny_bind (wpAny_attempt (wpAny_holding ?_))
  unfold callGetattribute
  rw [hx0, if_neg Bool.false_ne_true]
  unfold boundAndCalled
  rw [PySem.F.excAttr_ValueError.ga.bind (.ref x)]
  refine wpAny_bind (wpAny_pure ?_)
  show wpAny _ _ (call (.builtin "BaseException.__getattribute__") [.ref x, .str "__class__" t]) _ _ _
  refine wpAny_call (codeAny_call_builtin PySem.F.excAttr_ValueError.ga.plain PySem.F.entry_bexc_ga ?_)
  refine @check_slot (model prog w) _ _ ⟨hp, g, d, t + 1, os⟩ "BaseException.__getattribute__" "BaseException" "__getattribute__" (.ref x) [.str "__class__" t] [] _ (by decide +kernel) (by decide +kernel) sub (PySem.F.args_bexc_ga (.ref x) (.str "__class__" t)) ?_
  unfold Builtin.«object.__getattribute__»
  refine wpAny_bind (wpAny_of_eq (a := ((Value.ref x : Value), [Value.str "__class__" t])) (by first | rfl | (simp only [slotArgs]; rfl)) ?_)
  refine wpAny_bind (wpAny_pure (wpAny_bind (L0.at (wpAny_bind (L3.at ?_)))))
  show wpAny _ _ (holding [Value.builtin "object.__class__"] (call (.builtin "getset_descriptor.__get__") [.builtin "object.__class__", .ref x, .ref D]) >>= ret) _ _ _
  refine wpAny_bind (wpAny_holding (wpAny_call (class_get (s := ⟨hp, g, d, t + 1, os⟩) (ox := ox) (od := od) X I C.hm ?_)))
  refine wpAny_pure ?_
  show wpAny _ _ (handedOut (.ref D)) _ _ _
  rw [handedOut_of (v := .ref D) rfl]
  first
    | exact wpAny_pure (wpAny_pure h)
    | exact wpAny_pure h
    | exact wpAny_pure (wpAny_bind (wpAny_pure (wpAny_pure h)))
theorem my_kitx (C : L2.ExcC K D) : KitX K (.ref x) (.ref D) (fun h => InstAt h x ox D od) where
  ty := fun _ _ _ I => I.type
  it := fun _ _ X _ => by
    obtain ⟨cdD, hcD, _⟩ := any_some C.hd
    unfold clsIn at hcD
    split at hcD
    · rename_i c' d' cd' sl' ho
      intro A' Q' E' s' k q
      unfold isType loadHead
      exact wpAny_bind (wpAny_loadPart (k _ _ (X _ _ ho)) (wpAny_pure q))
    · cases hcD
  ne := fun h tp dd its n sl X htp => by
    obtain ⟨cdD, hcD, _⟩ := any_some C.hd
    refine Bool.eq_false_iff.mpr fun q => ?_
    have e : D = tp := Value.ref.inj (beq_iff_eq.mp q)
    subst e
    unfold clsIn at hcD
    split at hcD
    · rename_i c' d' cd' sl' ho
      have z := (X _ _ ho).symm.trans htp
      cases z
    · cases hcD
  ca := fun X I k => my_kin_class C X I k
end
end PySem.W
namespace My
open PySem L2
/-! ### isinstance -/
def rIsD (K : PySem.W.Frag) : List V → Hp → VK → Prop := fun xs H Q => ∃ (a D : Addr) (fs : List (Str × V)) (c : V) (cv : Value) (b : Bool), xs = [.ref a, c] ∧ Er H a D fs ∧ ExcC K D ∧ (∀ u, RelV c u → u = cv) ∧ PySem.W.kitOne K (.ref D) cv = some b ∧ Q (.bl b) H
theorem call_isD {X : Cx} (K : PySem.W.Frag) (eK : X.K = K := by rfl) : CallR X (.builtin "isinstance") (rIsD K) := by
  subst eK
  intro pins s σ H xs us Q I r h
  obtain ⟨a, D, fs, c, cv, b, rfl, ha, C, hcv, e, q⟩ := h
  match us, r with
  | [u, u2], .cons rx (.cons rt .nil) =>
    have e1 : u = .ref a := rx
    have e2 := hcv u2 rt
    subst e1 e2
    obtain ⟨oe, od, J, _⟩ := ha.inst I.hok
    exact PySem.W.kia_one (PySem.W.my_kitx C) I.kIn J e (fun z => nomatch z) fun tk => ⟨.bl b, H, I.kept fun _ _ z => z, rfl, q⟩
/-! ### a value of an error: C(..) -/
end My
namespace PySem
namespace HandSPX
open Builtin Builtin.ObjectAttr
section
variable {M : Model} {A : Around} {E : Value → Shared → Prop} {h : Heap} {g : Array GenState} {d : Drawn} {t : Nat} {os : OsState}
variable {nm q : Str} {C N : Addr} {bs bm bmB : List Value} {hdct : Bool} {sn : List Str} {sub : List Value} {ab : Bool} {col : Option Bool} {dd : Option Addr} {k0 k1 k2 k3 k5 : Option Value} {B newId initId : String} {kw : List (Str × Value)}
end
section
variable {prog : Program} {w : World} {A : Around} {E : Value → Shared → Prop} {R : Result → Shared → Prop} {h : Heap} {g : Array GenState} {d : Drawn} {t : Nat} {os : OsState}
variable {nm q : Str} {C N : Addr} {bs bm bmB : List Value} {hdct : Bool} {sn : List Str} {sub : List Value} {ab : Bool} {col : Option Bool} {dd : Option Addr} {k0 k1 k2 k3 k5 : Option Value} {B newId initId : String} {kw : List (Str × Value)}
end
end HandSPX
end PySem
namespace My
open PySem L2
section
variable {X : Cx} {pins : List (Addr × Obj)} {σ : L2.St} {H : Hp} {s : Shared} {a C d : Addr} {fs : List (Str × V)}
end
def spI1 (C : Addr) (f : Str) : Sp := fun vs H Q _ => ∃ (a : Addr) (y : V), vs = [.ref a, y] ∧ H a = some (exo a C none) ∧ ∀ d, H d = none → d ≠ a → Q .non (upd (upd H d (exd d [(f, y)])) a (exo a C (some d)))
def spI2 (C : Addr) (f g : Str) : Sp := fun vs H Q _ => ∃ (a : Addr) (y z : V), vs = [.ref a, y, z] ∧ H a = some (exo a C none) ∧ ∀ d, H d = none → d ≠ a → Q .non (upd (upd (upd H d (exd d [(f, y)])) a (exo a C (some d))) d (exd d [(g, z), (f, y)]))
section
variable {X : Cx} {CX : CXT} {k n : Nat} {fI C : Addr} {fd : FuncData} {ps ks : List Str} {sp : Sp} {x : Str} {p pos : Pos} {e : Expr} {es : List Expr} {kws : List Keyword} {t tk : TA} {g : List Value → List Value → List Value} {gV : List V → List V → List V}
end
/-! ### the fields as a caller sees them -/
/-- one field -/
structure E1 (P : Program) (w : World) (K : PySem.W.Frag) (mg : Str → Option Value) (base : Heap) (C : Addr) (x f : Str) : Prop where
  T : OexC K C
  gC : mg x = some (.ref C)
  ex : ∃ (fI : Addr) (fd : FuncData), PySem.W.findIn K (.ref C) "__init__" = some (some (.ref fI)) ∧ PySem.W.typeIn K (.ref fI) = some (.type "function") ∧ FnOk P w K mg base CX0 1 fI fd ["self", f] (spI1 C f) ∧
    KBn K fd ["self", f] 2 [] (fun us _ => us) (fun vs _ => vs) ∧ KBn K fd ["self", f] 1 [f] (fun us ws => us ++ ws) (fun vs zs => vs ++ zs) ∧ Binds K fd ["self", f] []
structure E2 (P : Program) (w : World) (K : PySem.W.Frag) (mg : Str → Option Value) (base : Heap) (C : Addr) (x f g : Str) : Prop where
  T : OexC K C
  gC : mg x = some (.ref C)
  ex : ∃ (fI : Addr) (fd : FuncData), PySem.W.findIn K (.ref C) "__init__" = some (some (.ref fI)) ∧ PySem.W.typeIn K (.ref fI) = some (.type "function") ∧ FnOk P w K mg base CX0 1 fI fd ["self", f, g] (spI2 C f g) ∧
    KBn K fd ["self", f, g] 3 [] (fun us _ => us) (fun vs _ => vs) ∧ KBn K fd ["self", f, g] 1 [g, f] (fun us ws => us ++ ws.reverse) (fun vs zs => vs ++ zs.reverse) ∧ Binds K fd ["self", f, g] []
section
variable {X : Cx} {C : Addr} {x f g : Str} {p pos : Pos} {e e' : Expr} {kws : List Keyword} {t tk : TA}
end
theorem end1X {f : Str} {C : Addr} {H1 : Hp} {a : Addr} {y : V} {Q : XK} (ha : H1 a = none) (q : ∀ d H', H1 d = none → Same H1 H' → H' d = some (.xd [(f, y)]) → Q (.ref C) (some d) H') :
    spI1 C f [.ref a, y] (upd H1 a (exo a C none)) (fun v H2 => v = .non ∧ ∃ (d : Addr) (fs : List (Str × V)), H2 a = some (exo a C (some d)) ∧ H2 d = some (exd d fs) ∧ H1 d = none ∧ Q (.ref C) (some d) (upd (del H2 a) d (.xd fs))) (fun _ _ _ => False) := by
  refine ⟨a, y, rfl, upd_same, fun d hd nda => ?_⟩
  have hd1 : H1 d = none := by rw [upd_ne nda] at hd; exact hd
  refine ⟨rfl, d, [(f, y)], upd_same, by rw [upd_ne nda]; exact upd_same, hd1, q d _ hd1 (fun c o w => ?_) upd_same⟩
  have n1 : c ≠ a := ne_of_none w ha
  have n2 : c ≠ d := ne_of_none w hd1
  rw [upd_ne n2, L2.del_ne n1, upd_ne n1, upd_ne n2, upd_ne n1]
  exact w
/-! ### try: .. except x as n: .., the error kept -/
theorem trackD {X : Cx} {pins : List (Addr × Obj)} {σ : L2.St} {H : Hp} {s : Shared} {a : Addr} {oe : Obj} {cls : Value} {d : Option Addr} {vs : Array Value} (I : Inv X ((a, oe) :: pins) σ H s) (h0 : X.s_0.heap.get? a = none) (hz : Zc cls d oe) (hd : oe.data = Data.fields vs) (hne : ∀ p ∈ X.pn ++ pins, p.1 ≠ a) : Inv X pins σ (upd H a (ExD cls d a)) s := by
  have hp := I.pin (a, oe) (List.mem_append_right _ List.mem_cons_self)
  obtain ⟨ha, hn, hl, hf, hc⟩ := hp
  have hn : H a = none := hn
  have ha : s.heap.get? a = some oe := ha
  refine ⟨I.ok, I.os, I.bare, ?_, I.loc, I.cell, ?_, ?_, ?_, ?_, I.len⟩
  · obtain ⟨k1, k2, k3, k4, k5, k6, k7⟩ := I.base
    refine ⟨k1, k2, fun b o e n hb => ?_, k4, fun b xs e => ?_, fun b o u e => ?_, fun b ps e => ?_⟩
    · rw [upd_ne (fun z => by rw [z, h0] at e; cases e)]
      exact k3 b o e n hb
    · exact upd_at (k5 b xs e) (ne_of_none (k5 b xs e) hn)
    · exact upd_at (k6 b o u e) (ne_of_none (k6 b o u e) hn)
    · obtain ⟨m, e2⟩ := k7 b ps e
      exact ⟨m, upd_at e2 (ne_of_none e2 hn)⟩
  · rw [upd_ne (Ne.symm hl)]
    exact I.free
  · intro x c e
    obtain ⟨v, o, ho, hd2⟩ := I.cell x c e
    have : c ≠ a := fun z => by
      rw [z, ha] at ho
      cases ho
      exact hc v hd2
    rw [upd_ne this]
    exact I.freeC x c e
  · intro p hp
    obtain ⟨q1, q2, q3, q4, q5⟩ := I.pin p (by
      rcases List.mem_append.mp hp with z | z
      · exact List.mem_append_left _ z
      · exact List.mem_append_right _ (List.mem_cons_of_mem _ z))
    exact ⟨q1, by rw [upd_ne (hne p hp)]; exact q2, q3, q4, q5⟩
  · intro b u e
    by_cases hb : b = a
    · subst hb
      rw [upd_same] at e
      cases e
      exact exD_ok ha hz hd
    · rw [upd_ne hb] at e
      exact ObjOk.stay (I.hok b u e) (fun _ _ _ z => z) (fun c z => upd_at z (ne_of_none z hn)) fun c xs z => upd_at z (ne_of_none z hn)
/-! ### lists of unlike lengths -/
end My

/-! try: .. except (A, B) as e: the error with its dict is tracked behind the suite -/
namespace My
open PySem PySem.Spec PyProof.Rows L2
end My

/-! a list of kinds against its own set, sorted -/
namespace My
open PySem L2
theorem cds_inj {a b : Str} (h : cds a = cds b) : a = b := TL.ext_tl h
theorem sle_lt {a b : Str} (h : sle a b = true) (n : a ≠ b) : cds a < cds b := by
  have h1 : ¬ cds b < cds a := by
    unfold sle at h
    simpa using h
  rcases Classical.em (cds a < cds b) with c | c
  · exact c
  · exact absurd (cds_inj (List.le_antisymm (List.not_lt.mp h1) (List.not_lt.mp c))) n
theorem lt_sle {a b : Str} (h : cds a < cds b) : sle a b = true := by
  unfold sle
  simpa using List.lt_asymm h
theorem asc_iff {ks ys L : List Str} (nd : L.Nodup) (me : ∀ k, k ∈ L ↔ k ∈ ks) (hp : ys.Perm L) (hs : PyProof.Rows.sortedS ys = true) : ks = ys ↔ ks.Pairwise fun a b => cds a < cds b := by
  have sy := sorted_sle hs
  have ny : ys.Nodup := hp.nodup_iff.mpr nd
  constructor
  · rintro rfl
    exact (List.Pairwise.and sy ny).imp fun {a b} z => sle_lt z.1 z.2
  · intro up
    have nk : ks.Nodup := up.imp fun {a b} z e => by rw [e] at z; exact List.lt_irrefl _ z
    have sk : ks.Pairwise fun a b => sle a b = true := up.imp fun {a b} z => lt_sle z
    have pm : ks.Perm ys := (List.perm_ext_iff_of_nodup nk ny).mpr fun k => by rw [hp.mem_iff, me]
    exact pm.eq_of_pairwise (fun a b _ _ => sle_anti) sk sy
def sd (ks : List Str) : PyData := .list (ks.map .str)
theorem dp_strs {K : PySem.W.Frag} {H : Hp} : ∀ (ks : List Str), DpAll K H (ks.map V.str) (ks.map .str)
  | [] => .nil
  | k :: r => .cons (.str _) (dp_strs r)
theorem can_sd {qs : List Str} (h : ∀ p ∈ qs, KindS p) : (sd qs).canLay0 = true := by
  unfold sd
  unfold PyData.canLay0
  induction qs with
  | nil => rfl
  | cons p r ih =>
    rw [List.map_cons]
    show (PyData.strOk p && PyData.canLayAll0 (List.map PyData.str r)) = true
    rw [ih fun q hq => h q (List.mem_cons_of_mem _ hq), Bool.and_true]
    exact strOk_kind (h p List.mem_cons_self)
theorem depth_strs : ∀ ks : List Str, PyData.depthAll (ks.map PyData.str) ≤ 1
  | [] => by decide
  | k :: r => by
    have := depth_strs r
    show max (PyData.depth (.str k)) (PyData.depthAll (r.map PyData.str)) ≤ 1
    have : PyData.depth (.str k) ≤ 1 := by simp [PyData.depth]
    omega
theorem shaped_sd {qs : List Str} (h : ∀ p ∈ qs, KindS p) : SeqAt.shaped (sd qs) = true := by
  unfold SeqAt.shaped
  rw [can_sd h, Bool.true_and]
  refine decide_eq_true ?_
  have := depth_strs qs
  show PyData.depthAll (qs.map PyData.str) + 1 ≤ 64
  omega
theorem eqv_strs : ∀ a b : List Str, PyData.eqvAll (a.map .str) (b.map .str) = decide (a = b)
  | [], [] => rfl
  | [], y :: s => by
    symm
    exact decide_eq_false (by simp)
  | x :: r, [] => by
    symm
    exact decide_eq_false (by simp)
  | x :: r, y :: s => by
    show ((x == y) && PyData.eqvAll (r.map .str) (s.map .str)) = _
    rw [eqv_strs r s]
    by_cases h : x = y
    · subst h
      rw [beq_self_eq_true, Bool.true_and]
      by_cases g : r = s
      · subst g; rw [decide_eq_true rfl, decide_eq_true rfl]
      · rw [decide_eq_false g, decide_eq_false (by simpa using g)]
    · rw [beq_eq_false_iff_ne.mpr h, Bool.false_and, decide_eq_false (by simp [h])]
theorem eqv_sd (a b : List Str) : (sd a).eqv (sd b) = decide (a = b) := eqv_strs a b
theorem keys_qsOf {ws : List Str} (h : ws.length % 2 = 0) : keys (qsOf ws) = ods ws := by
  unfold keys qsOf
  refine List.map_fst_zip ?_
  rw [List.length_map, ods_len, evs_len]
  omega
theorem qsOf_at {ws : List Str} {i : Nat} {c k : Str} (hc : (evs ws)[i]? = some c) (hk : (ods ws)[i]? = some k) : (qsOf ws)[i]? = some (k, num c) := by
  unfold qsOf
  rw [List.getElem?_zip_eq_some]
  refine ⟨hk, ?_⟩
  rw [List.getElem?_map, hc]
  rfl
theorem qsOf_len {ws : List Str} (h : ws.length % 2 = 0) : (qsOf ws).length = ws.length / 2 := by
  unfold qsOf
  rw [List.length_zip, List.length_map, ods_len, evs_len]
  omega
theorem qsOf_pos {ws : List Str} (ok : OkW ws) : ∀ p ∈ qsOf ws, 0 < p.2 ∧ KindS p.1 ∧ p.2.natAbs < 2 ^ 1000 := by
  intro p hp
  have h1 := (List.of_mem_zip (show (p.1, p.2) ∈ (ods ws).zip ((evs ws).map num) from hp))
  obtain ⟨c, hc, e⟩ := List.mem_map.mp h1.2
  have m := ok.nu c hc
  rw [← e]
  exact ⟨m.pos, ok.ki _ h1.1, m.lt⟩
theorem qsOf_nodup {ws : List Str} (ok : OkW ws) : (keys (qsOf ws)).Nodup := by
  rw [keys_qsOf ok.ev]
  exact ok.up.imp fun {a b} z e => by rw [e] at z; exact List.lt_irrefl _ z
theorem qsOf_up {ws : List Str} (ok : OkW ws) : (qsOf ws).Pairwise fun a b => ple a b = true := by
  have h := ok.up
  rw [← keys_qsOf ok.ev] at h
  unfold keys at h
  rw [List.pairwise_map] at h
  refine h.imp fun {a b} z => ?_
  have n : a.1 ≠ b.1 := fun e => by rw [e] at z; exact List.lt_irrefl _ z
  show (if a.1 = b.1 then _ else sle a.1 b.1) = true
  rw [if_neg n]
  exact lt_sle z
theorem cn_tot {m qs : AL} (nd : (keys m).Nodup) (qn : (keys qs).Nodup) (qp : ∀ p ∈ qs, 0 < p.2) (up : qs.Pairwise fun a b => ple a b = true) (hg : ∀ k, get m k = tot qs k) : Cn m qs := by
  have h := pos_perm nd qn fun k _ => (hg k).trans (tot_nodup k qn)
  rw [pos_all qp] at h
  exact ⟨h.symm, up⟩
end My

/-! the order of data, of objects of an own class -/
namespace My
open PySem L2 PySem.W
def rOrd (K : PySem.W.Frag) (g : PyData → PyData → Bool) : R2 := fun x y H Q => ∃ d e, Dp K H x d ∧ Dp K H y e ∧ alike d e = true ∧ d ≠ .none ∧ d.depth ≤ 64 ∧ Q (.bl (g d e)) H
def oLe (d e : PyData) : Bool := !dataLt e d
section
variable {X : Cx}
theorem op_leD (hu : X.A.units + 64 < cLine) : OpR X (compareOp .LtE) (rOrd X.K oLe) := by
  intro pins s σ H x y v u Q I rx ry h
  obtain ⟨d, e, hd, he, ha, hn, hdp, q⟩ := h
  obtain ⟨as, r1⟩ := Dp.reads I d x v hd rx
  obtain ⟨bs, r2⟩ := Dp.reads I e y u he ry
  exact le_data r1 r2 ha hn (by omega) ⟨.bl _, H, I, rfl, q⟩
variable {CX : CXT} {k : Nat} {C : Addr} {ps : List Str} {sp : Sp} {E : XK}
end
end My

/-! try: .. except A as e: .. except B as f: ..; the error with its dict is tracked behind the suite -/
namespace My
open PySem PySem.Spec PyProof.Rows L2
/-- behind a suite the error's name is gone and the error stands at a -/
def endsD (cls : Value) (d : Option Addr) (a : Addr) (i : Nat) (D : Ends) : Ends := { nx := fun σ' H' => H' a = none → D.nx (σ'.set i none) (upd H' a (ExD cls d a)), rt := D.rt, bk := fun σ' H' => D.bk (σ'.set i none) H', ct := fun σ' H' => D.ct (σ'.set i none) H' }
def w12 (K : PySem.W.Frag) (c c2 : Value) (i i2 : Nat) (ts ts2 : Addr → TS) (D : Ends) : WX := fun cls d σ H =>
  (PySem.W.exmOne K cls c = some true ∧ ∀ a, H a = none → ts a (endsD cls d a i D) (σ.set i (some (.ref a))) H) ∨
  (PySem.W.exmOne K cls c = some false ∧ PySem.W.exmOne K cls c2 = some true ∧ ∀ a, H a = none → ts2 a (endsD cls d a i2 D) (σ.set i2 (some (.ref a))) H)
end My

/-! a dict with texts as keys and any values, as its pairs; a walk over a list or a tuple -/
namespace My
open PySem L2
section
variable {α : Type}
abbrev GL (α : Type) := List (Str × α)
def genc (f : α → V) (m : GL α) : List (Key × V) := m.map fun p => (Sum.inr p.1, f p.2)
def glook (m : GL α) (k : Str) : Option α := (m.find? fun p => decide (p.1 = k)).map (·.2)
def gput (m : GL α) (k : Str) (n : α) : GL α := if (m.any fun p => decide (p.1 = k)) = true then m.map (fun p => if p.1 = k then (p.1, n) else p) else m ++ [(k, n)]
def gkeys (m : GL α) : List Str := m.map (·.1)
theorem genc_len (f : α → V) (m : GL α) : (genc f m).length = m.length := List.length_map _
theorem genc_app (f : α → V) (m n : GL α) : genc f (m ++ n) = genc f m ++ genc f n := List.map_append
theorem glook_cons (p : Str × α) (r : GL α) (k : Str) : glook (p :: r) k = if p.1 = k then some p.2 else glook r k := by
  unfold glook
  rw [List.find?_cons]
  by_cases e : p.1 = k
  · rw [decide_eq_true e, if_pos e]
    rfl
  · rw [decide_eq_false e, if_neg e]
theorem genc_look (f : α → V) : ∀ (m : GL α) (k : Str), valV (genc f m) (Sum.inr k) = (glook m k).map f
  | [], _ => rfl
  | p :: r, k => by
    show valV ((Sum.inr p.1, f p.2) :: genc f r) (Sum.inr k) = _
    rw [glook_cons]
    by_cases e : p.1 = k
    · rw [valV_pos (by rw [e]), if_pos e]
      rfl
    · rw [valV_neg (fun z => e (Sum.inr.inj z)), if_neg e, genc_look f r k]
theorem gany (m : GL α) (k : Str) : (m.any fun p => decide (p.1 = k)) = true ↔ k ∈ gkeys m := by
  rw [List.any_eq_true]
  exact ⟨fun ⟨p, hp, e⟩ => List.mem_map.mpr ⟨p, hp, of_decide_eq_true e⟩, fun h => let ⟨p, hp, e⟩ := List.mem_map.mp h; ⟨p, hp, decide_eq_true e⟩⟩
theorem genc_put (f : α → V) (m : GL α) (k : Str) (n : α) : putK (genc f m) (Sum.inr k) (f n) = genc f (gput m k n) := by
  have ea : ((genc f m).any fun kv => decide (kv.1 = (Sum.inr k : Key))) = (m.any fun p => decide (p.1 = k)) := by
    unfold genc
    rw [List.any_map]
    congr 1
    funext p
    exact inr_eq
  unfold putK gput
  rw [ea]
  split
  · unfold genc
    rw [List.map_map, List.map_map]
    refine List.map_congr_left fun p _ => ?_
    show (if (Sum.inr p.1 : Key) = Sum.inr k then ((Sum.inr p.1 : Key), f n) else ((Sum.inr p.1 : Key), f p.2)) = (Sum.inr (if p.1 = k then (p.1, n) else p).1, f (if p.1 = k then (p.1, n) else p).2)
    by_cases e : p.1 = k
    · rw [if_pos (by rw [e]), if_pos e]
    · rw [if_neg (fun z => e (Sum.inr.inj z)), if_neg e]
  · exact (genc_app f m [(k, n)]).symm
theorem gput_new {m : GL α} {k : Str} {n : α} (h : k ∉ gkeys m) : gput m k n = m ++ [(k, n)] := by
  unfold gput
  rw [if_neg fun z => h ((gany m k).mp z)]
theorem gkeys_put (m : GL α) (k : Str) (n : α) : gkeys (gput m k n) = if k ∈ gkeys m then gkeys m else gkeys m ++ [k] := by
  by_cases h : k ∈ gkeys m
  · unfold gput
    rw [if_pos ((gany m k).mpr h), if_pos h]
    unfold gkeys
    rw [List.map_map]
    refine List.map_congr_left fun p _ => ?_
    show (if p.1 = k then (p.1, n) else p).1 = p.1
    split <;> rfl
  · rw [gput_new h, if_neg h]
    exact List.map_append
theorem gput_nodup {m : GL α} {k : Str} {n : α} (h : (gkeys m).Nodup) : (gkeys (gput m k n)).Nodup := by
  rw [gkeys_put]
  split
  · exact h
  · exact nd_snoc h (by assumption)
theorem gput_len (m : GL α) (k : Str) (n : α) : (gput m k n).length ≤ m.length + 1 := by
  have e : (gput m k n).length = (gkeys (gput m k n)).length := (List.length_map _).symm
  have e2 : (gkeys m).length = m.length := List.length_map _
  rw [e, gkeys_put]
  split
  · omega
  · rw [List.length_append, List.length_singleton]
    omega
theorem glook_none {m : GL α} {k : Str} : glook m k = none ↔ k ∉ gkeys m := by
  induction m with
  | nil => simp [glook, gkeys]
  | cons p r ih =>
    rw [glook_cons]
    show _ ↔ k ∉ p.1 :: gkeys r
    by_cases e : p.1 = k
    · rw [if_pos e, e]
      simp
    · rw [if_neg e, ih, List.mem_cons, not_or]
      exact ⟨fun h => ⟨Ne.symm e, h⟩, fun h => h.2⟩
theorem glook_put (m : GL α) (k j : Str) (n : α) : glook (gput m k n) j = if j = k then some n else glook m j := by
  induction m with
  | nil =>
    show glook [(k, n)] j = _
    rw [glook_cons]
    by_cases e : k = j
    · rw [if_pos e, if_pos e.symm]
    · rw [if_neg e, if_neg (Ne.symm e)]
  | cons p r ih =>
    by_cases hk : p.1 = k
    · have e : gput (p :: r) k n = (p.1, n) :: r.map (fun p => if p.1 = k then (p.1, n) else p) := by
        unfold gput
        rw [if_pos (by rw [List.any_cons, decide_eq_true hk, Bool.true_or]), List.map_cons, if_pos hk]
      rw [e, glook_cons, glook_cons]
      by_cases ej : j = k
      · rw [if_pos (hk.trans ej.symm), if_pos ej]
      · rw [if_neg fun z => ej (z.symm.trans hk), if_neg ej, if_neg fun z => ej (z.symm.trans hk)]
        unfold glook
        congr 1
        have : ∀ r : GL α, List.find? (fun p => decide (p.1 = j)) (r.map fun p => if p.1 = k then (p.1, n) else p) = List.find? (fun p => decide (p.1 = j)) r := by
          intro r
          induction r with
          | nil => rfl
          | cons q r ih =>
            rw [List.map_cons, List.find?_cons, List.find?_cons, ih]
            by_cases eq : q.1 = k
            · rw [if_pos eq, decide_eq_false (fun z : q.1 = j => ej (z.symm.trans eq))]
            · rw [if_neg eq]
        exact this r
    · have e : gput (p :: r) k n = p :: gput r k n := by
        unfold gput
        rw [List.any_cons, decide_eq_false hk, Bool.false_or]
        split
        · rw [List.map_cons, if_neg hk]
        · rfl
      rw [e, glook_cons, glook_cons, ih]
      by_cases ej : j = k
      · rw [if_neg fun z => hk (z.trans ej), if_pos ej, if_pos ej]
      · rw [if_neg ej, if_neg ej]
end
/-! readings -/
section
variable {X : Cx} {tg : Expr} {σ : L2.St} {H H' : Hp} {K : PySem.W.Frag} {a p l : Addr} {xs : List V} {D : Ends}
/-- a list or a tuple -/
def SqA (K : PySem.W.Frag) (H : Hp) (a : Addr) (xs : List V) : Prop := SqL K H a xs ∨ SqT K H a xs
theorem SqA.same (h : SqA K H a xs) (e : Same H H') : SqA K H' a xs := h.imp (fun z => e.seq z) fun z => SqT.same z e
def SeqW (K : PySem.W.Frag) (H : Hp) (a : Addr) (xs : List V) (R : It → Hp → Prop) : Prop := (SqL K H a xs ∧ R (Itl K a) H) ∨ (SqT K H a xs ∧ R (Itt K a) H)
def iSeq (K : PySem.W.Frag) (tl : TE) : TI := fun σ H R => tl σ H fun x H1 => ∃ (a : Addr) (xs : List V), x = .ref a ∧ SeqW K H1 a xs R
theorem pi_seq {e : Expr} {tl : TE} (hl : PE X e tl) : PI X tg e (iSeq X.K tl) := by
  refine ⟨fun pins s σ H R I h => ?_⟩
  refine thn (hl.run pins s σ H _ I h) fun v s1 ⟨x, H1, I1, r1, q1⟩ => ?_
  obtain ⟨a, xs, e, q⟩ := q1
  subst e
  cases r1
  rcases q with ⟨hq, q⟩ | ⟨hq, q⟩
  · obtain ⟨its, rv, p, hz⟩ := I1.list hq
    refine wpAny_pyIter_list p.isList ⟨s1.heap.objs.size, [s1.heap.objs.size], _, _, H1, rfl, I1.kept (t' := s1.toks) fun b o e => Heap.get?_push_of_some _ e, turn_list a _, ⟨_, Heap.get?_push_size _ rfl, rfl, rfl⟩, fun b hb => ?_, q⟩
    rw [List.mem_singleton.mp hb]
    exact I1.fpOk (Nat.le_refl _) (I1.hok.fresh (Nat.le_refl _))
  · obtain ⟨its, rv, p, hz⟩ := I1.tuple hq
    refine wpAny_pyIter_tuple (show s1.heap.IsTuple a its.toArray from p) ⟨s1.heap.objs.size, [s1.heap.objs.size], _, _, H1, rfl, I1.kept (t' := s1.toks) fun b o e => Heap.get?_push_of_some _ e, turn_tuple a _, ⟨_, Heap.get?_push_size _ rfl, rfl, rfl⟩, fun b hb => ?_, q⟩
    rw [List.mem_singleton.mp hb]
    exact I1.fpOk (Nat.le_refl _) (I1.hok.fresh (Nat.le_refl _))
end
end My

/-! books: rows, edges, the dict of parts -/
namespace My
open PySem L2
/-- an Opening as data: its kind, the pairs of its contents -/
abbrev Row := Str × AL
structure RowOk (r : Row) : Prop where
  kk : KindS r.1
  ne : r.2 ≠ []
  pos : ∀ p ∈ r.2, 0 < p.2 ∧ KindS p.1
  up : (keys r.2).Pairwise fun a b => cds a < cds b
  no : r.1 ∉ keys r.2
  ln : r.2.length ≤ 29
theorem RowOk.nd {r : Row} (h : RowOk r) : (keys r.2).Nodup := h.up.imp fun {a b} z e => by rw [e] at z; exact List.lt_irrefl _ z
theorem up_ple {qs : AL} (up : (keys qs).Pairwise fun a b => cds a < cds b) : qs.Pairwise fun a b => ple a b = true := by
  unfold keys at up
  rw [List.pairwise_map] at up
  refine up.imp fun {a b} z => ?_
  show (if a.1 = b.1 then _ else sle a.1 b.1) = true
  rw [if_neg fun e => by rw [e] at z; exact List.lt_irrefl _ z]
  exact lt_sle z
theorem RowOk.cn {r : Row} (h : RowOk r) : Cn r.2 r.2 := ⟨by rw [pos_all fun p hp => (h.pos p hp).1], up_ple h.up⟩
def Edge (rows : List Row) (k p : Str) : Prop := ∃ r ∈ rows, r.1 = k ∧ p ∈ keys r.2
/-- a book without a ring: the parts of a kind rank above it -/
def Ranked (rows : List Row) : Prop := ∃ f : Str → Nat, ∀ k p, Edge rows k p → f k < f p
/-- the lists of parts in the heap -/
structure PtsH (H : Hp) (m : GL Addr) (ms : GL (List Str)) : Prop where
  ke : gkeys m = gkeys ms
  nd : (gkeys ms).Nodup
  at_ : ∀ k a ps, glook m k = some a → glook ms k = some ps → H a = some (.lst (ps.map V.str))
  inj : ∀ k j a, glook m k = some a → glook m j = some a → k = j
/-- their kinds and parts are the pairs es -/
structure EdOk (es : List (Str × Str)) (ms : GL (List Str)) : Prop where
  ed : ∀ k p, (∃ ps, glook ms k = some ps ∧ p ∈ ps) ↔ (k, p) ∈ es
  ne : ∀ k ps, glook ms k = some ps → ps ≠ []
  ln : ∀ k ps, glook ms k = some ps → ps.length ≤ es.length
  lm : ms.length ≤ es.length
  sm : (ms.map fun q => q.2.length).sum ≤ es.length
  fl : (ms.map (·.2)).flatten.Perm (es.map (·.2))
theorem gput_flat {ms : GL (List Str)} {k p : Str} {ps : List Str} (nd : (gkeys ms).Nodup) (h : glook ms k = some ps ∨ (glook ms k = none ∧ ps = [])) : ((gput ms k (ps ++ [p])).map (·.2)).flatten.Perm ((ms.map (·.2)).flatten ++ [p]) := by
  rcases h with h | ⟨h, rfl⟩
  · induction ms with
    | nil => cases h
    | cons q r ih =>
      have hn := List.nodup_cons.mp (show (q.1 :: gkeys r).Nodup from nd)
      rw [glook_cons] at h
      by_cases e : q.1 = k
      · rw [if_pos e] at h
        have e2 : gput (q :: r) k (ps ++ [p]) = (q.1, ps ++ [p]) :: r := by
          unfold gput
          rw [if_pos (by rw [List.any_cons, decide_eq_true e, Bool.true_or]), List.map_cons, if_pos e]
          congr 1
          have : ∀ x ∈ r, x.1 ≠ k := fun x hx z => hn.1 (by rw [e, ← z]; exact List.mem_map.mpr ⟨x, hx, rfl⟩)
          calc r.map (fun p_1 => if p_1.1 = k then (p_1.1, ps ++ [p]) else p_1) = r.map id := List.map_congr_left fun x hx => by rw [if_neg (this x hx)]; rfl
            _ = r := List.map_id _
        rw [e2, List.map_cons, List.map_cons, List.flatten_cons, List.flatten_cons, Option.some.inj h]
        show ((ps ++ [p]) ++ _).Perm _
        rw [List.append_assoc, List.append_assoc]
        exact List.Perm.append_left _ List.perm_append_comm
      · rw [if_neg e] at h
        have e2 : gput (q :: r) k (ps ++ [p]) = q :: gput r k (ps ++ [p]) := by
          unfold gput
          rw [List.any_cons, decide_eq_false e, Bool.false_or]
          split
          · rw [List.map_cons, if_neg e]
          · rfl
        rw [e2, List.map_cons, List.map_cons, List.flatten_cons, List.flatten_cons, List.append_assoc]
        exact List.Perm.append_left _ (ih hn.2 h)
  · rw [gput_new (glook_none.mp h), List.map_append, List.flatten_append]
    exact List.Perm.refl _
theorem gput_sum {ms : GL (List Str)} {k p : Str} {ps : List Str} (nd : (gkeys ms).Nodup) (h : glook ms k = some ps ∨ (glook ms k = none ∧ ps = [])) : ((gput ms k (ps ++ [p])).map fun q => q.2.length).sum = (ms.map fun q => q.2.length).sum + 1 := by
  rcases h with h | ⟨h, rfl⟩
  · induction ms with
    | nil => cases h
    | cons q r ih =>
      have hn := List.nodup_cons.mp (show (q.1 :: gkeys r).Nodup from nd)
      rw [glook_cons] at h
      by_cases e : q.1 = k
      · rw [if_pos e] at h
        have e2 : gput (q :: r) k (ps ++ [p]) = (q.1, ps ++ [p]) :: r := by
          unfold gput
          rw [if_pos (by rw [List.any_cons, decide_eq_true e, Bool.true_or]), List.map_cons, if_pos e]
          congr 1
          refine (List.map_congr_left fun x hx => ?_).trans (List.map_id r)
          rw [if_neg fun z : x.1 = k => hn.1 (by rw [e, ← z]; exact List.mem_map.mpr ⟨x, hx, rfl⟩)]
          rfl
        rw [e2, List.map_cons, List.map_cons, List.sum_cons, List.sum_cons]
        show (ps ++ [p]).length + _ = q.2.length + _ + 1
        rw [Option.some.inj h, List.length_append, List.length_singleton]
        omega
      · rw [if_neg e] at h
        have e2 : gput (q :: r) k (ps ++ [p]) = q :: gput r k (ps ++ [p]) := by
          unfold gput
          rw [List.any_cons, decide_eq_false e, Bool.false_or]
          split
          · rw [List.map_cons, if_neg e]
          · rfl
        rw [e2, List.map_cons, List.map_cons, List.sum_cons, List.sum_cons, ih hn.2 h]
        omega
  · rw [gput_new (glook_none.mp h), List.map_append, List.sum_append]
    rfl
theorem PtsH.same {H H' : Hp} {m : GL Addr} {ms : GL (List Str)} (h : PtsH H m ms) (s : Same H H') : PtsH H' m ms := ⟨h.ke, h.nd, fun k a ps h1 h2 => s _ _ (h.at_ k a ps h1 h2), h.inj⟩
theorem gkeys_some {α : Type} {m : GL α} {k : Str} : k ∈ gkeys m ↔ ∃ a, glook m k = some a := by
  cases e : glook m k with
  | none => exact ⟨fun h => absurd h (glook_none.mp e), fun ⟨a, h⟩ => by cases h⟩
  | some a => exact ⟨fun _ => ⟨a, rfl⟩, fun _ => Classical.byContradiction fun h => by rw [glook_none.mpr h] at e; cases e⟩
theorem PtsH.both {H : Hp} {m : GL Addr} {ms : GL (List Str)} (h : PtsH H m ms) {k : Str} {a : Addr} (e : glook m k = some a) : ∃ ps, glook ms k = some ps ∧ H a = some (.lst (ps.map V.str)) := by
  obtain ⟨ps, hp⟩ := gkeys_some.mp (by rw [← h.ke]; exact gkeys_some.mpr ⟨a, e⟩)
  exact ⟨ps, hp, h.at_ k a ps e hp⟩
theorem PtsH.len {H : Hp} {m : GL Addr} {ms : GL (List Str)} (h : PtsH H m ms) : m.length = ms.length := by
  have := congrArg List.length h.ke
  unfold gkeys at this
  rwa [List.length_map, List.length_map] at this
theorem PtsH.nil {H : Hp} : PtsH H [] [] := ⟨rfl, List.nodup_nil, fun _ _ _ h => (by cases h), fun _ _ _ h => (by cases h)⟩
theorem EdOk.nil : EdOk [] [] := ⟨fun k p => ⟨fun ⟨_, h, _⟩ => (by cases h), fun h => (nomatch h)⟩, fun _ _ h => (by cases h), fun _ _ h => (by cases h), Nat.le_refl _, Nat.le_refl _, List.Perm.refl _⟩
/-- one more part of a kind that has some -/
theorem PtsH.grow {H H' : Hp} {m : GL Addr} {ms : GL (List Str)} {k p : Str} {a : Addr} {ps : List Str} (h : PtsH H m ms) (e1 : glook m k = some a) (e2 : glook ms k = some ps) (ha : H' a = some (.lst ((ps ++ [p]).map V.str))) (oth : ∀ c o, H c = some o → c ≠ a → H' c = some o) : PtsH H' m (gput ms k (ps ++ [p])) := by
  have hk : k ∈ gkeys ms := gkeys_some.mpr ⟨ps, e2⟩
  refine ⟨by rw [gkeys_put, if_pos hk]; exact h.ke, gput_nodup h.nd, fun j b qs h1 h2 => ?_, h.inj⟩
  rw [glook_put] at h2
  by_cases c : j = k
  · rw [if_pos c] at h2
    subst c
    rw [e1] at h1
    rw [← Option.some.inj h1, ← Option.some.inj h2]
    exact ha
  · rw [if_neg c] at h2
    exact oth _ _ (h.at_ j b qs h1 h2) fun z => c (h.inj j k a (by rw [← z]; exact h1) e1)
theorem EdOk.grow {es : List (Str × Str)} {ms : GL (List Str)} {k p : Str} {ps : List Str} (nd : (gkeys ms).Nodup) (h : EdOk es ms) (hp : glook ms k = some ps ∨ (glook ms k = none ∧ ps = [])) : EdOk (es ++ [(k, p)]) (gput ms k (ps ++ [p])) := by
  have ll : (es ++ [(k, p)]).length = es.length + 1 := by rw [List.length_append]; rfl
  have lp : ps.length ≤ es.length := hp.elim (h.ln k ps) fun z => by rw [z.2]; exact Nat.zero_le _
  refine ⟨fun j q => ?_, fun j qs e => ?_, fun j qs e => ?_, ?_, by rw [gput_sum nd hp, ll]; exact Nat.succ_le_succ h.sm, by rw [List.map_append]; exact (gput_flat nd hp).trans (List.Perm.append_right _ h.fl)⟩
  · rw [List.mem_append, List.mem_singleton, ← h.ed j q, glook_put]
    by_cases c : j = k
    · subst c
      rw [if_pos rfl]
      constructor
      · rintro ⟨qs, e, hq⟩
        rw [← Option.some.inj e] at hq
        rcases List.mem_append.mp hq with z | z
        · rcases hp with w | w
          · exact .inl ⟨ps, w, z⟩
          · rw [w.2] at z; cases z
        · exact .inr (by rw [List.mem_singleton.mp z])
      · rintro (⟨qs, e, hq⟩ | z)
        · rcases hp with w | w
          · rw [w] at e
            exact ⟨_, rfl, List.mem_append_left _ (by rw [Option.some.inj e]; exact hq)⟩
          · rw [w.1] at e; cases e
        · exact ⟨_, rfl, List.mem_append_right _ (by rw [(Prod.mk.inj z).2]; exact List.mem_singleton_self _)⟩
    · rw [if_neg c]
      exact ⟨.inl, fun z => z.elim id fun z => absurd (Prod.mk.inj z).1 c⟩
  · rw [glook_put] at e
    by_cases c : j = k
    · rw [if_pos c] at e
      rw [← Option.some.inj e]
      simp
    · rw [if_neg c] at e
      exact h.ne j qs e
  · rw [ll]
    rw [glook_put] at e
    by_cases c : j = k
    · rw [if_pos c] at e
      rw [← Option.some.inj e, List.length_append, List.length_singleton]
      omega
    · rw [if_neg c] at e
      have := h.ln j qs e
      omega
  · have h1 := gput_len ms k (ps ++ [p])
    have h2 := h.lm
    omega
/-- the first part of a kind -/
theorem PtsH.more {H H' : Hp} {m : GL Addr} {ms : GL (List Str)} {k p : Str} {a : Addr} (h : PtsH H m ms) (e1 : glook m k = none) (fr : H a = none) (ha : H' a = some (.lst ([p].map V.str))) (oth : ∀ c o ys, H c = some o → o = .lst ys → H' c = some o) : PtsH H' (gput m k a) (gput ms k [p]) := by
  have hk : k ∉ gkeys m := glook_none.mp e1
  have hk2 : k ∉ gkeys ms := by rw [← h.ke]; exact hk
  refine ⟨by rw [gkeys_put, gkeys_put, if_neg hk, if_neg hk2, h.ke], gput_nodup h.nd, fun j b qs h1 h2 => ?_, fun i j b h1 h2 => ?_⟩
  · rw [glook_put] at h1 h2
    by_cases c : j = k
    · rw [if_pos c] at h1 h2
      rw [← Option.some.inj h1, ← Option.some.inj h2]
      exact ha
    · rw [if_neg c] at h1 h2
      exact oth _ _ _ (h.at_ j b qs h1 h2) rfl
  · have nb : ∀ j, glook m j ≠ some a := fun j e => by
      obtain ⟨ps, _, h2⟩ := h.both e
      rw [fr] at h2
      cases h2
    rw [glook_put] at h1 h2
    by_cases ci : i = k
    · by_cases cj : j = k
      · rw [ci, cj]
      · rw [if_pos ci] at h1
        rw [if_neg cj, ← Option.some.inj h1] at h2
        exact absurd h2 (nb j)
    · rw [if_neg ci] at h1
      by_cases cj : j = k
      · rw [if_pos cj] at h2
        rw [← Option.some.inj h2] at h1
        exact absurd h1 (nb i)
      · rw [if_neg cj] at h2
        exact h.inj i j b h1 h2
/-- how many parts the rows have -/
def esum (rows : List Row) : Nat := (rows.map fun r => r.2.length).sum
theorem esum_take {rows : List Row} {i : Nat} {r : Row} (e : rows[i]? = some r) : esum (rows.take (i + 1)) = esum (rows.take i) + r.2.length := by
  unfold esum
  rw [List.take_add_one, e, List.map_append, List.sum_append]
  simp
/-- the dict of parts of the book of these rows -/
def PartsA (H : Hp) (d : Addr) (rows : List Row) : Prop := ∃ (m : GL Addr) (ms : GL (List Str)) (es : List (Str × Str)), H d = some (.dK (genc V.ref m)) ∧ PtsH H m ms ∧ EdOk es ms ∧ (∀ k p, (k, p) ∈ es ↔ Edge rows k p) ∧ es.length ≤ 3000 ∧ es.length ≤ esum rows ∧ (es.map (·.2)).Perm (rows.map fun r => keys r.2).flatten
theorem PartsA.same {H H' : Hp} {d : Addr} {rows : List Row} (h : PartsA H d rows) (s : Same H H') : PartsA H' d rows := by
  obtain ⟨m, ms, es, h1, h2, h3, h4, h5⟩ := h
  exact ⟨m, ms, es, s _ _ h1, h2.same s, h3, h4, h5⟩
theorem Edge.take {rows : List Row} {i : Nat} {r : Row} (e : rows[i]? = some r) (k p : Str) : Edge (rows.take (i + 1)) k p ↔ Edge (rows.take i) k p ∨ (r.1 = k ∧ p ∈ keys r.2) := by
  have e2 : rows.take (i + 1) = rows.take i ++ [r] := by rw [List.take_add_one, e]; rfl
  unfold Edge
  rw [e2]
  constructor
  · rintro ⟨q, hq, h⟩
    rcases List.mem_append.mp hq with z | z
    · exact .inl ⟨q, z, h⟩
    · exact .inr (by rw [← List.mem_singleton.mp z]; exact h)
  · rintro (⟨q, hq, h⟩ | h)
    · exact ⟨q, List.mem_append_left _ hq, h⟩
    · exact ⟨r, List.mem_append_right _ (List.mem_singleton_self _), h⟩
theorem r_dsetd {td ty tx : TE} {σ : L2.St} {H : Hp} {Q : VK} (h : td σ H fun x H1 => ∃ a, x = .ref a ∧ IsD H1 a ∧ ty σ H1 fun y H2 => tx σ H2 fun z H3 => ∃ (kvs : List (Key × V)) (k : Key), H3 a = some (.dK kvs) ∧ y = kV k ∧ kvs.length < sizeLine ∧
  (∀ v, valV kvs k = some v → Q v H3) ∧ (valV kvs k = none → Q z (upd H3 a (.dK (putK kvs k z))))) : tDSetd td ty tx σ H Q := h
end My
namespace My
open PySem L2
/-- a walk over a list or a tuple, told once -/
theorem r_seqA {K : PySem.W.Frag} {H : Hp} {a : Addr} {xs : List V} {R : It → Hp → Prop} (sq : SqA K H a xs) (h : ∀ (J : It) (G : Hp → Prop), Walk J xs.length G (YAt xs) → (∀ H', (∀ o, H a = some o → H' a = some o) → G H') → R J H) : SeqW K H a xs R := by
  rcases sq with z | z
  · refine .inl ⟨z, h (Itl K a) _ walk_list fun H' s => ?_⟩
    rcases z with (z | ⟨o, z⟩) | z
    · exact .inl (.inl (s _ z))
    · exact .inl (.inr ⟨o, s _ z⟩)
    · exact .inr z
  · refine .inr ⟨z, h (Itt K a) _ walk_tup fun H' s => ?_⟩
    rcases z with (z | ⟨o, z⟩) | z
    · exact .inl (.inl (s _ z))
    · exact .inl (.inr ⟨o, s _ z⟩)
    · exact .inr z
/-- p lies within k -/
inductive Rch (es : List (Str × Str)) (k : Str) : Str → Prop
  | one {p : Str} : (k, p) ∈ es → Rch es k p
  | step {h p : Str} : Rch es k h → (h, p) ∈ es → Rch es k p
theorem Rch.rank {es : List (Str × Str)} {f : Str → Nat} (hf : ∀ k p, (k, p) ∈ es → f k < f p) {k p : Str} (h : Rch es k p) : f k < f p := by
  induction h with
  | one h => exact hf _ _ h
  | step _ h ih => exact Nat.lt_trans ih (hf _ _ h)
theorem glook_len {α : Type} {m : GL α} (nd : (gkeys m).Nodup) {ks : List Str} (h : ∀ k ∈ gkeys m, k ∈ ks) : m.length ≤ ks.length := by
  have e : m.length = (gkeys m).length := (List.length_map _).symm
  rw [e]
  exact nodup_sub_len nd h
end My
namespace My
open PySem L2
/-- a while whose measure the invariant tells -/
theorem while_m {c : TT} {tb : TS} {D : Ends} {σ : L2.St} {H : Hp} {m0 : Nat} (Pv : Nat → L2.St → Hp → Prop) (h0 : Pv m0 σ H)
    (hs : ∀ n σ H, Pv n σ H → c σ H fun b H1 => if b = true then tb { D with nx := fun σ' H' => ∃ n', n' < n ∧ Pv n' σ' H', ct := fun σ' H' => ∃ n', n' < n ∧ Pv n' σ' H', bk := D.nx } σ H1 else D.nx σ H1)
    (mono : ∀ σ H Q Q', (∀ b H1, Q b H1 → Q' b H1) → c σ H Q → c σ H Q') : tWhile c tb D σ H := by
  refine ⟨Pv, ⟨m0, h0⟩, fun m σ H p => mono σ H _ _ (fun b H1 q => ?_) (hs m σ H p)⟩
  cases b with
  | true => exact ⟨_, fun σ' H' z => z, q⟩
  | false => exact q
theorem r_din {ty td : TE} {σ : L2.St} {H : Hp} {Q : VK} (h : ty σ H fun y H1 => td σ H1 fun x H2 => ∃ a o, x = .ref a ∧ DGet H2 a y o ∧ Q (.bl o.isSome) H2) : tDIn ty td σ H Q := h
theorem r_dnin {ty td : TE} {σ : L2.St} {H : Hp} {Q : VK} (h : ty σ H fun y H1 => td σ H1 fun x H2 => ∃ a o, x = .ref a ∧ DGet H2 a y o ∧ Q (.bl (!o.isSome)) H2) : tDNotIn ty td σ H Q := h
theorem DGet_genc {α : Type} {f : α → V} {H : Hp} {a : Addr} {m : GL α} (h : Rd H a (.dK (genc f m))) (k : Str) : DGet H a (.str k) ((glook m k).map f) := .inl ⟨_, Sum.inr k, h, rfl, (genc_look f m k).symm⟩
theorem DPut_genc {α : Type} {f : α → V} {H : Hp} {a : Addr} {m : GL α} (h : H a = some (.dK (genc f m))) (k : Str) (n : α) (hl : m.length < sizeLine) : DPut H a (.str k) (f n) (upd H a (.dK (genc f (gput m k n)))) := by
  rw [← genc_put]
  exact .inl ⟨_, Sum.inr k, h, rfl, by rw [genc_len]; exact hl, rfl⟩
end My

/-! lines of a book's text: a kind, " = ", a lot's text -/
namespace My
open PySem L2
def eqs : Str := Str.ofString " = "
theorem cds_eqs : cds eqs = [32, 61, 32] := by decide +kernel
def BadL (z : Str) : Prop := (Txt.partition z eqs).2.2 = dash ∨ ¬ KindS (Txt.partition z eqs).1 ∨ ¬ OkW (words (Txt.partition z eqs).2.2)
structure GoodL (z : Str) (r : Row) : Prop where
  k : (Txt.partition z eqs).1 = r.1
  kk : KindS r.1
  nd : (Txt.partition z eqs).2.2 ≠ dash
  ok : OkW (words (Txt.partition z eqs).2.2)
  rd : Reads (Txt.partition z eqs).2.2 r.2
theorem GoodL.not_bad {z : Str} {r : Row} (h : GoodL z r) : ¬ BadL z := fun b => by
  rcases b with b | b | b
  · exact h.nd b
  · rw [h.k] at b
    exact b h.kk
  · exact b h.ok
theorem kind_free {k : Str} {c : Nat} (h : KindS k) (hc : ¬ (97 ≤ c ∧ c ≤ 122)) : c ∉ cds k := fun m => hc (h.2.2 c m)
theorem part_at {z k : Str} {b : List Nat} (e : cds z = cds k ++ (32 :: 61 :: 32 :: b)) (hk : 32 ∉ cds k) : Txt.partition z eqs = (k, eqs, SX.S b) := by
  have : z = k ++ eqs ++ SX.S b := cds_inj (by rw [e, cds_app, cds_app, cds_eqs, List.append_assoc]; rfl)
  rw [this]
  exact TL.partition_app (s := 32) (S := [61, 32]) cds_eqs hk
theorem part_cases (z : Str) : Txt.partition z eqs = (z, Str.empty, Str.empty) ∨ ∃ a b, Txt.partition z eqs = (a, eqs, b) ∧ cds z = cds a ++ (32 :: 61 :: 32 :: cds b) := by
  rcases PyProof.Rows.partition_whole z eqs with ⟨e, _⟩ | ⟨i, e, _, _⟩
  · exact .inl e
  · refine .inr ⟨_, _, e, ?_⟩
    have s := PySem.StrLaws.partition_sum z eqs
    rw [e] at s
    have s2 := congrArg cds s
    rw [cds_app, cds_app, cds_eqs, List.append_assoc] at s2
    exact s2.symm
/-- a sign that is no letter, no " = " from there on -/
theorem bad_at {z : Str} {p : List Nat} {c : Nat} {t : List Nat} (e : cds z = p ++ c :: t) (hp : ∀ x ∈ p, 97 ≤ x ∧ x ≤ 122) (hc : ¬ (97 ≤ c ∧ c ≤ 122)) (h3 : ∀ u, c :: t ≠ 32 :: 61 :: 32 :: u) : BadL z := by
  refine .inr (.inl fun h => ?_)
  rcases part_cases z with e1 | ⟨a, b, e1, e2⟩
  · rw [e1] at h
    exact hc (h.2.2 c (by show c ∈ cds z; rw [e]; exact List.mem_append_right _ List.mem_cons_self))
  · rw [e1] at h
    have h : KindS a := h
    rw [e] at e2
    rcases List.append_eq_append_iff.mp e2 with ⟨a', ea, eb⟩ | ⟨c', ea, eb⟩
    · cases a' with
      | nil => exact h3 _ eb
      | cons x r =>
        have : c = x := (List.cons.inj eb).1
        exact hc (h.2.2 c (by rw [ea, this]; exact List.mem_append_right _ List.mem_cons_self))
    · cases c' with
      | nil => exact h3 _ eb.symm
      | cons x r =>
        have : 32 = x := (List.cons.inj eb).1
        have := hp x (by rw [ea]; exact List.mem_append_right _ List.mem_cons_self)
        omega
/-- the first sign is no letter -/
theorem bad_first {z : Str} {c : Nat} {t : List Nat} (e : cds z = c :: t) (hc : ¬ (97 ≤ c ∧ c ≤ 122)) : BadL z := by
  refine .inr (.inl fun h => ?_)
  rcases part_cases z with e1 | ⟨a, b, e1, e2⟩
  · rw [e1] at h
    exact hc (h.2.2 c (by show c ∈ cds z; rw [e]; exact List.mem_cons_self))
  · rw [e1] at h
    have h : KindS a := h
    rw [e] at e2
    cases ha : cds a with
    | nil =>
      have := h.1
      rw [ha] at this
      exact absurd this (by decide)
    | cons x r =>
      rw [ha] at e2
      have : c = x := (List.cons.inj e2).1
      exact hc (h.2.2 c (by rw [ha, this]; exact List.mem_cons_self))
theorem bad_kind {z k : Str} {b : List Nat} (e : cds z = cds k ++ (32 :: 61 :: 32 :: b)) (hk : 32 ∉ cds k) (h : ¬ KindS k) : BadL z := .inr (.inl (by rw [part_at e hk]; exact h))
theorem bad_rest {z k : Str} {b : List Nat} (e : cds z = cds k ++ (32 :: 61 :: 32 :: b)) (hk : KindS k) (h : ¬ OkW (words (SX.S b))) : BadL z := .inr (.inr (by rw [part_at e (kind_free hk (by decide))]; exact h))
theorem bad_dash {z k : Str} (e : cds z = cds k ++ [32, 61, 32, 45]) (hk : KindS k) : BadL z := .inl (by rw [part_at (b := [45]) e (kind_free hk (by decide))]; rfl)
theorem good_of {z : Str} {r : Row} {b : Str} (e : cds z = cds r.1 ++ (32 :: 61 :: 32 :: cds b)) (hk : KindS r.1) (h : OkW (words b)) (hd : b ≠ dash) (hr : Reads b r.2) : GoodL z r := by
  have p := part_at (b := cds b) e (kind_free hk (by decide))
  rw [SX.S_tl] at p
  exact ⟨by rw [p], hk, by rw [p]; exact hd, by rw [p]; exact h, by rw [p]; exact hr⟩
/-! words of a text -/
theorem not_even {b : List Nat} (h : b.count 32 % 2 = 0) : ¬ OkW (words (SX.S b)) := fun o => by
  have := o.ev
  rw [words_len] at this
  have e : cds (SX.S b) = b := rfl
  rw [e] at this
  omega
theorem words_of {b : List Nat} {ws : List Str} (hne : ws ≠ []) (e : b = TL.joinL [32] (ws.map cds)) (h : ∀ w ∈ ws, 32 ∉ cds w) : words (SX.S b) = ws := by
  refine TL.map_tl_inj ?_
  refine (words_cds (SX.S b)).trans ?_
  have e2 : cds (SX.S b) = b := rfl
  rw [e2, e]
  exact SX.spl_join (c := 32) (sep := []) (by intro z; exact hne (List.map_eq_nil_iff.mp z)) fun p hp => by
    obtain ⟨w, hw, rfl⟩ := List.mem_map.mp hp
    exact h w hw
theorem no_many {b : List Nat} {u v : Str} (e : b = cds u ++ 32 :: cds v) (hu : 32 ∉ cds u) (hv : 32 ∉ cds v) (h : ¬ ManyS u ∨ ¬ KindS v) : ¬ OkW (words (SX.S b)) := by
  rw [words_of (ws := [u, v]) (by simp) (by rw [e]; rfl) (by intro w hw; rcases List.mem_cons.mp hw with rfl | hw; exact hu; rw [List.mem_singleton.mp hw]; exact hv)]
  intro o
  rcases h with h | h
  · exact h (o.nu u (by simp [evs]))
  · exact h (o.ki v (by simp [ods, evs]))
theorem no_asc {b : List Nat} {x u y v : Str} (e : b = cds x ++ 32 :: (cds u ++ 32 :: (cds y ++ 32 :: cds v))) (hx : 32 ∉ cds x) (hu : 32 ∉ cds u) (hy : 32 ∉ cds y) (hv : 32 ∉ cds v) (h : ¬ cds u < cds v) : ¬ OkW (words (SX.S b)) := by
  rw [words_of (ws := [x, u, y, v]) (by simp) (by rw [e]; rfl) (by
    intro w hw
    simp only [List.mem_cons, List.not_mem_nil, or_false] at hw
    rcases hw with rfl | rfl | rfl | rfl <;> assumption)]
  intro o
  have := o.up
  exact h ((List.pairwise_cons.mp (show [u, v].Pairwise _ from this)).1 v (List.mem_singleton_self _))
theorem empty_app (z : Str) : Str.empty ++ z = z := cds_inj (by rw [cds_app]; rfl)
end My

/-! sets of tuples of texts, ints and such tuples: the keys -/
namespace My
open PySem L2
mutual
/-- data of texts, ints and tuples as a key -/
def nk : PyData → NestedKey
  | .int i => .num i
  | .str x => .text x
  | .tuple xs => .tup (nks xs)
  | _ => .none
def nks : List PyData → List NestedKey
  | [] => []
  | x :: r => nk x :: nks r
end
mutual
/-- ints, texts and tuples of such -/
def plD0 : PyData → Bool
  | .int _ => true
  | .str _ => true
  | .tuple xs => plD0s xs
  | _ => false
def plD0s : List PyData → Bool
  | [] => true
  | x :: r => plD0 x && plD0s r
end
mutual
theorem nk_inj : ∀ (a b : PyData), plD0 a = true → plD0 b = true → nk a = nk b → a = b
  | .int i, b, _, hb, e => by
    cases b with
    | int j => injection e with e; rw [e]
    | str _ => cases e
    | tuple _ => cases e
    | none => cases hb
    | bool _ => cases hb
    | list _ => cases hb
    | dict _ => cases hb
  | .str i, b, _, hb, e => by
    cases b with
    | str j => injection e with e; rw [e]
    | int _ => cases e
    | tuple _ => cases e
    | none => cases hb
    | bool _ => cases hb
    | list _ => cases hb
    | dict _ => cases hb
  | .tuple xs, b, ha, hb, e => by
    cases b with
    | tuple ys =>
      have e2 : nks xs = nks ys := by injection e
      rw [nks_inj xs ys ha hb e2]
    | int _ => cases e
    | str _ => cases e
    | none => cases hb
    | bool _ => cases hb
    | list _ => cases hb
    | dict _ => cases hb
  | .none, _, ha, _, _ => by cases ha
  | .bool _, _, ha, _, _ => by cases ha
  | .list _, _, ha, _, _ => by cases ha
  | .dict _, _, ha, _, _ => by cases ha
theorem nks_inj : ∀ (a b : List PyData), plD0s a = true → plD0s b = true → nks a = nks b → a = b
  | [], [], _, _, _ => rfl
  | [], _ :: _, _, _, e => by cases e
  | _ :: _, [], _, _, e => by cases e
  | x :: r, y :: s, ha, hb, e => by
    have h1 : plD0 x = true ∧ plD0s r = true := by rw [← Bool.and_eq_true]; exact ha
    have h2 : plD0 y = true ∧ plD0s s = true := by rw [← Bool.and_eq_true]; exact hb
    have e1 : nk x = nk y ∧ nks r = nks s := by
      injection e with e1 e2
      exact ⟨e1, e2⟩
    rw [nk_inj x y h1.1 h2.1 e1.1, nks_inj r s h1.2 h2.2 e1.2]
end
mutual
theorem nested_of {h : Heap} : ∀ (d : PyData) (v : Value) (as : List Addr), PySem.Reads h v d as → plD0 d = true → NestedIs h (nk d) v
  | .int _, _, _, r, _ => by cases r; exact .int _ _
  | .str _, _, _, r, _ => by cases r; exact .text _ _
  | .tuple xs, _, _, r, k => by
    cases r with
    | tuple h1 h2 h3 h4 => exact .tup h1 h2 h3 (nesteds_of xs _ _ h4 k)
  | .none, _, _, _, k => by cases k
  | .bool _, _, _, _, k => by cases k
  | .list _, _, _, _, k => by cases k
  | .dict _, _, _, _, k => by cases k
theorem nesteds_of {h : Heap} : ∀ (ds : List PyData) (vs : List Value) (as : List Addr), ReadsAll h vs ds as → plD0s ds = true → NestedAll h (nks ds) vs
  | [], _, _, r, _ => by cases r; exact .nil
  | d :: ds, _, _, r, k => by
    have h1 : plD0 d = true ∧ plD0s ds = true := by rw [← Bool.and_eq_true]; exact k
    cases r with
    | cons r1 r2 => exact .cons (nested_of d _ _ r1 h1.1) (nesteds_of ds _ _ r2 h1.2)
end
mutual
theorem nk_depth : ∀ d : PyData, (nk d).depth ≤ d.depth
  | .int _ => Nat.zero_le _
  | .str _ => Nat.zero_le _
  | .tuple xs => Nat.succ_le_succ (nks_depth xs)
  | .none => Nat.zero_le _
  | .bool _ => Nat.zero_le _
  | .list _ => Nat.zero_le _
  | .dict _ => Nat.zero_le _
theorem nks_depth : ∀ ds : List PyData, NestedKey.depthAll (nks ds) ≤ PyData.depthAll ds
  | [] => Nat.zero_le _
  | d :: ds => by
    have h1 := nk_depth d
    have h2 := nks_depth ds
    show max (NestedKey.depth (nk d)) (NestedKey.depthAll (nks ds)) ≤ max d.depth (PyData.depthAll ds)
    omega
end
theorem nested_mem {h : Heap} : ∀ {ks : List NestedKey} {vs : List Value}, NestedAll h ks vs → ∀ v ∈ vs, ∃ k, NestedIs h k v ∧ k.depth ≤ NestedKey.depthAll ks
  | [], _, r, v, hv => by cases r; cases hv
  | k :: ks, _, r, v, hv => by
    cases r with
    | cons r1 r2 =>
      show ∃ k', NestedIs h k' v ∧ k'.depth ≤ max (NestedKey.depth k) (NestedKey.depthAll ks)
      rcases List.mem_cons.mp hv with z | z
      · exact ⟨k, by rw [z]; exact r1, Nat.le_max_left _ _⟩
      · obtain ⟨k', h1, h2⟩ := nested_mem r2 v z
        exact ⟨k', h1, Nat.le_trans h2 (Nat.le_max_right _ _)⟩
section
variable {P : Program} {w : World} {A : Around} {E : Value → Shared → Prop}
/-- a loop of questions about items, each answered so that the loop goes on -/
theorem ask_items {s : Shared} {α : Type} {f : Value → Option α × Unit → Sem (ForInStep (Option α × Unit))} {vs : List Value} {Q : Option α × Unit → Shared → Prop}
    (hf : ∀ v ∈ vs, ∀ R : ForInStep (Option α × Unit) → Shared → Prop, R (.yield (none, ())) s → wpAny (model P w) A (f v (none, ())) R E s) (q : Q (none, ()) s) :
    wpAny (model P w) A (forIn vs ((none, ()) : Option α × Unit) f) Q E s := by
  induction vs with
  | nil => exact wpAny_pure q
  | cons v r ih =>
    rw [List.forIn_cons]
    refine wpAny_bind (hf v List.mem_cons_self _ ?_)
    exact ih fun x hx => hf x (List.mem_cons_of_mem _ hx)
theorem noCls : ∀ (n : Nat) (k : NestedKey) (v : Value) (s : Shared) (Q : Bool → Shared → Prop), NestedIs s.heap k v → k.depth ≤ n → Q false s → wpAny (model P w) A (ofAClassStatement n v) Q E s := by
  intro n
  induction n with
  | zero =>
    intro k v s Q hk hn q
    cases hk with
    | tup _ _ _ _ => exact absurd hn (Nat.not_succ_le_zero _)
    | _ => exact wpAny_pure q
  | succ n ih =>
    intro k v s Q hk hn q
    cases hk with
    | tup h1 h2 h3 h4 =>
      rename_i b o vs m ks
      have hT : s.TypeIs (.ref b) "tuple" := ⟨o, h1, h2⟩
      unfold ofAClassStatement
      refine wpAny_bind (wpAny_typeOf hT ?_)
      dsimp only
      have e0 : (("tuple" : String) == "tuple") = true := by decide
      simp only [e0, if_true]
      try refine wpAny_bind (wpAny_pure ?_)
      try simp only [Bool.not_true, Bool.false_eq_true, if_false]
      refine wpAny_bind (wpAny_seqItems h1 h3 ?_)
      dsimp only
      refine wpAny_bind ?_
      show wpAny _ _ (forIn vs _ _) _ _ s
      rw [← Array.forIn_toList]
      refine ask_items (Q := fun a s' => wpAny _ _ _ Q E s') (fun u hu R hR => ?_) ?_
      case refine_2 => exact wpAny_pure q
      obtain ⟨k', a1, a2⟩ := nested_mem h4 u hu
      have dn : NestedKey.depthAll ks + 1 ≤ n + 1 := hn
      refine wpAny_bind (ih k' u s _ a1 (by omega) ?_)
      simp only [Bool.false_eq_true, if_false]
      exact wpAny_pure hR
    | _ => exact wpAny_pure q
/-- whether hash() goes by value: some answer -/
theorem byVal : ∀ (n : Nat) (k : NestedKey) (v : Value) (s : Shared) (Q : Bool → Shared → Prop), NestedIs s.heap k v → k.depth ≤ n → (∀ b, Q b s) → wpAny (model P w) A (hashByValue n v) Q E s := by
  intro n
  induction n with
  | zero =>
    intro k v s Q hk hn q
    cases hk with
    | tup _ _ _ _ => exact absurd hn (Nat.not_succ_le_zero _)
    | _ => exact wpAny_pure (q _)
  | succ n ih =>
    intro k v s Q hk hn q
    cases hk with
    | tup h1 h2 h3 h4 =>
      rename_i b o vs m ks
      have hT : s.TypeIs (.ref b) "tuple" := ⟨o, h1, h2⟩
      unfold hashByValue
      refine wpAny_bind (wpAny_specialOf hT PySem.F.slot_tuple_hash.lookup ?_)
      refine wpAny_bind (wpAny_seqItems h1 h3 ?_)
      refine wpAny_bind ?_
      show wpAny _ _ (forIn vs _ _) _ _ s
      rw [← Array.forIn_toList]
      have dn : NestedKey.depthAll ks + 1 ≤ n + 1 := hn
      have key : ∀ us : List Value, (∀ u ∈ us, u ∈ vs.toList) → ∀ Q' : Option Bool × Unit → Shared → Prop, (∀ r, Q' r s) →
          wpAny (model P w) A (forIn us ((none, ()) : Option Bool × Unit) fun x __s => do
            let __do_lift ← hashByValue n x
            if (!__do_lift) = true then pure (ForInStep.done (some false, ())) else pure (ForInStep.yield (none, ()))) Q' E s := by
        intro us
        induction us with
        | nil => intro _ Q' q'; exact wpAny_pure (q' _)
        | cons u r ihr =>
          intro hus Q' q'
          obtain ⟨k', a1, a2⟩ := nested_mem h4 u (hus u List.mem_cons_self)
          rw [List.forIn_cons]
          refine wpAny_bind (wpAny_bind (ih k' u s _ a1 (by omega) fun c => ?_))
          cases c with
          | true => exact wpAny_pure (ihr (fun x hx => hus x (List.mem_cons_of_mem _ hx)) Q' q')
          | false => exact wpAny_pure (wpAny_pure (q' _))
      refine key vs.toList (fun _ z => z) _ fun r => ?_
      obtain ⟨r1, r2⟩ := r
      cases r1 with
      | none => exact wpAny_pure (q _)
      | some c => exact wpAny_pure (q _)
    | _ => exact wpAny_pure (q _)
end
end My

/-! sets of nested tuples: the search, adding -/
namespace My
open PySem L2
abbrev NL := List (Addr × NestedKey)
abbrev hsh (w : World) (k : NestedKey) : Int := NestedKey.hash w k
def IsK (h : Heap) (k : NestedKey) (b : Addr) : Prop := NestedIs h k (.ref b) ∧ k.depth ≤ 7
def rowsN (w : World) (L : NL) : List (Int × Value) := L.map fun p => (hsh w p.2, Value.ref p.1)
structure SetNR (w : World) (h : Heap) (a : Addr) (L : NL) (es : Array (Int × Value)) (ep : Nat) (t : SetTable) : Prop where
  ob : ∃ o, h.get? a = some o ∧ o.ExactSet ∧ o.data = .set es ep t
  rows : es.toList = rowsN w L
  tab : TabOk t (L.map fun p => hsh w p.2)
  nd : (L.map (·.2)).Nodup
  tup : ∀ p ∈ L, IsK h p.2 p.1
  led : w.params.followText "set-order" = true ∨ t.led = true
  room : L.length * 5 < t.mask * 3
  few : L.length < 64
section
variable {P : Program} {w : World} {A : Around} {E : Value → Shared → Prop} {s : Shared} {a : Addr} {L : NL} {es : Array (Int × Value)} {ep : Nat} {t : SetTable}
theorem rowsN_len (w : World) (L : NL) : (rowsN w L).length = L.length := by unfold rowsN; exact List.length_map ..
theorem SetNR.sz (R : SetNR w s.heap a L es ep t) : es.size = L.length := by
  rw [← rowsN_len w L, ← R.rows, Array.length_toList]
theorem SetNR.psz (R : SetNR w s.heap a L es ep t) : t.place.size = L.length := by
  have := R.tab.sz
  rwa [List.length_map] at this
theorem SetNR.fit (R : SetNR w s.heap a L es ep t) : t.fits es.size = true := by
  have e1 := R.psz
  have e2 := R.sz
  have e3 := R.room
  unfold SetTable.fits SetTable.fill
  rw [R.tab.dm, Bool.and_eq_true, beq_iff_eq, decide_eq_true_eq]
  exact ⟨by omega, show t.place.size + 0 ≤ t.mask by omega⟩
theorem SetNR.ent (R : SetNR w s.heap a L es ep t) {i : Nat} {p : Addr × NestedKey} (h : L[i]? = some p) : es[i]? = some (hsh w p.2, Value.ref p.1) := by
  have e : es.toList[i]? = some (hsh w p.2, Value.ref p.1) := by
    rw [R.rows]
    unfold rowsN
    rw [List.getElem?_map, h]
    rfl
  rwa [Array.getElem?_toList] at e
theorem SetNR.noGive (R : SetNR w s.heap a L es ep t) : ¬ t.gaveWay = true := by
  unfold SetTable.gaveWay
  rw [mask_odd R.tab.mok]
  decide
theorem nth_dummy (m : Nat) : ∀ (n : Nat) (p : SetTable.Probe), p.dummy = none → (nth m p n).dummy = none
  | 0, _, h => h
  | n + 1, p, h => nth_dummy m n (adv m p) (by unfold adv; split <;> exact h)
/-- asking == of two keys, of their classes, shows nothing -/
theorem noShow {k : NestedKey} {b : Addr} {Q : Bool → Shared → Prop} (hk : IsK s.heap k b) : ∀ {ys : List Value}, (∀ y ∈ ys, ∃ j c, y = Value.ref c ∧ IsK s.heap j c) → Q false s → wpAny (model P w) A (searchCouldBeSeen (.ref b) ys) Q E s := by
  intro ys hy q
  have dk := hk.2
  unfold searchCouldBeSeen
  refine wpAny_bind ?_
  refine ask_items (Q := fun r s' => wpAny _ _ _ Q E s') (fun y hm R hR => ?_) ?_
  case refine_2 => exact wpAny_pure q
  obtain ⟨j, c, rfl, hc⟩ := hy y hm
  have dj := hc.2
  dsimp only
  by_cases same : (b == c || (carriedByValue (.ref b) && carriedByValue (.ref c))) = true
  · exact wp_if_pos same (wpAny_pure hR)
  · refine wp_if_neg same ?_
    refine wpAny_bind (quiet_key k _ 8 s hk.1 (by omega) A E _ ?_)
    try simp only [Bool.not_true, Bool.false_eq_true, if_false]
    refine wpAny_bind (quiet_key j _ 8 s hc.1 (by omega) A E _ ?_)
    try simp only [Bool.not_true, Bool.false_eq_true, if_false]
    refine wpAny_bind (noCls 8 k _ s _ hk.1 (by omega) ?_)
    try simp only [Bool.false_eq_true, if_false]
    refine wpAny_bind (noCls 8 j _ s _ hc.1 (by omega) ?_)
    try simp only [Bool.false_eq_true, if_false]
    exact wpAny_pure hR
theorem eqKeys {j k : NestedKey} {b c : Addr} {Q : Bool → Shared → Prop} (hu : A.units + 8 < cLine) (hj : IsK s.heap j b) (hk : IsK s.heap k c) (q : Q (decide (j = k)) s) : wpAny (model P w) A (eqBool (.ref b) (.ref c)) Q E s :=
  (nestedKind P w).eqBool hu (show NestedIs s.heap j (.ref b) ∧ j.depth ≤ 8 from ⟨hj.1, by have := hj.2; omega⟩) (show NestedIs s.heap k (.ref c) ∧ k.depth ≤ 8 from ⟨hk.1, by have := hk.2; omega⟩) q
/-- what comes first on the way from the c-th step on -/
theorem met_from (R : SetNR w s.heap a L es ep t) {k : NestedKey} {K c : Nat} (hKf : K < 10 * SetTable.turns t.mask) (hK : way t.mask (hsh w k) K ∉ t.place.toList) (hKb : ∀ c, c < K → way t.mask (hsh w k) c ∈ t.place.toList) (hc : c ≤ K) {st : SetTable.Probe}
    (hst : st = nth t.mask (runAt t.mask (SetTable.bits (hsh w k) % (t.mask + 1)) (SetTable.bits (hsh w k))) c)
    (hre : ∀ (i : Nat) p, L[i]? = some p → p.2 = k → ∃ c', c ≤ c' ∧ c' < K ∧ t.place.toList[i]? = some (way t.mask (hsh w k) c')) :
    (∃ q i p, c + q < K ∧ L[i]? = some p ∧ t.slot (way t.mask (hsh w k) (c + q)) = .live i ∧ (p.2 ≠ k → ∀ (i0 : Nat) p0, L[i0]? = some p0 → p0.2 = k → ∃ c', c + (q + 1) ≤ c' ∧ c' < K ∧ t.place.toList[i0]? = some (way t.mask (hsh w k) c')) ∧
      t.probe (fun i => (es[i]?.map (·.1)).getD 0) (hsh w k) st = some (.candidate (way t.mask (hsh w k) (c + q)) i (nth t.mask (runAt t.mask (SetTable.bits (hsh w k) % (t.mask + 1)) (SetTable.bits (hsh w k))) (c + (q + 1))))) ∨
    (k ∉ L.map (·.2) ∧ t.probe (fun i => (es[i]?.map (·.1)).getD 0) (hsh w k) st = some (.empty (way t.mask (hsh w k) K) none)) := by
  subst hst
  obtain ⟨r0, hr0⟩ : ∃ r0, r0 = runAt t.mask (SetTable.bits (hsh w k) % (t.mask + 1)) (SetTable.bits (hsh w k)) := ⟨_, rfl⟩
  have wj : ∀ q, (nth t.mask (nth t.mask r0 c) q).j = way t.mask (hsh w k) (c + q) := fun q => by rw [← nth_add, hr0]
  have hh : ∀ (i : Nat) p, L[i]? = some p → (fun i => (es[i]?.map (·.1)).getD 0) i = hsh w p.2 := fun i p hp => by
    show (es[i]?.map (·.1)).getD 0 = _
    rw [R.ent hp]
    rfl
  have sp := go_spec t R.tab.ris R.tab.dm (fun i => (es[i]?.map (·.1)).getD 0) (hsh w k) (10 * SetTable.turns t.mask) (K - c) (nth t.mask r0 c) (nth_dummy _ c _ (by rw [hr0]; rfl)) (by omega)
    (fun q hq => by rw [wj]; exact hKb _ (by omega)) (by rw [wj, Nat.add_sub_cancel' hc]; exact hK)
  rw [← hr0]
  rcases sp with ⟨q, i, hq, hi, hhi, hno, hpr⟩ | ⟨hno, hpr⟩
  · left
    rw [wj] at hi hpr
    have hil : i < L.length := by
      have h1 : i < t.place.toList.length := (List.getElem?_eq_some_iff.mp hi).1
      rw [Array.length_toList, R.psz] at h1
      exact h1
    refine ⟨q, i, L[i], by omega, List.getElem?_eq_getElem hil, slot_live R.tab.ris hi, fun nk i0 p0 h0 hk0 => ?_, ?_⟩
    · obtain ⟨c', a1, a2, a3⟩ := hre i0 p0 h0 hk0
      refine ⟨c', ?_, a2, a3⟩
      rcases Nat.lt_trichotomy c' (c + q) with z | z | z
      · exact absurd ((hh i0 p0 h0).trans (congrArg (hsh w) hk0)) (hno (c' - c) i0 (by omega) (by rw [wj, Nat.add_sub_cancel' a1]; exact a3))
      · exfalso
        rw [z] at a3
        have e1 := slot_live R.tab.ris a3
        rw [slot_live R.tab.ris hi] at e1
        injection e1 with e1
        rw [← e1, List.getElem?_eq_getElem hil] at h0
        exact nk (by rw [Option.some.inj h0]; exact hk0)
      · omega
    · rw [← nth_add] at hpr
      exact hpr
  · right
    refine ⟨fun hm => ?_, ?_⟩
    · obtain ⟨p0, hp0, hk0⟩ := List.mem_map.mp hm
      obtain ⟨i0, hi0⟩ := List.mem_iff_getElem?.mp hp0
      obtain ⟨c', a1, a2, a3⟩ := hre i0 p0 hi0 hk0
      exact hno (c' - c) i0 (by omega) (by rw [wj, Nat.add_sub_cancel' a1]; exact a3) ((hh i0 p0 hi0).trans (congrArg (hsh w) hk0))
    · rw [wj, Nat.add_sub_cancel' hc] at hpr
      exact hpr
theorem seek (R : SetNR w s.heap a L es ep t) {x : Addr} {k : NestedKey} (hx : IsK s.heap k x) (hu : A.units + 8 < cLine) {K : Nat} (hKf : K < 10 * SetTable.turns t.mask)
    (hK : way t.mask (hsh w k) K ∉ t.place.toList) (hKb : ∀ c, c < K → way t.mask (hsh w k) c ∈ t.place.toList) {Q : SetFound → Shared → Prop} (yes : k ∈ L.map (·.2) → Q (.there none) s) (no : k ∉ L.map (·.2) → Q (.free (way t.mask (hsh w k) K) false) s) :
    ∀ (f c : Nat) (stand : Option SetTable.Probe), stand.getD (t.probeStart (hsh w k)) = nth t.mask (runAt t.mask (SetTable.bits (hsh w k) % (t.mask + 1)) (SetTable.bits (hsh w k))) c → c ≤ K → K - c < f →
      (∀ (i : Nat) p, L[i]? = some p → p.2 = k → ∃ c', c ≤ c' ∧ c' < K ∧ t.place.toList[i]? = some (way t.mask (hsh w k) c')) → wpAny (model P w) A (setSearchFrom a (.ref x) (hsh w k) true f stand) Q E s := by
  intro f
  induction f with
  | zero => intro c stand _ _ h; omega
  | succ f ih =>
    intro c stand hst hc hf hre
    obtain ⟨o, ho, _, hd⟩ := R.ob
    rw [setSearchFrom_succ]
    refine wpAny_bind (wpAny_setState_of ho hd R.fit ?_)
    dsimp only
    refine wp_if_neg R.noGive ?_
    try refine wpAny_bind (wpAny_pure ?_)
    rcases met_from R hKf hK hKb hc hst hre with ⟨q, i, p, hq, hp, hsl, more, hpr⟩ | ⟨hm, hpr⟩
    · rw [hpr]
      dsimp only
      have pk := R.tup p (List.mem_of_getElem? hp)
      have rest : wpAny (model P w) A (searchRest a (.ref x) (hsh w k) true f es t (way t.mask (hsh w k) (c + q)) i (nth t.mask (runAt t.mask (SetTable.bits (hsh w k) % (t.mask + 1)) (SetTable.bits (hsh w k))) (c + (q + 1)))) Q E s := by
        unfold searchRest
        rw [R.ent hp]
        dsimp only
        refine wpAny_bind (wpAny_holding (eqKeys hu pk hx ?_))
        refine wpAny_bind (wpAny_setState_of ho hd R.fit ?_)
        dsimp only
        by_cases ek : p.2 = k
        · exact wp_if_pos (by simp [ek]) (wpAny_pure (yes (List.mem_map.mpr ⟨p, List.mem_of_getElem? hp, ek⟩)))
        · refine wp_if_neg (by simp [ek]) ?_
          try refine wpAny_bind (wpAny_pure ?_)
          rw [sameMem]
          dsimp only
          simp only [if_true, hsl, R.ent hp]
          refine wpAny_bind (wpAny_isSame_ref_self (wpAny_bind (wpAny_pure ?_)))
          simp only [if_true]
          exact wp_if_neg (by simp [ek]) (ih (c + (q + 1)) _ rfl (by omega) (by omega) (more ek))
      by_cases hl : t.led = true
      · refine wp_if_neg (by simp [hl]) ?_
        try refine wpAny_bind (wpAny_pure ?_)
        exact rest
      · refine wp_if_pos (by simp [hl]) ?_
        refine wpAny_bind (noShow hx (fun y hy => ?_) ?_)
        · obtain ⟨e, he, ee⟩ := List.mem_map.mp hy
          have he1 : e ∈ es.toList := by simpa using (show e ∈ es ∧ e.1 = hsh w k by simpa using he).1
          rw [R.rows] at he1
          obtain ⟨p2, hp2, e2⟩ := List.mem_map.mp he1
          exact ⟨p2.2, p2.1, by rw [← ee, ← e2], R.tup p2 hp2⟩
        · refine wp_if_neg (by decide) ?_
          try refine wpAny_bind (wpAny_pure ?_)
          exact rest
    · rw [hpr]
      dsimp only
      exact wpAny_pure (no hm)
/-- the search that adding makes -/
theorem seek_add (R : SetNR w s.heap a L es ep t) {x : Addr} {k : NestedKey} (hx : IsK s.heap k x) (hu : A.units + 8 < cLine) {Q : SetFound → Shared → Prop} (yes : k ∈ L.map (·.2) → Q (.there none) s)
    (no : ∀ K, k ∉ L.map (·.2) → way t.mask (hsh w k) K ∉ t.place.toList → (∀ c, c < K → way t.mask (hsh w k) c ∈ t.place.toList) → Q (.free (way t.mask (hsh w k) K) false) s) : wpAny (model P w) A (setSearch a (.ref x) (hsh w k) true) Q E s := by
  have room := R.room
  obtain ⟨K, hKf, hK, hKb⟩ := R.tab.first (by rw [List.length_map]; omega) (hsh w k)
  have lim : K < 100000 := by
    have b1 : SetTable.turns t.mask ≤ 142 := by
      unfold SetTable.turns
      rcases R.tab.mok with e | e | e <;> omega
    omega
  unfold setSearch
  refine seek R hx hu hKf hK hKb yes (fun hn => no K hn hK hKb) 100000 0 none rfl (Nat.zero_le _) (by omega) fun i p hp hk => ?_
  have hi : (L.map fun p => hsh w p.2)[i]? = some (hsh w k) := by rw [List.getElem?_map, hp, ← hk]; rfl
  have hil : i < t.place.toList.length := by
    rw [Array.length_toList, R.psz]
    exact (List.getElem?_eq_some_iff.mp hp).1
  obtain ⟨c, hc, e⟩ := R.tab.before hK hi (List.getElem?_eq_getElem hil)
  exact ⟨c, Nat.zero_le _, hc, by rw [e, List.getElem?_eq_getElem hil]⟩
end
end My

/-! sets of nested tuples: laid anew, one put in -/
namespace My
open PySem L2
section
variable {P : Program} {w : World} {A : Around} {E : Value → Shared → Prop} {s : Shared} {a : Addr} {L : NL} {es : Array (Int × Value)} {ep : Nat} {t : SetTable}
theorem IsK.stay {h h' : Heap} {k : NestedKey} {a b : Addr} {o : Obj} {es : Array (Int × Value)} {ep : Nat} {t : SetTable} (hb : IsK h k b) (ho : h.get? a = some o) (hd : o.data = .set es ep t) (hs : Heap.SameBut a h h') : IsK h' k b :=
  ⟨NestedIs.at (fun c oc vs n hc hv => by
    refine (hs.2 c fun e => ?_).trans hc
    rw [e, ho] at hc
    cases hc
    rw [hd] at hv
    cases hv) k _ hb.1, hb.2⟩
theorem IsK.keep {h h' : Heap} {k : NestedKey} {b : Addr} (x : IsK h k b) (hk : ∀ c o, h.get? c = some o → h'.get? c = some o) : IsK h' k b := ⟨NestedIs.at (fun c o _ _ e _ => hk c o e) k _ x.1, x.2⟩
theorem pick_rows {ls : List Nat} (hr : es.toList = rowsN w L) (hl : ∀ i ∈ ls, i < L.length) : ∃ L2 : NL, ls.filterMap (fun i => es[i]?) = rowsN w L2 ∧ L2 = ls.filterMap (fun i => L[i]?) ∧ (L2.map fun p => hsh w p.2) = ls.map fun i => (es.map (·.1)).getD i 0 := by
  induction ls with
  | nil => exact ⟨[], rfl, rfl, rfl⟩
  | cons i r ih =>
    obtain ⟨L2, e1, e2, e3⟩ := ih fun j hj => hl j (List.mem_cons_of_mem _ hj)
    have hi := hl i List.mem_cons_self
    have g : es[i]? = some (hsh w (L[i]).2, Value.ref (L[i]).1) := by
      rw [← Array.getElem?_toList, hr]
      unfold rowsN
      rw [List.getElem?_map, List.getElem?_eq_getElem hi]
      rfl
    have g2 : (es.map (·.1))[i]? = some (hsh w (L[i]).2) := by rw [Array.getElem?_map, g]; rfl
    refine ⟨L[i] :: L2, ?_, ?_, ?_⟩
    · rw [List.filterMap_cons_some g, e1]
      rfl
    · rw [List.filterMap_cons_some (List.getElem?_eq_getElem hi), ← e2]
    · rw [List.map_cons, List.map_cons, e3, Array.getD_eq_getD_getElem?, g2]
      rfl
theorem range_pick {α : Type} (L : List α) : ∀ n, n ≤ L.length → (List.range n).filterMap (fun i => L[i]?) = L.take n
  | 0, _ => rfl
  | n + 1, h => by
    rw [List.range_succ, List.filterMap_append, range_pick L n (by omega), List.take_add_one, List.getElem?_eq_getElem h, List.filterMap_cons_some (List.getElem?_eq_getElem h)]
    rfl
theorem lay_again {o : Obj} (ho : s.heap.get? a = some o) (hex : o.ExactSet) (hd : o.data = .set es ep t) (hr : es.toList = rowsN w L) (hps : t.place.size = es.size) (hdm : t.dummies = #[]) (hfl : es.size ≤ t.mask) (nd : (L.map (·.2)).Nodup) (tup : ∀ p ∈ L, IsK s.heap p.2 p.1)
    (ld : w.params.followText "set-order" = true ∨ t.led = true) (few : L.length < 64) {wanted M : Nat} (hw : SetTable.sizeAbove wanted - 1 = M) (hM : MaskOk M) (hw2 : SetTable.sizeAbove wanted ≤ 128) (hn : L.length * 5 < M * 3) {Q : Unit → Shared → Prop}
    (q : ∀ h' L' es' ep' t', Heap.SameBut a s.heap h' → SetNR w h' a L' es' ep' t' → L'.Perm L → Q () { s with heap := h' }) : wpAny (model P w) A (setRelay a wanted) Q E s := by
  have z1 : es.size = L.length := by rw [← rowsN_len w L, ← hr, Array.length_toList]
  have ft : t.fits es.size = true := by
    unfold SetTable.fits SetTable.fill
    rw [hdm, Bool.and_eq_true, beq_iff_eq, decide_eq_true_eq]
    exact ⟨hps, show t.place.size + 0 ≤ t.mask by omega⟩
  obtain ⟨t', order, e, hp, T, em, el, _, _⟩ := relaid_ok t (hs := es.map (·.1)) (wanted := wanted) hw hM (by rw [Array.size_map, z1]; omega)
  rw [Array.size_map, z1] at hp
  obtain ⟨L2, r1, r2, r3⟩ := pick_rows (ls := order.toList) hr fun i hi => List.mem_range.mp (hp.mem_iff.mp hi)
  rw [← r3] at T
  have pm : L2.Perm L := by
    rw [r2]
    refine (hp.filterMap _).trans (List.Perm.of_eq ?_)
    rw [range_pick L _ (Nat.le_refl _), List.take_length]
  have r1' : (order.filterMap (es[·]?)).toList = rowsN w L2 := by rw [Array.toList_filterMap]; exact r1
  have z2 : (order.filterMap (es[·]?)).size = L.length := by
    rw [← Array.length_toList, r1', rowsN_len, pm.length_eq]
  have sl := PySem.sizeLine_eq
  rw [setRelay_eq]
  refine wpAny_bind (wpAny_setState_of ho hd ft ?_)
  dsimp only
  refine wp_if_neg (by omega) ?_
  try refine wpAny_bind (wpAny_pure ?_)
  rw [e]
  dsimp only
  refine wpAny_bind ?_
  refine wp_if_neg (by rw [z2, z1]; simp) ?_
  try refine wpAny_bind (wpAny_pure ?_)
  refine wpAny_pure ?_
  dsimp only
  refine wpAny_storeSet_of ho hd ?_ (by rw [z2]; omega)
  have sb : Heap.SameBut a s.heap (s.heap.update a (Obj.putSet (order.filterMap (es[·]?)) t')) := Heap.SameBut.update ..
  exact q _ L2 _ (ep + 1) t' sb ⟨⟨_, store_at ho hd, ⟨hex.1, hex.2.1, hex.2.2⟩, rfl⟩, r1', T, (pm.map (·.2)).nodup_iff.mpr nd, fun p hpm => (tup p (pm.mem_iff.mp hpm)).stay ho hd sb, by rw [el]; exact ld, by rw [pm.length_eq, em]; exact hn, by rw [pm.length_eq]; exact few⟩ pm
/-- behind the store of one more -/
theorem grow_tail {o : Obj} {es1 : Array (Int × Value)} {t1 : SetTable} {L1 : NL} (ho : s.heap.get? a = some o) (hex : o.ExactSet) (hd : o.data = .set es1 ep t1) (hr : es1.toList = rowsN w L1) (T : TabOk t1 (L1.map fun p => hsh w p.2)) (nd : (L1.map (·.2)).Nodup) (tup : ∀ p ∈ L1, IsK s.heap p.2 p.1)
    (ld : w.params.followText "set-order" = true ∨ t1.led = true) (few : L1.length < 64) (fill : t1.fill = L1.length) (ok : (t1.mask = 7 ∧ L1.length ≤ 5) ∨ (t1.mask = 31 ∧ L1.length ≤ 19) ∨ t1.mask = 127) {n : Nat} (hn : n = L1.length) {Q : Bool → Shared → Prop}
    (q : ∀ h' L' es' ep' t', Heap.SameBut a s.heap h' → SetNR w h' a L' es' ep' t' → L'.Perm L1 → Q true { s with heap := h' }) :
    wpAny (model P w) A (if t1.tooFull = true then (do
      setRelay a (SetTable.grown n)
      pure true) else pure true) Q E s := by
  subst hn
  have z1 : es1.size = L1.length := by rw [← rowsN_len w L1, ← hr, Array.length_toList]
  have pz : t1.place.size = es1.size := by
    have := T.sz
    rw [List.length_map] at this
    omega
  by_cases hf : t1.tooFull = true
  · refine wp_if_pos hf (wpAny_bind ?_)
    have full : L1.length * 5 ≥ t1.mask * 3 := by
      have h := hf
      unfold SetTable.tooFull at h
      rw [decide_eq_true_eq, fill] at h
      exact h
    rcases ok with ⟨e1, e2⟩ | ⟨e1, e2⟩ | e1
    · rw [e1] at full
      have e3 : L1.length = 5 := by omega
      refine lay_again (M := 31) ho hex hd hr pz T.dm (by omega) nd tup ld few (by rw [e3, size_20]) (.inr (.inl rfl)) (by rw [e3, size_20]; decide) (by omega) fun h' L' es' ep' t' sb R pm => ?_
      exact wpAny_pure (q h' L' es' ep' t' sb R pm)
    · rw [e1] at full
      have e3 : L1.length = 19 := by omega
      refine lay_again (M := 127) ho hex hd hr pz T.dm (by omega) nd tup ld few (by rw [e3, size_76]) (.inr (.inr rfl)) (by rw [e3, size_76]; decide) (by omega) fun h' L' es' ep' t' sb R pm => ?_
      exact wpAny_pure (q h' L' es' ep' t' sb R pm)
    · rw [e1] at full
      omega
  · have nf : L1.length * 5 < t1.mask * 3 := by
      have h := hf
      unfold SetTable.tooFull at h
      rw [decide_eq_true_eq, fill] at h
      omega
    refine wp_if_neg hf ?_
    exact wpAny_pure ((q s.heap L1 es1 ep t1 (Heap.SameBut.refl a s.heap) ⟨⟨o, ho, hex, hd⟩, hr, T, nd, tup, ld, nf, few⟩ (.refl _)))
theorem put_in (R : SetNR w s.heap a L es ep t) {x : Addr} {k : NestedKey} (hx : IsK s.heap k x) (hu : A.units + 8 < cLine) (few : L.length + 1 < 64) {Q : Bool → Shared → Prop}
    (q : ∀ b h' L' es' ep' t', Heap.SameBut a s.heap h' → SetNR w h' a L' es' ep' t' → (k ∈ L.map (·.2) → L' = L) → (k ∉ L.map (·.2) → L'.Perm ((x, k) :: L)) → Q b { s with heap := h' }) : wpAny (model P w) A (setAddHashed a (.ref x) (hsh w k)) Q E s := by
  obtain ⟨o, ho, hex, hd⟩ := R.ob
  have z0 := R.sz
  have room := R.room
  have sl := PySem.sizeLine_eq
  unfold setAddHashed
  refine wpAny_holding ?_
  rw [show (100000 : Nat) = 99999 + 1 from rfl, setAddHashedIn_succ]
  refine wpAny_bind (wpAny_setState_of ho hd R.fit ?_)
  dsimp only
  refine wp_if_neg (by simp [byScan, Value.scannable]) ?_
  try refine wpAny_bind (wpAny_pure ?_)
  refine wpAny_bind (seek_add R hx hu (fun hm => ?_) fun K hm hK hb => ?_)
  · dsimp only
    exact wpAny_pure (q false s.heap L es ep t (Heap.SameBut.refl a s.heap) R (fun _ => rfl) fun z => absurd hm z)
  dsimp only
  refine wpAny_bind (wpAny_setState_of ho hd R.fit ?_)
  dsimp only
  obtain ⟨q1, q2, q3, q4, q5, _, _, _, q9⟩ := R.tab.put hK hb
  generalize t.put (way t.mask (hsh w k) K) = pt at q1 q3 q4 q5 q9 ⊢
  obtain ⟨t1, p⟩ := pt
  dsimp only at q1 q3 q4 q5 q9 ⊢
  rw [← q1] at q2 q3
  have hin : (SetTable.insertAt es p (hsh w k, Value.ref x)).toList = rowsN w (L.take p ++ (x, k) :: L.drop p) := by
    rw [SetTable.toList_insertAt, R.rows]
    unfold rowsN
    rw [List.map_append, List.map_cons, List.map_take, List.map_drop]
  have pm := put_perm L p (x, k)
  have hs : (L.take p ++ (x, k) :: L.drop p).map (fun p => hsh w p.2) = (L.map fun p => hsh w p.2).take p ++ hsh w k :: (L.map fun p => hsh w p.2).drop p := by
    rw [List.map_append, List.map_cons, List.map_take, List.map_drop]
  rw [← hs] at q3
  have nd1 : ((L.take p ++ (x, k) :: L.drop p).map (·.2)).Nodup := (pm.map (·.2)).nodup_iff.mpr (by rw [List.map_cons]; exact List.nodup_cons.mpr ⟨hm, R.nd⟩)
  generalize L.take p ++ (x, k) :: L.drop p = L1 at pm q3 nd1 hin
  have l1 : L1.length = L.length + 1 := by rw [pm.length_eq, List.length_cons]
  generalize SetTable.insertAt es p (hsh w k, Value.ref x) = es1 at hin ⊢
  have z1 : es1.size = L.length + 1 := by rw [← Array.length_toList, hin, rowsN_len, l1]
  rw [List.length_map] at q9
  -- what follows, whatever the new table says of plain
  have tl : ∀ pl : Bool, wpAny (model P w) A (do
      storeSet a es1 { t1 with plain := pl }
      if ({ t1 with plain := pl } : SetTable).tooFull = true then (do
        setRelay a (SetTable.grown (es.size + 1))
        pure true) else pure true) Q E s := fun pl => by
    refine wpAny_bind (wpAny_storeSet_of ho hd ?_ (by rw [z1]; omega))
    have sb : Heap.SameBut a s.heap (s.heap.update a (Obj.putSet es1 { t1 with plain := pl })) := Heap.SameBut.update ..
    have T1 : TabOk { t1 with plain := pl } (L1.map fun p => hsh w p.2) := ⟨q3.ris, q3.dm, q3.sz, q3.mok, q3.bd, q3.reach⟩
    refine grow_tail (s := { s with heap := s.heap.update a (Obj.putSet es1 { t1 with plain := pl }) }) (ep := ep + 1) (L1 := L1) (store_at ho hd) ⟨hex.1, hex.2.1, hex.2.2⟩ rfl hin T1 nd1 (fun p hp => ?_) (by show _ ∨ t1.led = true; rw [q5]; exact R.led) (by omega) (by rw [l1]; exact q9) ?_ (by rw [l1, z0]) fun h' L' es' ep' t' sb' R' pm' => ?_
    · rcases List.mem_cons.mp (pm.mem_iff.mp hp) with e | hp
      · rw [e]; exact hx.stay ho hd sb
      · exact (R.tup p hp).stay ho hd sb
    · show (t1.mask = 7 ∧ L1.length ≤ 5) ∨ (t1.mask = 31 ∧ L1.length ≤ 19) ∨ t1.mask = 127
      rw [q4]
      rcases R.tab.mok with e | e | e
      · rw [e] at room; exact .inl ⟨e, by omega⟩
      · rw [e] at room; exact .inr (.inl ⟨e, by omega⟩)
      · exact .inr (.inr e)
    · exact q true h' L' es' ep' t' (sb.trans sb') R' (fun z => absurd z hm) fun _ => pm'.trans pm
  have t1eq : ({ t1 with plain := t1.plain } : SetTable) = t1 := rfl
  by_cases hp1 : t1.plain = true
  · refine wp_if_pos hp1 (wpAny_bind ?_)
    refine byVal 8 k _ s _ hx.1 (by have := hx.2; omega) fun b => ?_
    cases b with
    | true => exact tl t1.plain
    | false => exact tl false
  · refine wp_if_neg hp1 (wpAny_bind (wpAny_pure ?_))
    exact tl t1.plain
end
end My

/-! set(xs), xs a list of nested tuples; sorted of such a set -/
namespace My
open PySem L2
/-- what of ks stands in the set behind i turns -/
structure GotN (ks : NL) (i : Nat) (L : NL) : Prop where
  sub : ∀ p ∈ L, p ∈ ks.take i
  all : ∀ p ∈ ks.take i, p.2 ∈ L.map (·.2)
  len : L.length ≤ i
theorem GotN.zero (ks : NL) : GotN ks 0 [] := ⟨fun _ h => (nomatch h), fun p h => (by rw [List.take_zero] at h; cases h), Nat.le_refl _⟩
theorem GotN.next {ks L L' : NL} {i : Nat} {x : Addr × NestedKey} (g : GotN ks i L) (h : ks[i]? = some x) (c1 : x.2 ∈ L.map (·.2) → L' = L) (c2 : x.2 ∉ L.map (·.2) → L'.Perm ((x.1, x.2) :: L)) : GotN ks (i + 1) L' := by
  have e : ks.take (i + 1) = ks.take i ++ [x] := by rw [List.take_add_one, h]; rfl
  by_cases c : x.2 ∈ L.map (·.2)
  · rw [c1 c]
    refine ⟨fun p hp => by rw [e]; exact List.mem_append_left _ (g.sub p hp), fun p hp => ?_, Nat.le_succ_of_le g.len⟩
    rw [e] at hp
    exact (List.mem_append.mp hp).elim (g.all p) fun z => by rw [List.mem_singleton.mp z]; exact c
  · have pm := c2 c
    refine ⟨fun p hp => ?_, fun p hp => ?_, by rw [pm.length_eq, List.length_cons]; exact Nat.succ_le_succ g.len⟩
    · rw [e]
      exact (List.mem_cons.mp (pm.mem_iff.mp hp)).elim (fun z => List.mem_append_right _ (List.mem_singleton.mpr z)) fun z => List.mem_append_left _ (g.sub p z)
    · rw [(pm.map (·.2)).mem_iff, List.map_cons]
      rw [e] at hp
      exact (List.mem_append.mp hp).elim (fun z => List.mem_cons_of_mem _ (g.all p z)) fun z => by rw [List.mem_singleton.mp z]; exact List.mem_cons_self
theorem SetNR.mv {w : World} {h h' : Heap} {a : Addr} {L : NL} {es : Array (Int × Value)} {ep : Nat} {t : SetTable} (R : SetNR w h a L es ep t) (ha : ∀ o, h.get? a = some o → h'.get? a = some o) (ht : ∀ p ∈ L, IsK h' p.2 p.1) : SetNR w h' a L es ep t := by
  obtain ⟨o, ho, r⟩ := R.ob
  exact ⟨⟨o, ha o ho, r⟩, R.rows, R.tab, R.nd, ht, R.led, R.room, R.few⟩
abbrev newSet (w : World) : Obj := { cls := .type "set", dict := none, data := .set #[] 0 (.fresh 0 0 (!w.params.followText "set-order")) }
theorem SetNR.new {w : World} {h : Heap} {a : Addr} (ho : h.get? a = some (newSet w)) : SetNR w h a [] #[] 0 (.fresh 0 0 (!w.params.followText "set-order")) where
  ob := ⟨_, ho, ⟨rfl, rfl, rfl⟩, rfl⟩
  rows := rfl
  tab := ⟨List.Pairwise.nil, rfl, rfl, .inl rfl, fun _ hx => (nomatch hx), fun i h j hi => (by rw [List.map_nil, List.getElem?_nil] at hi; cases hi)⟩
  nd := List.nodup_nil
  tup := fun _ hp => nomatch hp
  led := by
    show _ ∨ (!w.params.followText "set-order") = true
    cases w.params.followText "set-order"
    · exact .inr rfl
    · exact .inl rfl
  room := show 0 * 5 < 7 * 3 by decide
  few := show 0 < 64 by decide
section
open PySem.Spec PyProof.Rows
variable {P : Program} {w : World} {A : Around} {E : Value → Shared → Prop} {s : Shared}
theorem upd_loop {I : Addr} {fp wr : List Addr} {G : Array GenState → Array GenState → Prop} {n : Nat} {Pv : Nat → Value → Prop} {St : Nat → Shared → Prop} {R : Result → Shared → Prop} (W : WalksS P w A.in1 I fp wr G n Pv St) (S : Addr) (hSf : S ∉ fp) (ks : NL) (hn : n = ks.length)
    (few : ks.length < 64) (hval : ∀ i v, Pv i v → ∃ p, ks[i]? = some p ∧ v = .ref p.1) (h0 : Heap) (hk : ∀ p ∈ ks, IsK h0 p.2 p.1) (hS0 : h0.get? S = none) (hw0 : ∀ b ∈ wr, h0.get? b = none) (hu : A.in1.units + 8 < cLine) :
    ∀ (k i : Nat) (s : Shared), n - i = k → i ≤ n → St i s → (∀ b o, h0.get? b = some o → s.heap.get? b = some o) → (∃ L es ep t, SetNR w s.heap S L es ep t ∧ GotN ks i L) →
      (∀ s' L es ep t, Moved (S :: wr) G s s' → SetNR w s'.heap S L es ep t → GotN ks n L → (∀ b o, h0.get? b = some o → s'.heap.get? b = some o) → R (.ok (.ret .none)) s') → codeAny (model P w) A (.builtin "set.update.loop" ⟨[.ref S, .ref I], []⟩) R s := by
  have nS : S ∉ wr := fun h => hSf (W.sub _ h)
  have up : ∀ b ∈ wr, b ∈ S :: wr := fun b hb => List.mem_cons_of_mem _ hb
  have km : ∀ {s s' : Shared}, Moved wr G s s' → (∀ b o, h0.get? b = some o → s.heap.get? b = some o) → ∀ b o, h0.get? b = some o → s'.heap.get? b = some o :=
    fun hm kp b o e => hm.heap b o (fun hb => by rw [hw0 b hb] at e; cases e) (kp b o e)
  intro k
  induction k with
  | zero =>
    intro i s hk' hi hst kp ⟨L, es, ep, t, hS, g⟩ hR
    obtain rfl : i = n := by omega
    refine codeAny_builtin PyProof.Rows.F.entry_set_update_loop ?_
    rw [Around.under_plainId PyProof.Rows.F.plain_set_update_loop _]
    refine wpAny_bind (W.done s _ _ hst fun s' hm => ?_)
    have kp' := km hm kp
    exact wpAny_pure (hR s' L es ep t (hm.mono up) (hS.mv (fun o e => hm.heap S o nS e) fun p hp => (hk p (List.mem_of_mem_take (g.sub p hp))).keep kp') g kp')
  | succ k ih =>
    intro i s hk' hi hst kp ⟨L, es, ep, t, hS, g⟩ hR
    have lt : i < n := by omega
    refine codeAny_builtin PyProof.Rows.F.entry_set_update_loop ?_
    rw [Around.under_plainId PyProof.Rows.F.plain_set_update_loop _]
    refine wpAny_bind (W.item i s _ _ lt hst fun v s' hP hst' hm => ?_)
    obtain ⟨p, hp, rfl⟩ := hval i v hP
    have kp' := km hm kp
    have hS' := hS.mv (fun o e => hm.heap S o nS e) fun q hq => (hk q (List.mem_of_mem_take (g.sub q hq))).keep kp'
    have hx : IsK s'.heap p.2 p.1 := (hk p (List.mem_of_getElem? hp)).keep kp'
    show wpAny _ A.in1 (holding [Value.ref p.1] (setAdd S (.ref p.1)) >>= _) _ _ s'
    refine wpAny_bind (wpAny_holding ?_)
    unfold setAdd
    refine wpAny_holding ?_
    refine wpAny_bind (pyHash_key p.2 _ A.in1 s' _ hx.1 (by have := hx.2; omega) ?_)
    refine put_in (s := { s' with toks := s'.toks + p.2.draws }) hS' hx hu (by have := g.len; omega) fun b h' L' es' ep' t' sb hS2 c1 c2 => ?_
    have kp2 : ∀ b o, h0.get? b = some o → h'.get? b = some o := fun b o e => (sb.2 b fun z => by rw [z, hS0] at e; cases e).trans (kp' b o e)
    refine wpAny_pure ⟨plainId_quiet PyProof.Rows.F.plain_set_update_loop _, ih (i + 1) _ (by omega) lt (W.frame _ s' _ _ hst' (Nat.le_add_right _ _) fun b hb o e => ?_) kp2 ⟨L', es', ep', t', hS2, g.next hp c1 c2⟩ fun s'' L2 es2 ep2 t2 hm2 hS3 g2 kp3 => ?_⟩
    · rw [sb.2 b fun h : b = S => hSf (by rw [← h]; exact hb)]
      exact e
    · refine hR s'' L2 es2 ep2 t2 (Moved.trans W.gtrans ((hm.mono up).then_heap (Nat.le_add_right _ _) fun b o hb e => ?_) hm2) hS3 g2 kp3
      rw [sb.2 b fun h : b = S => hb (by rw [h]; exact List.mem_cons_self)]
      exact e
theorem call_setN {l : Addr} {items : Array Value} (ks : NL) {Q : Value → Shared → Prop} (hh : A.handled = none) (hl : s.heap.IsList l items) (hit : items.toList = ks.map fun p => Value.ref p.1) (hk : ∀ p ∈ ks, IsK s.heap p.2 p.1) (few : ks.length < 64) (hu : A.units + 16 < cLine)
    (h : ∀ (h' : Heap) (tk : Nat) L es ep t, SetNR w h' s.heap.objs.size L es ep t → GotN ks ks.length L → (∀ b o, s.heap.get? b = some o → h'.get? b = some o) → Q (.ref s.heap.objs.size) { s with heap := h', toks := tk }) : wpAny (model P w) A (call (.type "set") [.ref l]) Q E s := by
  have z0 : items.size = ks.length := by rw [← Array.length_toList, hit, List.length_map]
  obtain ⟨c, tl, hmro⟩ := PySem.F.called_set.mro
  have hmade := PySem.F.called_set.made
  have hsub := PySem.F.called_set.sub
  refine wpAny_call (codeAny_of_tree ?_)
  show wpAny _ _ (callAny (.type "set") _) _ _ _
  refine wpAny_pure ⟨Code.quiet_builtin _ (by decide +kernel), codeAny_builtin PySem.F.entry_type_call ?_⟩
  rw [Around.under_plain (weight_type_call_type "set" [.ref l] []) rfl]
  have h1 := PySem.F.called_set.notType
  have h2 := PySem.F.called_set.canCreate
  have hct := PySem.F.typeCall_set_1 (.ref l)
  repeat (any_goals (first | assumption | wp_step))

  refine codeAny_mono (code_set_led1 (.ref l) (E := E) (Q₁ := fun obj s₁ => obj = .ref s.heap.objs.size ∧ s₁ = { s with heap := s.heap.push (newSet w) }) ⟨rfl, rfl⟩) fun r s₁ hr => ?_
  cases r with
  | error e => exact hr
  | ok fl =>
    cases fl with
    | ret obj =>
      obtain ⟨rfl, rfl⟩ := hr
      have hS : (s.heap.push (newSet w)).get? s.heap.objs.size = some (newSet w) := Heap.get?_push_size _ rfl
      have hT : Shared.TypeIs { s with heap := s.heap.push (newSet w) } (.ref s.heap.objs.size) "set" := ⟨_, hS, rfl⟩
      have hli := PySem.F.called_set.init.lookup
      have hbi := PySem.F.called_set.init.bind (.ref s.heap.objs.size)
      repeat (any_goals (first | assumption | wp_step))

      refine codeAny_mono (codeAny_call_builtin (R := wants (fun r s₂ => r = .none ∧ ∃ h' tk L es ep t, s₂ = { s with heap := h', toks := tk } ∧ SetNR w h' s.heap.objs.size L es ep t ∧ GotN ks ks.length L ∧ (∀ b o, s.heap.get? b = some o → h'.get? b = some o)) E)
        PySem.F.called_set.init.plain PySem.F.entry_set_init (check_set_init_1 hT ?_)) fun r₂ s₂ hr₂ => ?_
      · obtain ⟨ol, hol, hcl, nl, hdl⟩ := hl
        obtain ⟨ocls, odict, odata, oslots⟩ := ol
        simp only at hcl hdl
        subst hcl; subst hdl
        have hol' : (s.heap.push (newSet w)).get? l = some { cls := .type "list", dict := odict, data := .seq items nl, slots := oslots } := Heap.get?_push_of_some _ hol
        have hsls := PySem.F.sub_list_set
        have hslf := PySem.F.sub_list_frozenset
        have hne : (Value.type "list" == Value.type "dict") = false := by decide
        have hl1 : (s.heap.push (newSet w)).IsList l items := ⟨_, hol', rfl, nl, rfl⟩
        unfold Builtin.«set.__init__» noKeywords Builtin.Frozenset.updateFrom
        generalize hPI : pyIter = PI
        wp_walk
        subst hPI

        refine wpAny_pyIter_list hl1 ?_
        refine wpAny_bind (wpAny_runValue ?_)
        have hlS : l < s.heap.objs.size := Heap.lt_size hol
        have hh3 : A.in1.in1.in1.handled = none := by simp [hh]
        have zp : (s.heap.push (newSet w)).objs.size = s.heap.objs.size + 1 := Heap.size_push ..
        have nI : l ≠ (s.heap.push (newSet w)).objs.size := by rw [zp]; exact Nat.ne_of_lt (Nat.lt_succ_of_lt hlS)
        have nF : s.heap.objs.size ∉ [(s.heap.push (newSet w)).objs.size, l] := fun z => by
          rcases List.mem_cons.mp z with z | z
          · rw [zp] at z; exact Nat.ne_of_lt (Nat.lt_succ_self _) z
          · exact Nat.ne_of_gt hlS (List.mem_singleton.mp z)
        have hval : ∀ (i : Nat) (v : Value), items[i]? = some v → ∃ p, ks[i]? = some p ∧ v = .ref p.1 := fun i v hv => by
          have q : items.toList[i]? = some v := by rw [Array.getElem?_toList]; exact hv
          rw [hit, List.getElem?_map] at q
          obtain ⟨p, hp, e⟩ := Option.map_eq_some_iff.mp q
          exact ⟨p, hp, e.symm⟩
        have free : ∀ b, s.heap.objs.size ≤ b → s.heap.get? b = none := fun b hb => by
          cases q : s.heap.get? b with
          | none => rfl
          | some o => exact absurd (Nat.lt_of_lt_of_le (Heap.lt_size q) hb) (Nat.lt_irrefl _)
        refine upd_loop ((Walks.list hh3 _ l nI items).toS) s.heap.objs.size nF ks z0 few hval s.heap hk (free _ (Nat.le_refl _)) (fun b hb => free b (by rw [List.mem_singleton.mp hb, zp]; exact Nat.le_succ _)) (by first | (simp only [Around.in1_units]; omega) | omega) (items.size - 0) 0 _ (by omega) (Nat.zero_le _)
          ⟨⟨_, Heap.get?_push_size _ rfl, rfl, rfl⟩, (hl1.push _)⟩ (fun b o e => Heap.get?_push_of_some _ (Heap.get?_push_of_some _ e)) ?hS0 ?hR
        case hS0 => exact ⟨[], #[], 0, _, SetNR.new (Heap.get?_push_of_some _ hS), GotN.zero ks⟩
        case hR =>
          intro s' L es ep t hm hS' g' kp
          obtain ⟨h', g2, d', tk', os'⟩ := s'
          obtain rfl : g2 = s.gens := hm.gens
          obtain rfl : d' = s.drawn := hm.drawn
          obtain rfl : os' = s.os := hm.os
          show wpAny _ _ _ _ _ _
          refine wpAny_pure ?_
          show wpAny _ _ (ret Value.none) _ _ _
          rw [z0] at g'
          exact wpAny_pure ⟨rfl, h', tk', L, es, ep, t, rfl, hS', g', kp⟩

      · cases r₂ with
        | error e => exact hr₂
        | ok fl₂ =>
          cases fl₂ with
          | ret r =>
            obtain ⟨rfl, h', tk, L, es, ep, t, rfl, hS', g', hk'⟩ := hr₂
            repeat (any_goals (first | assumption | wp_step))
            exact h _ _ _ _ _ _ hS' g' hk'
          | _ => exact hr₂.elim
    | _ => exact hr.elim
end
end My

/-! set(xs) of nested tuples and sorted of it, as rules -/
namespace My
open PySem L2
abbrev DL := List (Addr × PyData)
def nkL (L : DL) : NL := L.map fun p => (p.1, nk p.2)
theorem nkL_lift (ks : DL) : ∀ (N : NL), (∀ p ∈ N, p ∈ nkL ks) → ∃ L : DL, nkL L = N ∧ ∀ p ∈ L, p ∈ ks
  | [], _ => ⟨[], rfl, fun _ h => (nomatch h)⟩
  | x :: r, h => by
    obtain ⟨L, e, hs⟩ := nkL_lift ks r fun p hp => h p (List.mem_cons_of_mem _ hp)
    obtain ⟨q, hq, eq⟩ := List.mem_map.mp (h x List.mem_cons_self)
    refine ⟨q :: L, by rw [← eq, ← e]; rfl, fun p hp => ?_⟩
    rcases List.mem_cons.mp hp with z | z
    · rw [z]; exact hq
    · exact hs p z
theorem perm_lift {α β : Type} {f : α → β} {vs us : List β} (p : vs.Perm us) : ∀ {L : List α}, us = L.map f → ∃ bs : List α, bs.Perm L ∧ vs = bs.map f := by
  induction p with
  | nil =>
    intro L e
    exact ⟨L, .refl _, e⟩
  | cons x _ ih =>
    intro L e
    match L, e with
    | k :: r, e =>
      rw [List.map_cons] at e
      injection e with e1 e2
      obtain ⟨bs, pb, eb⟩ := ih e2
      exact ⟨k :: bs, pb.cons k, by rw [List.map_cons, ← eb, e1]⟩
  | swap x y l =>
    intro L e
    match L, e with
    | k :: j :: r, e =>
      rw [List.map_cons, List.map_cons] at e
      injection e with e1 e
      injection e with e2 e3
      exact ⟨j :: k :: r, .swap k j r, by rw [List.map_cons, List.map_cons, ← e1, ← e2, ← e3]⟩
  | trans _ _ i1 i2 =>
    intro L e
    obtain ⟨b1, p1, e1⟩ := i2 e
    obtain ⟨b2, p2, e2⟩ := i1 e1
    exact ⟨b2, p2.trans p1, e2⟩
/-- the set at a of the keys, without the tuples themselves -/
structure SetN0 (w : World) (h : Heap) (a : Addr) (L : NL) : Prop where
  ex : ∃ (es : Array (Int × Value)) (ep : Nat) (t : SetTable), (∃ o, h.get? a = some o ∧ o.ExactSet ∧ o.data = .set es ep t) ∧ es.toList = rowsN w L ∧ TabOk t (L.map fun p => hsh w p.2) ∧ (L.map (·.2)).Nodup ∧ (w.params.followText "set-order" = true ∨ t.led = true) ∧ L.length * 5 < t.mask * 3 ∧ L.length < 64
def SetNO (w : World) (a : Addr) (L : DL) : HO := .ext fun h => SetN0 w h a (nkL L)
theorem SetNR.n0 {w : World} {h : Heap} {a : Addr} {L : NL} {es : Array (Int × Value)} {ep : Nat} {t : SetTable} (R : SetNR w h a L es ep t) : SetN0 w h a L := ⟨es, ep, t, R.ob, R.rows, R.tab, R.nd, R.led, R.room, R.few⟩
theorem setNO_new {P : Program} {w : World} {H : Hp} {h : Heap} {a : Addr} {L : DL} (R : SetN0 w h a (nkL L)) : ObjOk P w H h a (SetNO w a L) := by
  obtain ⟨es, ep, t, ⟨o, ho, r⟩, q⟩ := id R.ex
  refine ⟨R, ⟨o, ho⟩, fun h1 h2 p k => ?_⟩
  obtain ⟨es', ep', t', ⟨o', ho', r'⟩, q'⟩ := SetN0.ex p
  exact ⟨es', ep', t', ⟨o', k o' ho', r'⟩, q'⟩
/-- data that set() of tuples carries -/
structure KeyD (K : PySem.W.Frag) (H : Hp) (p : Addr × PyData) : Prop where
  dp : Dp K H (.ref p.1) p.2
  pl : plD0 p.2 = true
  dt : p.2.depth ≤ 7
section
variable {X : Cx}
theorem KeyD.isK {pins : List (Addr × Obj)} {σ : L2.St} {H : Hp} {s : Shared} {p : Addr × PyData} (I : Inv X pins σ H s) (h : KeyD X.K H p) : IsK s.heap (nk p.2) p.1 := by
  obtain ⟨as, r⟩ := Dp.reads I p.2 (.ref p.1) (.ref p.1) h.dp rfl
  exact ⟨nested_of p.2 _ as r h.pl, Nat.le_trans (nk_depth p.2) h.dt⟩
def rSetN (K : PySem.W.Frag) (w : World) : List V → Hp → VK → Prop := fun xs H Q => ∃ (l : Addr) (ks : DL), xs = [V.ref l] ∧ SqL K H l (ks.map fun p => V.ref p.1) ∧ (∀ p ∈ ks, KeyD K H p) ∧ ks.length < 64 ∧
  ∀ a L, H a = none → (∀ p ∈ L, p ∈ ks) → (∀ p ∈ ks, p.2 ∈ L.map (·.2)) → (L.map (·.2)).Nodup → Q (.ref a) (upd H a (SetNO w a L))
theorem refs_back : ∀ {ks : DL} {us : List Value}, Vals (ks.map fun p => V.ref p.1) us → us = (nkL ks).map fun p => Value.ref p.1
  | [], _, .nil => rfl
  | p :: ks, _, .cons r t => by
    cases r
    rw [refs_back t]
    rfl
theorem cr_setN (hc : X.calm = true) (hu : X.A.units + 64 < cLine) : CallR X (.type "set") (rSetN X.K X.w) := by
  intro pins s σ H xs us Q I r h
  obtain ⟨l, ks, rfl, hl, hk, hf, q⟩ := h
  rw [Vals.ref1 r]
  obtain ⟨its, rv, pl, hz⟩ := I.list hl
  have hn : H s.heap.objs.size = none := I.hok.fresh (Nat.le_refl _)
  refine call_setN (P := X.prog) (w := X.w) (nkL ks) (I.ok.hd hc) pl.isList (by simpa using refs_back rv) (fun p hp => ?_) (by unfold nkL; rw [List.length_map]; exact hf) (by omega) fun h' tk N es ep t R g k => ?_
  · obtain ⟨p0, hp0, rfl⟩ := List.mem_map.mp hp
    exact (hk p0 hp0).isK I
  obtain ⟨L, e, hs⟩ := nkL_lift ks N fun p hp => List.mem_of_mem_take (g.sub p hp)
  subst e
  refine ⟨.ref s.heap.objs.size, upd H s.heap.objs.size (SetNO X.w s.heap.objs.size L), I.laid (t' := tk) k (Nat.le_refl _) (setNO_new R.n0), rfl, q _ L hn hs (fun p hp => ?_) ?_⟩
  · have m1 : (p.1, nk p.2) ∈ (nkL ks).take (nkL ks).length := by rw [List.take_length]; exact List.mem_map.mpr ⟨p, hp, rfl⟩
    obtain ⟨z, hz1, hz2⟩ := List.mem_map.mp (g.all _ m1)
    obtain ⟨y, hy1, rfl⟩ := List.mem_map.mp hz1
    have e := nk_inj _ _ (hk y (hs y hy1)).pl (hk p hp).pl hz2
    exact List.mem_map.mpr ⟨y, hy1, e⟩
  · have nd := R.nd
    unfold nkL at nd
    rw [List.map_map] at nd
    have e : L.map ((fun p : Addr × NestedKey => p.2) ∘ fun p : Addr × PyData => (p.1, nk p.2)) = (L.map (·.2)).map nk := by rw [List.map_map]; rfl
    rw [e] at nd
    exact nodup_of_map nd
end
section
open PySem.Spec
variable {P : Program} {w : World} {A : Around} {E : Value → Shared → Prop} {s : Shared}
/-- what sorted leaves: ascending by Python's order of data -/
abbrev Asc (L : DL) : Prop := L.Pairwise fun x y => PySem.W.dataLt y.2 x.2 = false
theorem each_ref : ∀ bs : DL, PySem.W.EachIs (fun (v : Value) (b : Addr × PyData) => v = .ref b.1) (bs.map fun p => Value.ref p.1) bs
  | [] => .nil
  | _ :: r => .cons rfl (each_ref r)
theorem ref_each : ∀ {vs : List Value} {bs : DL}, PySem.W.EachIs (fun (v : Value) (b : Addr × PyData) => v = .ref b.1) vs bs → vs = bs.map fun p => Value.ref p.1
  | _, _, .nil => rfl
  | _, _, .cons h t => by rw [h, ref_each t]; rfl
theorem each_of_all {R : Value → Addr × PyData → Prop} : ∀ bs : DL, (∀ b ∈ bs, R (.ref b.1) b) → PySem.W.EachIs R (bs.map fun p => Value.ref p.1) bs
  | [], _ => .nil
  | b :: r, h => .cons (h b List.mem_cons_self) (each_of_all r fun x hx => h x (List.mem_cons_of_mem _ hx))
theorem asc_sort (bs : DL) : Asc (bs.mergeSort (PySem.W.dataLe false fun p : Addr × PyData => p.2)) := by
  have h := PySem.W.sort_pairwise (PySem.W.sortLe_total (PyProof.Rows.listOrd PyProof.Rows.itemOrd) false fun p : Addr × PyData => PySem.W.keyToks p.2) bs
  refine h.imp fun {x y} z => ?_
  replace z : (!PyProof.Rows.lexLt PyProof.Rows.itemOrd (PySem.W.keyToks y.2) (PySem.W.keyToks x.2)) = true := z
  show PyProof.Rows.lexLt PyProof.Rows.itemOrd (PySem.W.keyToks y.2) (PySem.W.keyToks x.2) = false
  simpa using z
theorem sorted_setN {a : Addr} {L : DL} {Q : Value → Shared → Prop} (R : SetN0 w s.heap a (nkL L)) (hh : A.handled = none) (hr : ∀ p ∈ L, ∃ as, PySem.Reads s.heap (.ref p.1) p.2 as) (hal : PySem.W.AllAlike (L.map (·.2))) (hs : PySem.W.Sortable (L.map (·.2))) (hd_ : ∀ p ∈ L, p.2.depth ≤ 7) (hu : A.units + 16 < cLine)
    (q : ∀ (s' : Shared) (p : Nat) (out : Array Value) (c : Nat) (L' : DL), (∀ (b : Addr) (o : Obj), s.heap.get? b = some o → s'.heap.get? b = some o) → s'.gens = s.gens → s'.os = s.os → s.heap.objs.size ≤ p → s'.heap.get? p = some (PyProof.Rows.seqObj "list" out c) →
      out.toList = L'.map (fun r => Value.ref r.1) → L'.Perm L → Asc L' → Q (.ref p) s') : wpAny (model P w) A (call (Value.builtin "sorted") [.ref a]) Q E s := by
  obtain ⟨es, ep, t, ⟨o, ho, hex, hdt⟩, rows, tab, nd, led, room, few⟩ := R.ex
  have z1 : es.size = L.length := by
    rw [← Array.length_toList, rows, rowsN_len]
    exact List.length_map ..
  have few' : L.length < 64 := by
    unfold nkL at few
    rwa [List.length_map] at few
  have psz := tab.sz
  unfold nkL at psz room
  rw [List.length_map, List.length_map] at psz
  rw [List.length_map] at room
  have hf : t.fits es.size = true := by
    unfold SetTable.fits SetTable.fill
    rw [tab.dm, Bool.and_eq_true, beq_iff_eq, decide_eq_true_eq]
    exact ⟨by omega, show t.place.size + 0 ≤ t.mask by omega⟩
  refine Calls.call_function_entry PyProof.Rows.kind_sorted PyProof.Rows.plain_sorted PyProof.Rows.entry_sorted (PyProof.Rows.args_sorted1 (Value.ref a)) ?_
  refine wpAny_bind (wpAny_pure ?_)
  refine wpAny_bind (collect_set hh ⟨o, ho, hex.1, hdt⟩ hf (by unfold scanBound; omega) tab.ris led fun s1 vs k1 hz g1 o1 pm => ?_)
  have e1 : es.toList.map (·.2) = L.map fun r => Value.ref r.1 := by
    rw [rows]
    unfold rowsN nkL
    rw [List.map_map, List.map_map]
    rfl
  obtain ⟨bs, pb, eb⟩ := perm_lift pm e1
  have lb : vs.length = L.length := by rw [eb, List.length_map, pb.length_eq]
  have hsl : vs.length ≤ sizeLine := sz (by omega)
  refine wpAny_bind (wpAny_newList ?_ hsl)
  have hoL := Heap.get?_push_size s1.heap (o := PyProof.Rows.seqObj "list" vs.toArray 0) rfl
  have mem : ∀ b ∈ bs, b ∈ L := fun b hb => pb.mem_iff.mp hb
  have ltb : ∀ (b : Addr) (o : Obj), s.heap.get? b = some o → b ≠ s1.heap.objs.size := fun b o e => Nat.ne_of_lt (Heap.lt_size (k1 b o e))
  have er : PySem.W.EachIs (fun (v : Value) (b : Addr × PyData) => ∃ as, PySem.Reads (PySem.W.sortingHeap (s1.heap.push (PyProof.Rows.seqObj "list" vs.toArray 0)) s1.heap.objs.size vs) v b.2 as) vs bs := by
    rw [eb]
    refine each_of_all bs fun b hb => ?_
    obtain ⟨as, r⟩ := hr b (mem b hb)
    exact ⟨as, PyProof.Rows.Reads.keeps (fun c oc e => PySem.W.sortingHeap_old (ltb c oc e) (Heap.get?_push_of_some _ (k1 c oc e))) r⟩
  have hal' : PySem.W.AllAlike (bs.map (·.2)) := fun d hd d' hd' => hal d ((pb.map _).mem_iff.mp hd) d' ((pb.map _).mem_iff.mp hd')
  have hs' : PySem.W.Sortable (bs.map (·.2)) := hs.elim (fun z => .inl fun d hd => z d ((pb.map _).mem_iff.mp hd)) fun z => .inr fun d hd => z d ((pb.map _).mem_iff.mp hd)
  have S : PySem.W.SortsAt P w A.in1.in1 { s1 with heap := PySem.W.sortingHeap (s1.heap.push (PyProof.Rows.seqObj "list" vs.toArray 0)) s1.heap.objs.size vs } (PySem.W.dataKind (PySem.W.sortingHeap (s1.heap.push (PyProof.Rows.seqObj "list" vs.toArray 0)) s1.heap.objs.size vs) (bs.map (·.2))) vs :=
    PySem.W.SortsAt.data (PySem.W.each_map (R := fun v d => ∃ as, PySem.Reads (PySem.W.sortingHeap (s1.heap.push (PyProof.Rows.seqObj "list" vs.toArray 0)) s1.heap.objs.size vs) v d as) (fun b : Addr × PyData => b.2) er) hal' hs' fun d hd => by
      obtain ⟨b, hb, rfl⟩ := List.mem_map.mp hd
      have := hd_ b (mem b hb)
      simp only [Around.in1_units]
      omega
  have eo := PySem.W.sortVals_data (enc := fun b : Addr × PyData => b.2) false (by rw [eb]; exact each_ref bs) er hal'
  refine wpAny_bind (wpAny_holding (wpAny_call_entry (rest := []) PyProof.Rows.slot_list_sort ⟨_, hoL, rfl⟩ PyProof.Rows.entry_list_sort (PySem.W.list_sort_vals (s := { s1 with heap := s1.heap.push (PyProof.Rows.seqObj "list" vs.toArray 0) }) hoL S hsl ?_) (PyProof.Rows.args_list_sort _)))
  obtain ⟨c, hc⟩ := PyProof.Rows.sortedHeap_at (out := (PySem.W.sortVals (PySem.W.dataKind (PySem.W.sortingHeap (s1.heap.push (PyProof.Rows.seqObj "list" vs.toArray 0)) s1.heap.objs.size vs) (bs.map (·.2))) false vs vs).toArray) hoL
  refine ⟨_, rfl, ?_⟩
  refine wpAny_pure ⟨_, rfl, ?_⟩
  refine q _ s1.heap.objs.size _ c (bs.mergeSort (PySem.W.dataLe false fun p : Addr × PyData => p.2)) (fun b u e => ?_) g1 o1 hz hc (by rw [List.toList_toArray]; exact ref_each eo) ((List.mergeSort_perm _ _).trans pb) (asc_sort bs)
  have h1 := k1 b u e
  have lt := Heap.lt_size h1
  show (PyProof.Rows.sortedHeap _ _ _ _).get? b = some u
  rw [PyProof.Rows.sortedHeap_old (Nat.ne_of_lt lt) (by rw [PyProof.Rows.size_push']; exact Nat.lt_succ_of_lt lt)]
  exact Heap.get?_push_of_some _ h1
end
section
variable {X : Cx}
def rSortedN (K : PySem.W.Frag) (w : World) : List V → Hp → VK → Prop := fun xs H Q => ∃ (a : Addr) (L : DL), xs = [V.ref a] ∧ H a = some (SetNO w a L) ∧ (∀ p ∈ L, KeyD K H p) ∧ L.length < 64 ∧ PySem.W.AllAlike (L.map (·.2)) ∧ PySem.W.Sortable (L.map (·.2)) ∧
  ∀ (L' : DL) (p : Addr), L'.Perm L → Asc L' → H p = none → Q (.ref p) (upd H p (.lst (L'.map fun r => V.ref r.1)))
theorem vals_refs : ∀ L : DL, Vals (L.map fun r => V.ref r.1) (L.map fun r => Value.ref r.1)
  | [] => .nil
  | _ :: r => .cons rfl (vals_refs r)
theorem cr_sortedN (hc : X.calm = true) (hu : X.A.units + 64 < cLine) : CallR X (.builtin "sorted") (rSortedN X.K X.w) := by
  intro pins s σ H xs us Q I r h
  obtain ⟨a, L, rfl, ha, hk, hf, hal, hs, q⟩ := h
  rw [Vals.ref1 r]
  have R : SetN0 X.w s.heap a (nkL L) := (I.hok a _ ha).1
  refine sorted_setN R (I.ok.hd hc) (fun p hp => Dp.reads I p.2 (.ref p.1) (.ref p.1) (hk p hp).dp rfl) hal hs (fun p hp => (hk p hp).dt) (by omega) fun s' p out c L' k g o hp hg hout pm as => ?_
  have hnp := HOk.fresh I.hok hp
  have hlen : (L'.map fun r => V.ref r.1).length ≤ sizeLine := by
    rw [List.length_map, pm.length_eq]
    exact sz (by omega)
  have J : Inv X pins σ (upd H p (.lst (L'.map fun r => V.ref r.1))) { heap := s'.heap, gens := s'.gens, drawn := s'.drawn, toks := s'.toks, os := s.os } :=
    Inv.call (ch := []) I (Un.laid k hp hnp) (HOk.laid I.hok k hp ⟨hlen, out.toList, c, by rw [hout]; exact vals_refs L', hg⟩) (by rw [g]; exact I.bare) fun x z => by cases z
  have e : s' = { heap := s'.heap, gens := s'.gens, drawn := s'.drawn, toks := s'.toks, os := s.os } := by rw [← o]
  rw [e]
  exact ⟨.ref p, _, J, rfl, q L' p pm as hnp⟩
end
end My

/-! rows as data: their order -/
namespace My
open PySem L2
mutual
theorem eqv_plain : ∀ (a b : PyData), plD0 a = true → plD0 b = true → a.eqv b = true → a = b
  | .int i, b, _, hb, e => by
    cases b with
    | int j => rw [eq_of_beq (show (i == j) = true from e)]
    | str _ => cases e
    | tuple _ => cases e
    | none => cases hb
    | bool _ => cases hb
    | list _ => cases hb
    | dict _ => cases hb
  | .str i, b, _, hb, e => by
    cases b with
    | str j => rw [eq_of_beq (show (i == j) = true from e)]
    | int _ => cases e
    | tuple _ => cases e
    | none => cases hb
    | bool _ => cases hb
    | list _ => cases hb
    | dict _ => cases hb
  | .tuple xs, b, ha, hb, e => by
    cases b with
    | tuple ys => rw [eqv_plains xs ys ha hb e]
    | int _ => cases e
    | str _ => cases e
    | none => cases hb
    | bool _ => cases hb
    | list _ => cases hb
    | dict _ => cases hb
  | .none, _, ha, _, _ => by cases ha
  | .bool _, _, ha, _, _ => by cases ha
  | .list _, _, ha, _, _ => by cases ha
  | .dict _, _, ha, _, _ => by cases ha
theorem eqv_plains : ∀ (a b : List PyData), plD0s a = true → plD0s b = true → PyData.eqvAll a b = true → a = b
  | [], [], _, _, _ => rfl
  | [], _ :: _, _, _, e => by cases e
  | _ :: _, [], _, _, e => by cases e
  | x :: r, y :: s, ha, hb, e => by
    have h1 : plD0 x = true ∧ plD0s r = true := by rw [← Bool.and_eq_true]; exact ha
    have h2 : plD0 y = true ∧ plD0s s = true := by rw [← Bool.and_eq_true]; exact hb
    have e1 : x.eqv y = true ∧ PyData.eqvAll r s = true := by rw [← Bool.and_eq_true]; exact e
    rw [eqv_plain x y h1.1 h2.1 e1.1, eqv_plains r s h1.2 h2.2 e1.2]
end
theorem data_anti {a b : PyData} (h : PySem.W.alike a b = true) (h1 : PySem.W.dataLt a b = false) (h2 : PySem.W.dataLt b a = false) : a.eqv b = true := by
  have e : PySem.W.keyToks a = PySem.W.keyToks b := (PyProof.Rows.listOrd PyProof.Rows.itemOrd).total (PySem.W.keyToks a) (PySem.W.keyToks b) h1 h2
  cases q : a.eqv b with
  | true => rfl
  | false =>
    have h3 := (PySem.W.toks_eqv a b h).2 q [] [Sum.inl 0]
    rw [← e, PySem.W.lex_pre, PyProof.Rows.lex_irrefl] at h3
    exact absurd h3 (by decide)
theorem data_trans {a b c : PyData} (h1 : PySem.W.dataLt a b = true) (h2 : PySem.W.dataLt b c = true) : PySem.W.dataLt a c = true := PyProof.Rows.lex_trans _ _ _ h1 h2
theorem data_irrefl (a : PyData) : PySem.W.dataLt a a = false := PyProof.Rows.lex_irrefl _
theorem data_lt {a b : PyData} (h : PySem.W.alike a b = true) (pa : plD0 a = true) (pb : plD0 b = true) (ne : a ≠ b) (h2 : PySem.W.dataLt b a = false) : PySem.W.dataLt a b = true := by
  cases q : PySem.W.dataLt a b with
  | true => rfl
  | false => exact absurd (eqv_plain a b pa pb (data_anti h q h2)) ne
theorem data_asym {a b : PyData} (h : PySem.W.dataLt a b = true) : PySem.W.dataLt b a = false := by
  cases q : PySem.W.dataLt b a with
  | false => rfl
  | true => exact absurd (data_trans h q) (by rw [data_irrefl]; decide)
/-! rows -/
def rowD (r : Row) : PyData := .tuple [.str r.1, pd r.2]
theorem pd1_inj {p q : Str × Int} (e : pd1 p = pd1 q) : p = q := by
  unfold pd1 at e
  injection e with e
  injection e with e1 e
  injection e with e2 _
  injection e1 with e1
  injection e2 with e2
  exact Prod.ext e1 e2
theorem pd_inj {a b : AL} (e : pd a = pd b) : a = b := by
  unfold pd at e
  injection e with e
  induction a generalizing b with
  | nil =>
    cases b with
    | nil => rfl
    | cons _ _ => cases e
  | cons p a ih =>
    cases b with
    | nil => cases e
    | cons q b =>
      rw [List.map_cons, List.map_cons] at e
      injection e with e1 e2
      rw [pd1_inj e1, ih e2]
theorem rowD_inj {a b : Row} (e : rowD a = rowD b) : a = b := by
  unfold rowD at e
  injection e with e
  injection e with e1 e
  injection e with e2 _
  injection e1 with e1
  exact Prod.ext e1 (pd_inj e2)
theorem plD0_pd : ∀ qs : AL, plD0s (qs.map pd1) = true
  | [] => rfl
  | _ :: r => plD0_pd r
theorem plD0_row (r : Row) : plD0 (rowD r) = true := by
  show (true && (plD0s (r.2.map pd1) && true)) = true
  rw [plD0_pd]
  rfl
theorem depth_row (r : Row) : (rowD r).depth ≤ 7 := by
  show max 0 (max (PyData.depthAll (r.2.map pd1) + 1) 0) + 1 ≤ 7
  have := depth_pd r.2
  omega
theorem alikes_pd : ∀ (a b : AL), PySem.W.alikeAll (a.map pd1) (b.map pd1) = true
  | [], _ => by rw [List.map_nil, PySem.W.alikeAll]
  | _ :: _, [] => by rw [List.map_cons, List.map_nil, PySem.W.alikeAll]
  | p :: a, r :: b => by
    rw [List.map_cons, List.map_cons, PySem.W.alikeAll, alikes_pd a b, Bool.and_true]
    simp only [pd1, PySem.W.alike, PySem.W.alikeAll, Bool.and_true]
theorem alike_row (a b : Row) : PySem.W.alike (rowD a) (rowD b) = true := by
  simp only [rowD, pd, PySem.W.alike, PySem.W.alikeAll, alikes_pd, Bool.and_true]
mutual
theorem eqv_selfP : ∀ d : PyData, plD0 d = true → d.eqv d = true
  | .int i, _ => beq_self_eq_true i
  | .str i, _ => beq_self_eq_true i
  | .tuple xs, h => eqv_selfPs xs h
  | .none, h => by cases h
  | .bool _, h => by cases h
  | .list _, h => by cases h
  | .dict _, h => by cases h
theorem eqv_selfPs : ∀ ds : List PyData, plD0s ds = true → PyData.eqvAll ds ds = true
  | [], _ => rfl
  | d :: ds, h => by
    have h1 : plD0 d = true ∧ plD0s ds = true := by rw [← Bool.and_eq_true]; exact h
    show (d.eqv d && PyData.eqvAll ds ds) = true
    rw [eqv_selfP d h1.1, eqv_selfPs ds h1.2]
    rfl
end
theorem eqv_row (a b : Row) : (rowD a).eqv (rowD b) = decide (a = b) := by
  by_cases e : a = b
  · rw [decide_eq_true e, e]
    exact eqv_selfP _ (plD0_row b)
  · rw [decide_eq_false e]
    cases q : (rowD a).eqv (rowD b) with
    | false => rfl
    | true => exact absurd (rowD_inj (eqv_plain _ _ (plD0_row a) (plD0_row b) q)) e
theorem prs_fun {H : Hp} : ∀ {ts : List V} {a b : AL}, Paired (PrA H) ts a → Paired (PrA H) ts b → a = b
  | _, _, _, .nil, .nil => rfl
  | _, p :: _, q :: _, .cons ⟨t, e, h⟩ r, .cons ⟨t', e', h'⟩ r' => by
    rw [e] at e'
    injection e' with e'
    rw [← e', h] at h'
    injection h' with h'
    injection h' with h'
    injection h' with h1 h'
    injection h' with h2 _
    injection h1 with h1
    injection h2 with h2
    rw [prs_fun r r', Prod.ext h1 h2]
def rlt (a b : Row) : Prop := PySem.W.dataLt (rowD a) (rowD b) = true
theorem rlt.trans {a b c : Row} (h : rlt a b) (h2 : rlt b c) : rlt a c := data_trans h h2
theorem rlt.irrefl (a : Row) : ¬ rlt a a := fun h => by
  have e := data_irrefl (rowD a)
  rw [show PySem.W.dataLt (rowD a) (rowD a) = true from h] at e
  cases e
/-- strictly ascending -/
abbrev RAsc (rows : List Row) : Prop := rows.Pairwise rlt
theorem RAsc.nodup {rows : List Row} (h : RAsc rows) : rows.Nodup := List.Pairwise.imp (fun {a b} (z : rlt a b) (e : a = b) => rlt.irrefl a (by rw [← e] at z; exact z)) h
theorem RAsc.unique {a b : List Row} (ha : RAsc a) (hb : RAsc b) (h : ∀ r, r ∈ a ↔ r ∈ b) : a = b :=
  ((List.perm_ext_iff_of_nodup ha.nodup hb.nodup).mpr h).eq_of_pairwise (fun x y _ _ h1 h2 => absurd (h1.trans h2) (rlt.irrefl x)) ha hb
end My

/-! x in xs, xs == ys, of lists of instances of an own class, by the class's own == -/
namespace My
open PySem L2
section
open AutoSeq1 (wpAny_loadPart')
open MeetsSeq MeetsSeq2 MeetsSeq3 SeqRoads2
variable {P : Program} {w : World} {A : Around} {R : Result → Shared → Prop}
abbrev FinB (P : Program) (w : World) (A : Around) (R : Result → Shared → Prop) : PySem.Fin → Shared → Prop := fun fin s' => match fin with
  | .done f => R (.ok f) s'
  | .again c' => c'.quiet = true ∧ codeAny (model P w) A c' R s'
/-- the i-th turn of a walk over two lists -/
def EqI (P : Program) (w : World) (A : Around) (R : Result → Shared → Prop) (l b : Addr) (N : Nat) (I : Nat → Shared → Prop) : Prop :=
  ∀ i s, I i s → ∃ (items items2 : Array Value) (n n2 : Nat), s.heap.get? l = some { cls := .type "list", data := .seq items n } ∧ s.heap.get? b = some { cls := .type "list", data := .seq items2 n2 } ∧ items.size = N ∧ items2.size = N ∧
    ∀ (h1 : i < items.size) (h2 : i < items2.size), wpAny (model P w) A.in1 (eqBool items[i] items2[i]) (fun r s' => (r = true → I (i + 1) s') ∧ (r = false → ∃ (it it2 : Array Value) (m m2 : Nat), s'.heap.get? l = some { cls := .type "list", data := .seq it m } ∧ s'.heap.get? b = some { cls := .type "list", data := .seq it2 m2 } ∧ i < it.size ∧ i < it2.size ∧ R (.ok (.ret (.bool false))) s')) (fun e s' => R (.error e) s') s
theorem eq_turns {l b : Addr} {N : Nat} {I : Nat → Shared → Prop} (hl : EqI P w A R l b N I) (fin : ∀ s, I N s → R (.ok (.ret (.bool true))) s) (k : Nat) :
    ∀ i : Nat, N - i = k → i ≤ N → ∀ s, I i s → wpAny (model P w) A.in1 (Builtin.«list.__eq__.loop» ⟨[.ref l, .ref b, rawInt i, rawInt 2], []⟩) (FinB P w A R) (fun e s' => R (.error e) s') s := by
  induction k with
  | zero =>
    intro i hk hi s h
    obtain ⟨items, items2, n, n2, ho, ho2, hz, hz2, _⟩ := hl _ _ h
    obtain rfl : i = N := by omega
    have hR := fin s h
    obtain ⟨hp, g, d, tk, os⟩ := s
    wp_walk using wpAny_loadPart' ho, wpAny_loadPart' ho2
    have e1 : items[((i : Nat) : Int).toNat]? = none := by simp; omega
    have e2 : items2[((i : Nat) : Int).toNat]? = none := by simp; omega
    rw [e1, e2]
    wp_walk using wpAny_loadPart' ho, wpAny_loadPart' ho2
    show R (.ok (.ret (.bool (items.size == items2.size)))) _
    rw [hz, hz2]
    simpa using hR
  | succ k ih =>
    intro i hk hi s h
    obtain ⟨items, items2, n, n2, ho, ho2, hz, hz2, turn⟩ := hl _ _ h
    have lt : i < items.size := by omega
    have lt2 : i < items2.size := by omega
    have ht := turn lt lt2
    obtain ⟨hp, g, d, tk, os⟩ := s
    wp_walk using wpAny_loadPart' ho, wpAny_loadPart' ho2
    have e1 : items[((i : Nat) : Int).toNat]? = some items[i] := by simp [lt]
    have e2 : items2[((i : Nat) : Int).toNat]? = some items2[i] := by simp [lt2]
    have e3 : ((i : Int) + 1) = ((i + 1 : Nat) : Int) := by omega
    rw [e1, e2]
    refine wpAny_bind (wpAny_mono ht (fun r s2 h2 => ?_) fun _ _ x => x)
    cases r with
    | true =>
      have hrec := ih (i + 1) (by omega) (by omega) s2 (h2.1 rfl)
      obtain ⟨hp2, g2, d2, tk2, os2⟩ := s2
      wp_walk
      rw [e3]
      exact ⟨plainId_quiet plain_eq_loop _, codeAny_builtin entry_eq_loop (by
        rw [Around.under_plainId plain_eq_loop _]
        exact hrec)⟩
    | false =>
      obtain ⟨it, it2, m, m2, hi1, hi2, l1, l2, hR⟩ := h2.2 rfl
      obtain ⟨hp2, g2, d2, tk2, os2⟩ := s2
      have a1 : it[((i : Nat) : Int).toNat]? = some it[i] := by simp [l1]
      have a2 : it2[((i : Nat) : Int).toNat]? = some it2[i] := by simp [l2]
      wp_walk using wpAny_loadPart' hi1, wpAny_loadPart' hi2
      rw [a1, a2]
      wp_walk
      exact hR
theorem eq_whole {l b : Addr} {N : Nat} {I : Nat → Shared → Prop} (hl : EqI P w A R l b N I) (fin : ∀ s, I N s → R (.ok (.ret (.bool true))) s) {s : Shared} (h : I 0 s) :
    wpAny (model P w) A.in1 (Builtin.«list.__eq__» ⟨[.ref l, .ref b], []⟩) (FinB P w A R) (fun e s' => R (.error e) s') s := by
  obtain ⟨items, items2, n, n2, ho, ho2, hz, hz2, _⟩ := hl _ _ h
  have hrec := eq_turns hl fin _ 0 rfl (Nat.zero_le _) s h
  obtain ⟨hp, g, d, tk, os⟩ := s
  have f3 := AutoSeq1.sub_list_list
  have ne : ¬ (items.size != items2.size) = true := by simp [hz, hz2]
  wp_walk using wpAny_loadPart' ho, wpAny_loadPart' ho2
  exact ⟨plainId_quiet plain_eq_loop _, codeAny_builtin entry_eq_loop (by
    rw [Around.under_plainId plain_eq_loop _]
    exact hrec)⟩
theorem eq_unlike {l b : Addr} {items items2 : Array Value} {n n2 : Nat} {s : Shared} (ho : s.heap.get? l = some { cls := .type "list", data := .seq items n }) (ho2 : s.heap.get? b = some { cls := .type "list", data := .seq items2 n2 }) (ne : items.size ≠ items2.size) (hR : R (.ok (.ret (.bool false))) s) :
    wpAny (model P w) A.in1 (Builtin.«list.__eq__» ⟨[.ref l, .ref b], []⟩) (FinB P w A R) (fun e s' => R (.error e) s') s := by
  obtain ⟨hp, g, d, tk, os⟩ := s
  have f3 := AutoSeq1.sub_list_list
  have ne2 : (items.size != items2.size) = true := by simp [ne]
  wp_walk using wpAny_loadPart' ho, wpAny_loadPart' ho2
  exact hR
end
end My

namespace My
open PySem L2 PySem.W
section
variable {X : Cx} {CX : CXT} {k : Nat} {f C : Addr} {fd : FuncData} {ps : List Str} {sp : Sp} {E : XK} {pins : List (Addr × Obj)} {σ : L2.St} {H : Hp} {s : Shared}
theorem lst_obj (I : Inv X pins σ H s) {l : Addr} {xs : List V} (h : H l = some (.lst xs)) : ∃ (us : List Value) (c : Nat), Vals xs us ∧ s.heap.get? l = some { cls := .type "list", data := .seq us.toArray c } := by
  obtain ⟨_, us, c, rv, ho⟩ := I.hok l _ h
  exact ⟨us, c, rv, ho⟩
/-- == of two instances within a built-in -/
theorem eqBool_own {A : Around} {Q : Bool → Shared → Prop} {Qm : VK} {a b : Addr} (O : OCal X.prog X.w X.K X.mg X.base CX k C "__eq__" ps sp) (hr : Room k A) (hf : A.frames = X.A.frames) (hx : Passes CX X E) (I : Inv X pins σ H s)
    (same : a = b → Q true s) (oth : a ≠ b → ∃ dx dy fs gs, H a = some (.ins C dx fs) ∧ H b = some (.ins C dy gs) ∧ sp [.ref a, .ref b] H Qm E) (hm : ∀ v H' s', Inv X pins σ H' s' → Qm v H' → ∃ r, v = .bl r ∧ Q r s') :
    wpAny (model X.prog X.w) A (eqBool (.ref a) (.ref b)) Q X.xe s := by
  by_cases ab : a = b
  · subst ab
    unfold eqBool
    refine wpAny_holding ?_
    refine wpAny_ite_split (fun _ => ?_) fun n => absurd (beq_self_eq_true _) n
    exact wpAny_bind (wpAny_rule (wpAny_pure (same rfl)))
  · obtain ⟨dx, dy, fs, gs, e1, e2, h⟩ := oth ab
    refine GQ.eqBool_refG ab ?_
    obtain ⟨g, gd, F, hs, hf', hk, hfn, hb⟩ := O.ex
    obtain ⟨mA, J, _⟩ := ins_get I.hok e1
    obtain ⟨mB, J', _⟩ := ins_get I.hok e2
    obtain ⟨od, J, _⟩ := J.look
    obtain ⟨od', J', _⟩ := J'.look
    obtain ⟨m, hF⟩ := I.fr
    refine PySem.W.cmp_K (op := .Eq) (tb := .ref C) hr.units0 hF I.ok.mod.kin J J'.type (by simp [PySem.W.notFirst]) hs hf' ?_
    refine wpAny_mono (run_at F hr hf hb (fun e s' c => hx pins σ H s e s' I c) I (vs := [.ref a, .ref b]) (.cons rfl (.cons rfl .nil)) h) (fun u s' q => ?_) fun _ _ z => z
    refine cmpBack q fun z => ?_
    obtain ⟨v, H', I', rv, qm⟩ := z
    obtain ⟨r, rfl, q'⟩ := hm v H' s' I' qm
    cases rv
    exact ⟨r, rfl, q'⟩
/-- xs == ys of instances -/
def rEqL (C : Addr) (sp : Sp) (E : XK) : R2 := fun x y H Q => ∃ (l b : Addr) (os qs : List V), x = .ref l ∧ y = .ref b ∧ H l = some (.lst os) ∧ H b = some (.lst qs) ∧ ((os.length ≠ qs.length ∧ Q (.bl false) H) ∨
  (os.length = qs.length ∧ ∃ I : Nat → Hp → Prop, I 0 H ∧ (∀ i H', I i H' → H' l = some (.lst os) ∧ H' b = some (.lst qs)) ∧
    (∀ i H' o p, I i H' → os[i]? = some o → qs[i]? = some p → ∃ a c, o = .ref a ∧ p = .ref c ∧ (a = c → I (i + 1) H') ∧ (a ≠ c → ∃ dx dy fs gs, H' a = some (.ins C dx fs) ∧ H' c = some (.ins C dy gs) ∧ sp [.ref a, .ref c] H' (fun v H2 => ∃ r, v = .bl r ∧ if r = true then I (i + 1) H2 else Same H' H2 ∧ Q (.bl false) H2) E)) ∧
    ∀ H', I os.length H' → Q (.bl true) H'))
theorem op_eqL (O : OCal X.prog X.w X.K X.mg X.base CX k C "__eq__" ps sp) (hr : Room (k + 1) X.A) (hx : Passes CX X E) : OpR X (compareOp .Eq) (rEqL C sp E) := by
  intro pins s σ H x y v u Q I rx ry h
  obtain ⟨l, b, os, qs, rfl, rfl, hl, hb, h⟩ := h
  cases rx
  cases ry
  obtain ⟨us, c, rv, ho⟩ := lst_obj I hl
  obtain ⟨us2, c2, rv2, ho2⟩ := lst_obj I hb
  show wpAny (model X.prog X.w) X.A (richCompare .Eq (.ref l) (.ref b)) (EP X pins σ Q) X.xe s
  refine wpAny_richCompare_same_room (op := .Eq) ⟨_, ho, rfl⟩ ⟨_, ho2, rfl⟩ PySem.F.slot_list_eq (GQ.call_here PySem.F.slot_list_eq ⟨_, ho, rfl⟩ PySem.F.entry_list_eq (PySem.F.args_list_eq_2 _ _) ?_) hr.units0
  rcases h with ⟨nel, q⟩ | ⟨eel, J, h0, hst, turn, fin⟩
  · refine eq_unlike (R := wants (fun v s' => v ≠ .notImplemented ∧ EP X pins σ Q v s') X.xe) ho ho2 (by rw [List.size_toArray, List.size_toArray, ← rv.length, ← rv2.length]; exact nel) ⟨(fun z => nomatch z), .bl _, H, I, rfl, q⟩
  · refine eq_whole (R := wants (fun v s' => v ≠ .notImplemented ∧ EP X pins σ Q v s') X.xe) (N := os.length) (I := fun i s' => ∃ H', Inv X pins σ H' s' ∧ J i H') (fun i s' ⟨H', I', j⟩ => ?_) (fun s' ⟨H', I', j⟩ => ⟨(fun z => nomatch z), .bl _, H', I', rfl, fin H' j⟩) ⟨H, I, h0⟩
    obtain ⟨us', c', rv', ho'⟩ := lst_obj I' (hst i H' j).1
    obtain ⟨us2', c2', rv2', ho2'⟩ := lst_obj I' (hst i H' j).2
    refine ⟨us'.toArray, us2'.toArray, c', c2', ho', ho2', by rw [List.size_toArray, ← rv'.length], by rw [List.size_toArray, ← rv2'.length, eel], fun h1 h2 => ?_⟩
    have k1 : i < os.length := by rw [rv'.length]; simpa using h1
    have k2 : i < qs.length := by rw [rv2'.length]; simpa using h2
    obtain ⟨a, d, ea, ed, q1, q2⟩ := turn i H' os[i] qs[i] j (List.getElem?_eq_getElem k1) (List.getElem?_eq_getElem k2)
    obtain ⟨u, hu, ru⟩ := rv'.get (List.getElem?_eq_getElem k1)
    obtain ⟨u2, hu2, ru2⟩ := rv2'.get (List.getElem?_eq_getElem k2)
    have g1 : us'.toArray[i] = u := by
      have h1' : i < us'.length := by simpa using h1
      rw [List.getElem?_eq_getElem h1'] at hu
      simpa using Option.some.inj hu
    have g2 : us2'.toArray[i] = u2 := by
      have h2' : i < us2'.length := by simpa using h2
      rw [List.getElem?_eq_getElem h2'] at hu2
      simpa using Option.some.inj hu2
    rw [g1, g2]
    rw [ea] at ru
    rw [ed] at ru2
    cases ru
    cases ru2
    refine eqBool_own O hr.in1 rfl hx I' (fun z => ⟨fun _ => ⟨H', I', q1 z⟩, fun z => (by cases z)⟩) q2 fun v H2 s2 I2 ⟨r, er, q⟩ => ⟨r, er, fun zr => ?_, fun zr => ?_⟩
    · rw [if_pos zr] at q
      exact ⟨H2, I2, q⟩
    · rw [if_neg (by rw [zr]; decide)] at q
      obtain ⟨sm, q⟩ := q
      obtain ⟨w1, m1, r1, o1⟩ := lst_obj I2 (sm _ _ (hst i H' j).1)
      obtain ⟨w2, m2, r2, o2⟩ := lst_obj I2 (sm _ _ (hst i H' j).2)
      exact ⟨w1.toArray, w2.toArray, m1, m2, o1, o2, by rw [List.size_toArray, ← r1.length]; exact k1, by rw [List.size_toArray, ← r2.length]; exact k2, (fun z => nomatch z), .bl _, H2, I2, rfl, q⟩
end
end My

/-! [f(x) for x in xs] where f(x) may raise out of the def -/
namespace My
open PySem PySem.Spec PyProof.Rows L2
/-- how a list comprehension's block may end, fr the frame it stands in -/
def BlkEnd (M : Model) (A : Around) (E Q : Value → Shared → Prop) (acc : Value) (C : Addr) (fr : Option Addr) : Result → Shared → Prop
  | .ok _, t => ∃ m, t.heap.Ns C m ∧ ∀ g, Heap.SameBut C t.heap g → Q acc { t with heap := g }
  | .error x, t => ∃ m, t.heap.Ns C m ∧ ∀ g, Heap.SameBut C t.heap g → ∀ ce : Env, ce.locals = C → ce.frame = fr → wpAny M A (passOn "comprehension.variables-let-go" x ce : Sem Value) (fun _ _ => False) E { t with heap := g }
theorem wp_compr {M : Model} {A : Around} {E Q : Value → Shared → Prop} {s : Shared} {env : Env} {e : Expr} {sc : Scope} {pos : Pos} {nw fst : Sem Value} {g : Comprehension} {gs : List Comprehension} {cl : List (Str × Addr)}
    (h1 : clausesOf e = g :: gs) (h2 : ∀ x, foldedSetIterable g.iter env x = pure x) (h3 : closureFor sc env = pure cl) (h4 : sc.kind = .function) (h5 : ∀ x ∈ sc.names, x.2 = .local → sc.names.lookup x.1 = some .local)
    (h : wpAny M A fst (fun x s1 => wpAny M A (pyIter x) (fun it s2 => wpAny M A nw (fun acc s3 => wpAny M A (newFunctionEnv sc env.globals cl [] env.qual none .none (some env))
      (fun ce s4 => codeAny M A (.compStart e 0 it acc { ce with scope := relabel sc env }) (BlkEnd M A E Q acc ce.locals ce.frame) s4) E s3) E s2) E s1) E s) :
    wpAny M A (comprehension e sc env pos nw false fst none) Q E s := by
  unfold comprehension
  rw [h3, h1]
  refine wpAny_bind (wpAny_mono h (fun x s1 a1 => ?_) fun _ _ z => z)
  refine wpAny_bind (wpAny_standAt (wpAny_bind (wpAny_of_eq (h2 x) (wpAny_bind (wpAny_holding (wpAny_mono a1 (fun it s2 a2 => ?_) fun _ _ z => z))))))
  refine wpAny_standIf (wpAny_bind (wpAny_mono a2 (fun acc s3 a3 => ?_) fun _ _ z => z))
  refine wpAny_bind (wpAny_pure (wpAny_bind (wpAny_mono a3 (fun ce s4 a4 => ?_) fun _ _ z => z)))
  dsimp only
  have kd : ∀ x ∈ (sc.names.filter fun x => (x.2 == .local || x.2 == .cell) && x.1 != (".0" : Str)).reverse, x.2 = .local → Env.kindOf { ce with scope := relabel sc env } x.1 = some .local := fun x hx hl =>
    lookup_relabel_local (h5 x (List.mem_filter.mp (List.mem_reverse.mp hx)).1 hl)
  refine wpAny_holding (wpAny_bind (wpAny_attempt (wpAny_holding (wpAny_run (codeAny_mono a4 fun r t ht => ?_)))))
  match r, ht with
  | .ok _, ⟨m, n1, n2⟩ => exact wpAny_bind (wpAny_holding (wpAny_comp_letGo (cenv := { ce with scope := relabel sc env }) h4 _ t m kd n1 fun g' _ _ sb => wpAny_pure (n2 g' sb)))
  | .error x, ⟨m, n1, n2⟩ => exact wpAny_bind (wpAny_holding (wpAny_comp_letGo (cenv := { ce with scope := relabel sc env }) h4 _ t m kd n1 fun g' _ _ sb => wpAny_mono (n2 g' sb _ rfl rfl) (fun _ _ z => z.elim) fun _ _ z => z))
theorem noteFrame_fr {x : Value} {e e' : Env} (h : e.frame = e'.frame) : noteFrame x e = noteFrame x e' := by
  unfold noteFrame PySem.frameOf
  rw [h]
/-- an error that comes out of a call within the block goes through the block's end -/
theorem blk_err {X : Cx} {pins pb : List (Addr × Obj)} {σ σb : L2.St} {H3 Hb : Hp} {s3 sb t : Shared} {E : XK} {Q : Value → Shared → Prop} {acc u : Value} {sc : Scope} {ce : Env} {fp : List Addr}
    (hs : X.stack = X.env :: X.outer) (hf : X.env.frame = some X.env.locals) (tk : Takes X (fun cls d _ H => E cls d H)) (I3 : Inv X pins σ H3 s3) (f3 : ∀ b ∈ fp, FpOk X pins H3 b) (cF : ce.frame = X.env.frame) (cL : ce.locals = s3.heap.objs.size)
    (I : Inv (X.blk s3 H3 sc ce fp) pb σb Hb sb) (c : CX X.prog X.w X.stack Hb sb E u t) :
    notedBy (model X.prog X.w) X.A ce (fun e t => BlkEnd (model X.prog X.w) X.A X.xe Q acc ce.locals X.env.frame (.error e) t) u t := by
  have c0 := c
  obtain ⟨a, Bq, Hq, clq, dq, rfl, ⟨_, _, _, oe, vs, T, oT, ts, g1, g2, g3, g4, g5, g6, g7, g8, g9⟩, _⟩ := c0
  obtain ⟨a', B, sI, pb', σ', H', cls, d, e, J, nb, up, sky, na, os, ag, w⟩ := XE.of_call (X := X.blk s3 H3 sc ce fp) (W := fun cls d _ H => E cls d H) I (fun _ _ _ h => h) c
  obtain rfl : a = a' := by injection e
  have fl : HandSPX.FlyingZ B (X.env :: X.outer) a (Zc cls d) t.heap := by
    rw [← hs]
    rcases sky with ⟨_, _, _, oe', vs', k1, _, k3, k4⟩ | fl | ⟨_, _, _, oe', vs', T', oT', ts', k1, _, k3, k4, _, _, k7, k8, k9⟩
    · rw [g1] at k1
      cases k1
      rw [g3] at k3
      cases k3
      rw [g4] at k4
      cases k4
    · exact fl
    · rw [g1] at k1
      cases k1
      rw [g3] at k3
      cases k3
      rw [g4] at k4
      cases k4
      rw [g7] at k7
      cases k7
      rw [g8] at k8
      cases k8
      rw [g9] at k9
      cases k9
  have JX : Inv X pins σ H' sI := I3.call' (ch := fp) J.os J.base J.hok J.bare fun b hb => ⟨(f3 b hb).2.2.2.1, (f3 b hb).2.1, (f3 b hb).2.2.2.2.1, (f3 b hb).2.2.2.2.2⟩
  have hfr : X.A.frames = some (X.env :: X.outer) := by rw [I3.ok.frames, hs]
  have nC : ce.locals ∉ frs X.stack := fun hm => by
    obtain ⟨_, o, ho, _⟩ := J.ok.funs.mem hm
    have := Heap.lt_size ho
    rw [cL] at this
    exact absurd this (Nat.lt_irrefl _)
  have hC0 : H' ce.locals = none := J.free
  obtain ⟨m, ⟨oc, es, ep, q1, q2, q3⟩, _⟩ := J.loc
  have q1 : sI.heap.get? ce.locals = some oc := q1
  unfold notedBy
  rw [noteFrame_fr cF]
  refine HandSPX.looks_onZ Zc.steady hfr hf fl fun h1 hh up1 => ?_
  obtain ⟨b1, b2, b3, oe1, vs1, T1, oT1, ts1, j1, j2, j3, j4, j5, j6, j7, j8, j9⟩ := id hh
  have hC1 : h1.get? ce.locals = some oc := b1 _ _ (nb _ _ q1 nC)
  refine ⟨m, ⟨oc, es, ep, hC1, q2, q3⟩, fun g sm ce' e1 e2 => ?_⟩
  have nCa : a ≠ ce.locals := fun z => by
    rw [z, hC1] at j1
    cases j1
    rw [q2] at j3
    cases j3
  have nCT : T1 ≠ ce.locals := fun z => by
    rw [z, hC1] at j7
    cases j7
    rw [q2] at j8
    cases j8
  have ga : g.get? a = some oe1 := (sm.2 a nCa).trans j1
  have gT : g.get? T1 = some oT1 := (sm.2 T1 nCT).trans j7
  have hid : ∀ {h : Heap} {b : Addr} {o : Obj}, (PySem.W.hideAll h [ce.locals]).get? b = some o → b ≠ ce.locals ∧ h.get? b = some o := fun {h b o} z =>
    ⟨(fun y => by rw [y, PySem.W.hideAll_none [ce.locals] (List.mem_singleton_self _)] at z; cases z), PySem.W.of_hideAll _ z⟩
  have hidn : ∀ {h : Heap} {b : Addr}, h.get? b = none → (PySem.W.hideAll h [ce.locals]).get? b = none := fun {h b} z => by
    cases y : (PySem.W.hideAll h [ce.locals]).get? b with
    | none => rfl
    | some o =>
      rw [(hid y).2] at z
      cases z
  have fun2 : g.FunFrames (PySem.W.hideAll B [ce.locals]) (X.env :: X.outer) := by
    have nC' : ce.locals ∉ (X.env :: X.outer).filterMap (·.frame) := by rw [← hs]; exact nC
    clear hfr fl hh
    generalize X.env :: X.outer = l at b3 nC'
    induction l with
    | nil => trivial
    | cons e0 r ih =>
      obtain ⟨w1, ⟨L0, o0, w2, w3, w4, w5⟩, w6⟩ := b3
      refine ⟨w1, ⟨L0, o0, w2, hidn w3, (sm.2 L0 fun z => nC' (List.mem_filterMap.mpr ⟨e0, List.mem_cons_self, by rw [w2, z]⟩)).trans w4, w5⟩, ih w6 fun hm => nC' ?_⟩
      obtain ⟨x, hx, hy⟩ := List.mem_filterMap.mp hm
      exact List.mem_filterMap.mpr ⟨x, List.mem_cons_of_mem _ hx, hy⟩
  have held : HandSPX.HeldZ (PySem.W.hideAll B [ce.locals]) (X.env :: X.outer) a (Zc cls d) X.env.locals g :=
    ⟨fun b o z => (sm.2 b (hid z).1).trans (b1 b o (hid z).2), hidn b2, fun2, oe1, vs1, T1, oT1, ts1, ga, j2, j3, j4, hidn j5, j6, gT, j8, j9⟩
  unfold PySem.passOn
  refine wpAny_bind (wpAny_field ga j3 j4 ?_)
  rw [if_neg (show ¬ ((Value.ref T1 == Value.none) = true) from by simp)]
  have away : wpAny (model X.prog X.w) X.A (setFlight (.ref a) ce'.frame) (fun _ s4 => wpAny (model X.prog X.w) X.A (throw (.ref a) : Sem Value) (fun _ _ => False) X.xe s4) X.xe { t with heap := g } := by
    rw [e2, hf]
    refine HandSPX.setFlight_onZ held fun h3 hh3 up3 => wpAny_throw (tk _ _ ?_)
    refine ⟨a, PySem.W.hideAll B [ce.locals], { sI with heap := PySem.W.hideAll sI.heap [ce.locals] }, pins, σ, H', cls, d, rfl, ?_, fun b o z hb => PySem.W.hideAll_get _ (nb b o (hid z).2 hb) (by simpa using (hid z).1), fun b o z nf => ?_, .inr (.inr (by rw [hs]; exact hh3)), na, os, ag, w⟩
    · have fo := I3.fpOk (H' := H') (b := ce.locals) (by rw [cL]; exact Nat.le_refl _) hC0
      obtain ⟨f0, f1, f2, f3', f4, f5⟩ := fo
      exact JX.turned (t' := sI.toks) (fun b o nb' z => PySem.W.hideAll_get _ z (by simpa using nb')) f0 f1 f3' f4 f5
    · obtain ⟨nbC, z2⟩ := hid z
      obtain ⟨sl, y1⟩ := up b o z2 nf
      obtain ⟨sl2, y2⟩ := up1 b _ y1 nf
      obtain ⟨sl3, y3⟩ := up3 b _ ((sm.2 b nbC).trans y2) nf
      exact ⟨sl3, y3⟩
  exact wpAny_bind away
/-- the same context with another wish -/
abbrev Wish (X : Cx) (xb : Value → Shared → Prop) : Cx := { X with xe := xb }
/-- what is wanted of an exception is no part of a state -/
theorem Inv.wish {X : Cx} {pins : List (Addr × Obj)} {σ : L2.St} {H : Hp} {s : Shared} (I : Inv X pins σ H s) (xb : Value → Shared → Prop) : Inv (Wish X xb) pins σ H s :=
  ⟨⟨I.ok.mod, I.ok.kind, I.ok.glob, I.ok.blt, I.ok.above, I.ok.inj, I.ok.has, I.ok.cab, I.ok.hd, I.ok.frames, I.ok.stk, I.ok.exf, I.ok.bs, I.ok.bsz, I.ok.noex, I.ok.exfs, I.ok.funs, I.ok.frf⟩, I.os, I.bare, I.base, I.loc, I.cell, I.free, I.freeC, I.pin, I.hok, I.len⟩
theorem Inv.wish' {X : Cx} {pins : List (Addr × Obj)} {σ : L2.St} {H : Hp} {s : Shared} {xb : Value → Shared → Prop} (I : Inv (Wish X xb) pins σ H s) : Inv X pins σ H s := Inv.wish (X := Wish X xb) I X.xe
/-- [elt for target in iter if ..] where elt may raise -/
theorem pe_lcE {X : Cx} {E : XK} {elt tg iter : Expr} {ifs : List Expr} {scope : Scope} {own : List (Str × Nat)} {pos : Pos} {wi : TI} {g : TG} {tt : TT} {te : TE} (hs : X.stack = X.env :: X.outer) (hf : X.env.frame = some X.env.locals) (tk : Takes X (fun cls d _ H => E cls d H))
    (hc : X.calm = true) (hN : X.N.Nodup) (hi : PI X tg iter wi) (ok : BlkOk X.N X.env.scope scope own)
    (hg : ∀ (s : Shared) (H : Hp) (C : Addr) (cl : List (Str × Addr)) (fp : List Addr), PG (X.blk s H scope (compEnvC scope cl C X.env) fp) tg g)
    (ht : ∀ (s : Shared) (H : Hp) (C : Addr) (cl : List (Str × Addr)) (fp : List Addr), PTs (X.blk s H scope (compEnvC scope cl C X.env) fp) ifs tt)
    (he : ∀ (s : Shared) (H : Hp) (C : Addr) (cl : List (Str × Addr)) (fp : List Addr) (xb : Value → Shared → Prop), PassS (CX X.prog X.w) (Wish (X.blk s H scope (compEnvC scope cl C X.env) fp) xb) (fun _ => E) → PE (Wish (X.blk s H scope (compEnvC scope cl C X.env) fp) xb) elt te)
    (hx : ∀ x, foldedSetIterable iter X.env x = pure x := by intro _; rfl) :
    PE X (.ListComp elt [⟨tg, iter, ifs, 0⟩] scope pos) (tLc wi g tt te (own.map (·.2))) := by
  refine ⟨fun pins s σ H Q I h => ?_⟩
  rw [eval_ListComp]
  have fr : ∀ y ∈ scope.names, y.2 = .free → ∃ c, X.env.cells.lookup y.1 = some c := fun y hy e => by
    rcases ok.free y hy e with k | k
    · exact I.ok.has _ (.inl k)
    · exact I.ok.has _ (.inr k)
  refine wp_compr rfl hx (closure_ok fr) ok.kind (fun y hy e => by rw [ok.uniq y hy, e]) (thn (hi.run pins s σ H _ I h) fun v s1 a1 => thn a1 fun itv s2 a2 => ?_)
  obtain ⟨it, fp, tn, J, H2, rfl, I2, T, t2, f2, q⟩ := a2
  refine wpAny_newObj_type (newEnv_comp ?_) (by show 0 ≤ sizeLine; decide)
  obtain ⟨D, eD⟩ : ∃ D, D = s2.heap.objs.size := ⟨_, rfl⟩
  rw [← eD]
  obtain ⟨W, ⟨m0, w0⟩, turn⟩ := q D (I2.hok.fresh (Nat.le_of_eq eD.symm))
  obtain ⟨s3, e3⟩ : ∃ t : Shared, t = { s2 with heap := s2.heap.push { cls := .type "list", data := .seq ([] : List Value).toArray } } := ⟨_, rfl⟩
  have keep3 : ∀ b o, s2.heap.get? b = some o → s3.heap.get? b = some o := fun b o e => by
    rw [e3]
    exact Heap.get?_push_of_some _ e
  have I3 : Inv X pins σ (upd H2 D (.lst [])) s3 := by
    subst e3
    refine I2.laid (t' := s2.toks) (fun _ _ e => Heap.get?_push_of_some _ e) (Nat.le_of_eq eD.symm) ⟨Nat.zero_le _, [], 0, .nil, ?_⟩
    rw [eD]
    exact Heap.get?_push_size _ rfl
  have old : ∀ b ∈ fp, b < D := fun b hb => by
    obtain ⟨_, e, _⟩ := T.obj _ _ t2 b hb
    rw [eD]
    exact Heap.lt_size e
  have sz3 : s3.heap.objs.size = D + 1 := by rw [e3, eD]; exact Heap.size_push ..
  have f3 : ∀ b ∈ fp, FpOk X pins (upd H2 D (.lst [])) b := fun b hb => ⟨(upd_ne (Nat.ne_of_lt (old b hb))).trans (f2 b hb).1, (f2 b hb).2⟩
  have t3 : tn 0 s3.heap := T.keep _ _ _ t2 fun b _ o e => keep3 b o e
  have I4 := block_start I3 ok hN fun b hb => ⟨f3 b hb, by rw [sz3]; exact Nat.lt_succ_of_lt (old b hb)⟩
  have pg := hg s3 (upd H2 D (.lst [])) s3.heap.objs.size (cellsFrom (s3.heap.objs.size + 1) scope.names (cloFrom X.env.cells scope.names [])) fp
  have pt := ht s3 (upd H2 D (.lst [])) s3.heap.objs.size (cellsFrom (s3.heap.objs.size + 1) scope.names (cloFrom X.env.cells scope.names [])) fp
  have pe := he s3 (upd H2 D (.lst [])) s3.heap.objs.size (cellsFrom (s3.heap.objs.size + 1) scope.names (cloFrom X.env.cells scope.names [])) fp
  rw [← e3]
  obtain ⟨ce, ece⟩ : ∃ ce, ce = compEnvC scope (cellsFrom (s3.heap.objs.size + 1) scope.names (cloFrom X.env.cells scope.names [])) s3.heap.objs.size X.env := ⟨_, rfl⟩
  have cL : ce.locals = s3.heap.objs.size := by rw [ece]; rfl
  have cF : ce.frame = X.env.frame := by rw [ece]; rfl
  suffices G : codeAny (model X.prog X.w) X.A (.compStart (.ListComp elt [⟨tg, iter, ifs, 0⟩] scope pos) 0 (.ref it) (.ref D) ce) (BlkEnd (model X.prog X.w) X.A X.xe (EP X pins σ Q) (.ref D) ce.locals X.env.frame) { s3 with heap := pushCells (s3.heap.push { cls := .type "dict", data := .dict #[] }) scope.names } by
    rw [cL, ece] at G
    exact G
  rw [← ece] at I4 pg pt pe
  obtain ⟨s4, e4⟩ : ∃ t : Shared, t = { s3 with heap := pushCells (s3.heap.push { cls := .type "dict", data := .dict #[] }) scope.names } := ⟨_, rfl⟩
  have t4 : tn 0 s4.heap := T.keep _ _ _ t3 fun b _ o e => by
    rw [e4]
    exact pushCells_keeps _ _ _ _ (Heap.get?_push_of_some _ e)
  rw [← e4] at I4 ⊢
  have n3 : ∀ b ∈ fp, upd H2 D (.lst []) b = none := fun b hb => (f3 b hb).1
  obtain ⟨H3, eH⟩ : ∃ G, G = upd H2 D (.lst []) := ⟨_, rfl⟩
  rw [← eH] at I3 I4 pg pt pe w0 n3 f3
  clear e3 e4 eH keep3 t3 ece
  have fpo : ∀ {σ' : L2.St} {H' : Hp} {t : Shared}, Inv (X.blk s3 H3 scope ce fp) [] σ' H' t → (∀ b ∈ fp, H' b = none) → ∀ b ∈ fp, FpOk (X.blk s3 H3 scope ce fp) [] H' b := fun {σ' H' t} K n b hb =>
    ⟨n b hb, (K.ok.exf b hb).1, K.ok.exfs b hb, Or.inl hb, fun x c e => (K.ok.exf b hb).2 x c e, fun p hp => by rw [List.append_nil] at hp; cases hp⟩
  refine codeAny_compStart_list ?_ (T.self X.A 0 _ _ _ t4 ?_)
  all_goals
    refine compLoop_any (fun n t => ∃ i H', Inv (X.blk s3 H3 scope ce fp) [] (wipe σ (own.map (·.2))) H' t ∧ tn i t.heap ∧ (∀ b ∈ fp, H' b = none) ∧ W i n H') ?_ m0 ⟨0, H3, I4, t4, n3, w0⟩
    rintro n t5 ⟨i, H5, I5, u5, n5, w5⟩
    rcases turn i n H5 w5 with ⟨stop, qq⟩ | ⟨go, Nx, hNx, step⟩
    · refine thnF (T.done (X.blk s3 H3 scope ce fp) rfl rfl rfl hc i [] t5 _ H5 (fun _ _ => False) I5 (fpo I5 n5) u5 stop) fun r t6 ⟨hr, I6⟩ => ?_
      subst hr
      have IX : Inv X pins σ H5 t6 := I3.call' (ch := fp) I6.os I6.base I6.hok I6.bare fun b hb => ⟨(f3 b hb).2.2.2.1, (f3 b hb).2.1, (f3 b hb).2.2.2.2.1, (f3 b hb).2.2.2.2.2⟩
      have nC : H5 ce.locals = none := I6.free
      obtain ⟨m, hn, _⟩ := I6.loc
      refine ⟨m, hn, fun g sm => ?_⟩
      obtain ⟨a0, a1, a2, a3, a4, a5⟩ := I3.fpOk (Nat.le_of_eq cL.symm) nC
      exact ⟨.ref D, H5, IX.turned (t' := t6.toks) (fun b o nb e => (sm.2 b nb).trans e) a0 a1 a3 a4 a5, rfl, qq⟩
    · refine thnF (T.item (X.blk s3 H3 scope ce fp) rfl rfl rfl hc i [] t5 _ H5 (fun _ _ => False) I5 (fpo I5 n5) u5 go) fun r t6 ⟨u, hr, a6⟩ => ?_
      subst hr
      refine thnF a6 fun _ t7 ⟨x, H7, I7, r7, y7, u7, n7⟩ => ?_
      have I7' := I7.pinned (fpo I7 n7) (T.obj _ _ u7)
      refine thnF (pg.run _ t7 _ H7 x u _ I7' r7 (step x H7 y7)) fun _ t8 ⟨σ8, H8, I8, hw8, q8⟩ => ?_
      refine thnF (pt.run _ t8 σ8 H8 _ I8 q8) fun b t9 ⟨H9, I9, q9⟩ => ?_
      have next : ∀ {t : Shared} {H' : Hp}, Inv (X.blk s3 H3 scope ce fp) ([] ++ pinsAt fp t7.heap) σ8 H' t → Nx H' → ∃ m, m < n ∧ ∃ i H', Inv (X.blk s3 H3 scope ce fp) [] (wipe σ (own.map (·.2))) H' t ∧ tn i t.heap ∧ (∀ b ∈ fp, H' b = none) ∧ W i m H' := fun {t H'} K nx => by
        obtain ⟨m', hm, wm⟩ := hNx H' nx
        have pn : ∀ b ∈ fp, ∀ o, t7.heap.get? b = some o → t.heap.get? b = some o ∧ H' b = none := fun b hb o e =>
          ⟨(K.pin (b, o) (List.mem_append_right _ (List.mem_append_right _ (mem_pinsAt hb e)))).1, (K.pin (b, o) (List.mem_append_right _ (List.mem_append_right _ (mem_pinsAt hb e)))).2.1⟩
        refine ⟨m', hm, i + 1, H', Inv.weak (Inv.unpinned (pins := []) K) (by rw [← hw8, wipe_length]) (fun j v e => ?_), T.keep _ _ _ u7 fun b hb o e => (pn b hb o e).1, fun b hb => ?_, wm⟩
        · rw [← hw8] at e
          exact (wipe_some e).1
        · obtain ⟨o, e, _⟩ := T.obj _ _ u7 b hb
          exact (pn b hb o e).2
      cases b with
      | false =>
        rw [if_neg (by decide)] at q9 ⊢
        exact next I9 q9
      | true =>
        rw [if_pos rfl] at q9 ⊢
        refine wpAny_mono ((pe (fun u t => ∃ (pb : List (Addr × Obj)) (σb : L2.St) (Hb : Hp) (sb : Shared), Inv (X.blk s3 H3 scope ce fp) pb σb Hb sb ∧ CX X.prog X.w X.stack Hb sb E u t) fun pb σb Hb sb u t K c => ⟨pb, σb, Hb, sb, Inv.wish' K, c⟩).run _ t9 σ8 H9 _ (Inv.wish I9 _) q9) (fun z t10 ⟨yv, H10, I10, r10, acc, d10, l10, nx⟩ => ?_) fun u t ⟨pb, σb, Hb, sb, K, c⟩ => ?_
        · exact app_ok (X := X.blk s3 H3 scope ce fp) (Inv.wish' I10) d10 l10 r10 fun t11 I11 => next I11 nx
        · exact blk_err hs hf tk I3 f3 cF cL K c
end My

/-! texts of many lines -/
namespace My
open PySem L2
def lnf : Str := Str.ofString "\n"
/-- the lines of a text -/
abbrev lines (z : Str) : List Str := Txt.split z lnf
theorem cds_lnf : cds lnf = [10] := by decide +kernel
theorem lines_join {ls : List Str} (ne : ls ≠ []) (h : ∀ z ∈ ls, 10 ∉ cds z) : lines (Txt.join lnf ls) = ls := by
  have e1 : lnf = SX.S [10] := cds_inj (by rw [cds_lnf])
  have e2 : (ls.map cds).map SX.S = ls := by
    rw [List.map_map]
    exact (List.map_congr_left fun z _ => SX.S_tl z).trans (List.map_id ls)
  have e3 : Txt.join lnf ls = SX.S (TL.joinL [10] (ls.map cds)) := by
    rw [e1, ← SX.join_S, e2]
  unfold lines
  rw [e3, e1, SX.split_S (by decide) (by decide), SX.spl_join (c := 10) (sep := []) (by intro z; exact ne (List.map_eq_nil_iff.mp z)) fun p hp => by
    obtain ⟨w, hw, rfl⟩ := List.mem_map.mp hp
    exact h w hw]
  exact e2
theorem mem_joinL {c s : Nat} : ∀ {ps : List (List Nat)}, c ∈ TL.joinL [s] ps → c = s ∨ ∃ p ∈ ps, c ∈ p
  | [], h => by cases h
  | [p], h => .inr ⟨p, List.mem_singleton_self _, h⟩
  | p :: q :: r, h => by
    have h : c ∈ p ++ ([s] ++ TL.joinL [s] (q :: r)) := by
      simpa [TL.joinL, List.append_assoc] using h
    rcases List.mem_append.mp h with h | h
    · exact .inr ⟨p, List.mem_cons_self, h⟩
    · rcases List.mem_append.mp h with h | h
      · exact .inl (List.mem_singleton.mp h)
      · rcases mem_joinL h with h | ⟨x, hx, h⟩
        · exact .inl h
        · exact .inr ⟨x, List.mem_cons_of_mem _ hx, h⟩
theorem mem_flat : ∀ {qs : AL} {w : Str}, w ∈ flat qs → ∃ p ∈ qs, w = Str.ofString (toString p.2) ∨ w = p.1
  | [], _, h => by cases h
  | p :: r, w, h => by
    rcases List.mem_cons.mp h with h | h
    · exact ⟨p, List.mem_cons_self, .inl h⟩
    · rcases List.mem_cons.mp h with h | h
      · exact ⟨p, List.mem_cons_self, .inr h⟩
      · obtain ⟨q, hq, z⟩ := mem_flat h
        exact ⟨q, List.mem_cons_of_mem _ hq, z⟩
theorem ltx_nl {qs : AL} (hne : qs ≠ []) (h : ∀ p ∈ qs, 0 < p.2 ∧ p.2 < 10 ^ 20 ∧ KindS p.1) : 10 ∉ cds (ltx qs) := fun m => by
  rw [ltx_flat hne, cds_joinw] at m
  rcases mem_joinL m with m | ⟨p, hp, m⟩
  · exact absurd m (by decide)
  · obtain ⟨w, hw, rfl⟩ := List.mem_map.mp hp
    obtain ⟨q, hq, e | e⟩ := mem_flat hw
    · have := (many_num (h q hq).1 (h q hq).2.1).1.2.2.2 10 (by rw [← e]; exact m)
      omega
    · rw [e] at m
      exact kind_free (h q hq).2.2 (by decide) m
theorem ltx_ch {qs : AL} (hne : qs ≠ []) (h : ∀ p ∈ qs, 0 < p.2 ∧ p.2 < 10 ^ 20 ∧ KindS p.1) : ∀ c ∈ cds (ltx qs), c < 128 := fun c m => by
  rw [ltx_flat hne, cds_joinw] at m
  rcases mem_joinL m with rfl | ⟨p, hp, m⟩
  · decide
  · obtain ⟨w, hw, rfl⟩ := List.mem_map.mp hp
    obtain ⟨q, hq, e | e⟩ := mem_flat hw
    · have := (many_num (h q hq).1 (h q hq).2.1).1.2.2.2 c (by rw [← e]; exact m)
      omega
    · rw [e] at m
      have := (h q hq).2.2.2.2 c m
      omega
theorem join_size {ls : List Str} {n : Nat} (h : ∀ z ∈ ls, z.length ≤ n) : (Txt.join lnf ls).length ≤ ls.length * (n + 1) := by
  rw [TL.join_eq]
  have h1 := StrLaws.join_length_le lnf ls
  have n1 : lnf.length = 1 := by decide +kernel
  rw [n1] at h1
  have : (ls.map (·.length)).sum ≤ ls.length * n := by
    clear h1
    induction ls with
    | nil => exact Nat.zero_le _
    | cons y r ih =>
      have a1 := ih fun s hs => h s (List.mem_cons_of_mem _ hs)
      have a2 := h y List.mem_cons_self
      rw [List.map_cons, List.sum_cons, List.length_cons, Nat.succ_mul]
      omega
  rw [Nat.mul_succ]
  omega
end My

/-! the same with more clauses behind it that are never reached -/
namespace My
open PySem PySem.Spec PyProof.Rows L2
theorem ps_try_as12r {X : Cx} {x y n n2 : Str} {c c2 : Value} {i i2 : Nat} {body suite suite2 : List Stmt} {b₀ b2 : Stmt} {np np2 pos pos' pos2 : Pos} {rest : List ExceptHandler} {tb : WX → TS} {ts ts2 : Addr → TS} (hs : X.stack = X.env :: X.outer) (hf : X.env.frame = some X.env.locals) (hN : X.N.Nodup) (hi : X.N[i]? = some n) (hln : X.env.kindOf n = some NameKind.local) (hi2 : X.N[i2]? = some n2) (hln2 : X.env.kindOf n2 = some NameKind.local)
    (hg : Gl X x) (hdb : (x == ("__debug__" : Str)) = false) (hmg : X.mg x = some c) (hg2 : Gl X y) (hdb2 : (y == ("__debug__" : Str)) = false) (hmg2 : X.mg y = some c2) (hex : X.ex = [])
    (hb : ∀ (W : WX) (pn : List (Addr × Obj)) (xe : Value → Shared → Prop), Takes (X.tr pn xe) W → PassesOwn (model X.prog X.w) X.A X.env xe → PSs (X.tr pn xe) body (tb W))
    (hsu : ∀ (a : Addr) (oe : Obj) (cls : Value) (d : Option Addr) (pn : List (Addr × Obj)), Zc cls d oe → (∃ vs, oe.data = Data.fields vs) → PSs (X.suite a ((a, oe) :: pn)) (b₀ :: suite) (ts a))
    (hsu2 : ∀ (a : Addr) (oe : Obj) (cls : Value) (d : Option Addr) (pn : List (Addr × Obj)), Zc cls d oe → (∃ vs, oe.data = Data.fields vs) → PSs (X.suite a ((a, oe) :: pn)) (b2 :: suite2) (ts2 a)) :
    PS X (.Try body (.ExceptHandler (some (.Name x np)) (some n) (b₀ :: suite) pos' :: .ExceptHandler (some (.Name y np2)) (some n2) (b2 :: suite2) pos2 :: rest) [] [] pos) (fun D σ H => tb (w12 X.K c c2 i i2 ts ts2 D) D σ H) := by
  refine ⟨fun pins s σ H D I h => ?_⟩
  have ok := I.ok
  have hfr : X.A.frames = some (X.env :: X.outer) := by rw [ok.frames, hs]
  refine wpAny_Try_except (wpAny_mono ((hb (w12 X.K c c2 i i2 ts ts2 D) (X.pn ++ pins) _ ?_ PassesOwn.looking).run [] s σ H D (Inv.toTry I _) h) ?_ fun e s1 he => he)
  · rintro u s' ⟨a, B, sI, pins', σ', H', cls', d, rfl, J', nb, up, sky, na, os, ag, hy⟩
    have J := Inv.ofTry J' ok
    have sky' : Sky B (X.env :: X.outer) a (Zc cls' d) X.env.locals s'.heap := by rw [← hs]; exact sky
    refine Sky.land Zc.steady hfr hf sky' fun h3 fl3 up3 => ?_
    have J3 := Inv.landed (s' := { s' with heap := h3 }) J nb fl3.1 (up.trans up3) os ag
    obtain ⟨oe3, vs3, he3, hz3, hd3⟩ := HandSPX.FlyingZ.there fl3
    have nfr : a ∉ List.filterMap (fun x => x.frame) (X.env :: X.outer) := fun hm' => by
      obtain ⟨_, o', e', hnf⟩ := Heap.FunFrames.mem fl3.2.2.1 hm'
      rw [he3] at e'
      cases e'
      exact hnf vs3 hd3
    have nL : a ≠ X.env.locals := fun z => nfr (List.mem_filterMap.mpr ⟨X.env, List.mem_cons_self, by rw [hf, z]⟩)
    have nF : a ∉ X.fs := fun hm' => by
      obtain ⟨e, he, q⟩ := List.mem_filterMap.mp hm'
      exact nfr (List.mem_filterMap.mpr ⟨e, List.mem_cons_of_mem _ he, q⟩)
    have S3 := Inv.suite J3 he3 hd3 na nL nF
    have aB : B.get? a = none := fl3.2.1
    have fra : a ∉ frs X.stack := by rw [hs]; exact nfr
    have aI : sI.heap.get? a = none := by
      cases e : sI.heap.get? a with
      | none => rfl
      | some o => rw [nb a o e fra] at aB; cases aB
    have h0 : X.s_0.heap.get? a = none := by
      cases e : X.s_0.heap.get? a with
      | none => rfl
      | some o =>
        by_cases hx : a ∈ X.ex
        · rw [hex] at hx; cases hx
        · obtain ⟨o', e'⟩ := J.base.there a o e hx
          rw [aI] at e'
          cases e'
    have hne : ∀ p ∈ X.pn ++ pins, p.1 ≠ a := fun p hp z => by
      have := (J.pin p hp).1
      rw [z, aI] at this
      cases this
    have LT : PySem.W.Looks (model X.prog X.w) h3 (typeOf (.ref a)) cls' := fun A Q E s hk hq => by
      refine wpAny_typeOf_ref (hk a oe3 he3) ?_
      rw [hz3.1]
      exact hq
    rcases hy with ⟨hm, hy⟩ | ⟨hm1, hm, hy⟩
    · refine wpAny_handleBy_cons (codeAny_handlers_test ?_) (by intro z; cases z)
      refine ld_glob (X := X.suite a ((a, oe3) :: (X.pn ++ pins))) S3 hg hmg ?_ hdb
      refine PySem.W.Looks.here (PySem.W.exm_one S3.kIn LT hm) ?_
      refine codeAny_handlers_suite_as (HandSPX.lands_againZ fl3 fun h4 fl4 up4 => ?_)
      have J4 := Inv.landed (s' := { s' with heap := h4 }) J nb fl4.1 ((up.trans up3).trans up4) os ag
      obtain ⟨oe4, vs4, he4, hz4, hd4⟩ := HandSPX.FlyingZ.there fl4
      have S4 := Inv.suite J4 he4 hd4 na nL nF
      refine store_ok (X := X.suite a ((a, oe4) :: (X.pn ++ pins))) (v := .ref a) S4 hN hi (Or.inl hln) rfl (fun s5 S5 => ?_) (Or.inr hln)
      refine wpAny_mono ((hsu a oe4 cls' d (X.pn ++ pins) hz4 ⟨vs4, hd4⟩).run [] s5 _ H' _ S5 (hy a na)) ?_ fun e s he => he.elim
      intro f s6 hsp
      cases f with
      | next =>
        obtain ⟨σ6, H6, S6, hq⟩ := hsp
        have S6' := unsuite2 S6 ok
        refine gone_ok S6' hN hi hln fun s7 S7 => ⟨_, _, trackD S7 h0 hz4 hd4 hne, hq ?_⟩
        exact (S7.pin (a, oe4) (List.mem_append_right _ List.mem_cons_self)).2.1
      | brk =>
        obtain ⟨σ6, H6, S6, hq⟩ := hsp
        exact gone_ok (Inv.unsuite S6 ok) hN hi hln fun s7 S7 => ⟨_, _, S7, hq⟩
      | cont =>
        obtain ⟨σ6, H6, S6, hq⟩ := hsp
        exact gone_ok (Inv.unsuite S6 ok) hN hi hln fun s7 S7 => ⟨_, _, S7, hq⟩
      | ret v =>
        obtain ⟨v', σ6, H6, S6, r, hq⟩ := hsp
        exact gone_ok (Inv.unsuite S6 ok) hN hi hln fun s7 S7 => ⟨v', _, _, S7, r, hq⟩
    · refine wpAny_handleBy_cons (codeAny_handlers_test ?_) (by intro z; cases z)
      refine ld_glob (X := X.suite a ((a, oe3) :: (X.pn ++ pins))) S3 hg hmg ?_ hdb
      refine PySem.W.Looks.here (PySem.W.exm_one S3.kIn LT hm1) ?_
      show wpAny _ X.A (handleBy (.ref a) X.env _) _ _ _
      refine wpAny_handleBy_cons (codeAny_handlers_test ?_) (by intro z; cases z)
      refine ld_glob (X := X.suite a ((a, oe3) :: (X.pn ++ pins))) S3 hg2 hmg2 ?_ hdb2
      refine PySem.W.Looks.here (PySem.W.exm_one S3.kIn LT hm) ?_
      refine codeAny_handlers_suite_as (HandSPX.lands_againZ fl3 fun h4 fl4 up4 => ?_)
      have J4 := Inv.landed (s' := { s' with heap := h4 }) J nb fl4.1 ((up.trans up3).trans up4) os ag
      obtain ⟨oe4, vs4, he4, hz4, hd4⟩ := HandSPX.FlyingZ.there fl4
      have S4 := Inv.suite J4 he4 hd4 na nL nF
      refine store_ok (X := X.suite a ((a, oe4) :: (X.pn ++ pins))) (v := .ref a) S4 hN hi2 (Or.inl hln2) rfl (fun s5 S5 => ?_) (Or.inr hln2)
      refine wpAny_mono ((hsu2 a oe4 cls' d (X.pn ++ pins) hz4 ⟨vs4, hd4⟩).run [] s5 _ H' _ S5 (hy a na)) ?_ fun e s he => he.elim
      intro f s6 hsp
      cases f with
      | next =>
        obtain ⟨σ6, H6, S6, hq⟩ := hsp
        have S6' := unsuite2 S6 ok
        refine gone_ok S6' hN hi2 hln2 fun s7 S7 => ⟨_, _, trackD S7 h0 hz4 hd4 hne, hq ?_⟩
        exact (S7.pin (a, oe4) (List.mem_append_right _ List.mem_cons_self)).2.1
      | brk =>
        obtain ⟨σ6, H6, S6, hq⟩ := hsp
        exact gone_ok (Inv.unsuite S6 ok) hN hi2 hln2 fun s7 S7 => ⟨_, _, S7, hq⟩
      | cont =>
        obtain ⟨σ6, H6, S6, hq⟩ := hsp
        exact gone_ok (Inv.unsuite S6 ok) hN hi2 hln2 fun s7 S7 => ⟨_, _, S7, hq⟩
      | ret v =>
        obtain ⟨v', σ6, H6, S6, r, hq⟩ := hsp
        exact gone_ok (Inv.unsuite S6 ok) hN hi2 hln2 fun s7 S7 => ⟨v', _, _, S7, r, hq⟩
  · intro f s1 hsp
    cases f with
    | next =>
      obtain ⟨σ', H', J', q⟩ := hsp
      exact wpAny_execs_nil ⟨σ', H', Inv.ofTry J' ok, q⟩
    | brk =>
      obtain ⟨σ', H', J', q⟩ := hsp
      exact ⟨σ', H', Inv.ofTry J' ok, q⟩
    | cont =>
      obtain ⟨σ', H', J', q⟩ := hsp
      exact ⟨σ', H', Inv.ofTry J' ok, q⟩
    | ret v =>
      obtain ⟨v', σ', H', J', r, q⟩ := hsp
      exact ⟨v', σ', H', Inv.ofTry J' ok, r, q⟩
end My

set_option linter.unusedSimpArgs false
set_option linter.unusedVariables false
/-! lines that write no opening -/
namespace My
open PySem L2
/-- a text's size: signs, blanks; no line feed -/
structure Sz (z : Str) (n m : Nat) : Prop where
  ln : (cds z).length ≤ n
  nl : 10 ∉ cds z
  sp : (cds z).count 32 ≤ m
  ch : ∀ c ∈ cds z, c < 1114112
theorem Sz.app {a b : Str} {n m n' m' : Nat} (h : Sz a n m) (g : Sz b n' m') : Sz (a ++ b) (n + n') (m + m') := by
  have l1 := h.ln
  have l2 := g.ln
  have s1 := h.sp
  have s2 := g.sp
  refine ⟨?_, ?_, ?_, fun c hc => ?_⟩
  · rw [cds_app, List.length_append]; omega
  · rw [cds_app, List.mem_append]; exact fun z => z.elim h.nl g.nl
  · rw [cds_app, List.count_append]; omega
  · rw [cds_app] at hc
    exact (List.mem_append.mp hc).elim (h.ch c) (g.ch c)
theorem Sz.kind {k : Str} (h : KindS k) : Sz k 8 0 := ⟨h.2.1, kind_free h (by decide), by rw [List.count_eq_zero.mpr (kind_free h (by decide))]; exact Nat.le_refl _, fun c hc => by have := h.2.2 c hc; omega⟩
theorem Sz.lit {s : String} (h : 10 ∉ cds (Str.ofString s) ∧ ∀ c ∈ cds (Str.ofString s), c < 1114112) : Sz (Str.ofString s) (cds (Str.ofString s)).length ((cds (Str.ofString s)).count 32) := ⟨Nat.le_refl _, h.1, Nat.le_refl _, h.2⟩
def BadT (z : Str) : Prop := BadL z ∧ ∃ n m, Sz z n m ∧ n ≤ 60 ∧ m ≤ 20
theorem kind_many {k : Str} (h : KindS k) : ¬ ManyS k := fun m => by
  obtain ⟨c, r, e⟩ := List.exists_cons_of_length_pos (Nat.lt_of_lt_of_le Nat.zero_lt_one h.1)
  have hc : c ∈ cds k := by rw [e]; exact List.mem_cons_self
  have h1 := h.2.2 c hc
  have h2 := m.2.2.2 c hc
  omega
theorem long_kind : ¬ KindS (Str.ofString "abcdefghi") := fun h => absurd h.2.1 (by decide +kernel)
theorem lit (s : String) : cds (Str.ofString s) = s.toList.map (·.toNat) := by
  exact TL.tl_ofString s
theorem BadT.mk {z : Str} {n m : Nat} (h : BadL z) (s : Sz z n m) (hn : n ≤ 60) (hm : m ≤ 20) : BadT z := ⟨h, n, m, s, hn, hm⟩
local macro_rules | `(tactic| walk_at "szt") => `(tactic| ((repeat' (first | ((with_reducible apply Sz.kind); assumption) | (with_reducible apply Sz.app) | ((with_reducible apply Sz.lit); decide +kernel))); (all_goals decide +kernel)))
theorem bl1 : BadL (Str.ofString "") := .inr (.inl fun h => absurd h.1 (by decide +kernel))
theorem bl2 : BadL (Str.ofString "-") := bad_first (c := 45) (t := []) (by decide +kernel) (by decide)
theorem bl3 {a : Str} (ha : KindS a) : BadL a := by
  refine .inr (.inr ?_)
  rw [TL.partition_none (s := 32) (S := [61, 32]) cds_eqs (kind_free ha (by decide))]
  exact not_even (b := []) rfl
theorem bl4 {a : Str} (ha : KindS a) : BadL (a ++ Str.ofString " = ") := by
  have l0 : cds (Str.ofString " = ") = [32, 61, 32] := by decide +kernel
  refine bad_rest (k := a) (b := []) (by simp only [cds_app, l0, List.append_assoc, List.cons_append, List.nil_append]) ha (not_even ?_)
  have q : ∀ {k : Str}, KindS k → (cds k).count 32 = 0 := fun h => List.count_eq_zero.mpr (kind_free h (by decide))
  simp only [List.count_cons, List.count_append, List.count_nil]
  all_goals decide
theorem bl5 {a : Str} (ha : KindS a) : BadL (a ++ Str.ofString " = -") := by
  have l0 : cds (Str.ofString " = -") = [32, 61, 32, 45] := by decide +kernel
  exact bad_dash (k := a) (by simp only [cds_app, l0]) ha
theorem bl6 {a : Str} (ha : KindS a) : BadL (a ++ Str.ofString " = 2") := by
  have l0 : cds (Str.ofString " = 2") = [32, 61, 32, 50] := by decide +kernel
  refine bad_rest (k := a) (b := [50]) (by simp only [cds_app, l0, List.append_assoc, List.cons_append, List.nil_append]) ha (not_even ?_)
  have q : ∀ {k : Str}, KindS k → (cds k).count 32 = 0 := fun h => List.count_eq_zero.mpr (kind_free h (by decide))
  simp only [List.count_cons, List.count_append, List.count_nil]
  all_goals decide
theorem bl7 {a b : Str} (ha : KindS a) (hb : KindS b) : BadL ((a ++ Str.ofString " =  2 ") ++ b) := by
  have l0 : cds (Str.ofString " =  2 ") = [32, 61, 32, 32, 50, 32] := by decide +kernel
  refine bad_rest (k := a) (b := 32 :: 50 :: 32 :: cds b) (by simp only [cds_app, l0, List.append_assoc, List.cons_append, List.nil_append]) ha (not_even ?_)
  have q : ∀ {k : Str}, KindS k → (cds k).count 32 = 0 := fun h => List.count_eq_zero.mpr (kind_free h (by decide))
  simp only [List.count_cons, List.count_append, List.count_nil, q hb]
  all_goals decide
theorem bl8 {a b : Str} (ha : KindS a) (hb : KindS b) : BadL ((a ++ Str.ofString " = 02 ") ++ b) := by
  have l0 : cds (Str.ofString " = 02 ") = [32, 61, 32, 48, 50, 32] := by decide +kernel
  exact bad_rest (k := a) (b := [48, 50] ++ 32 :: cds b) (by simp only [cds_app, l0, List.append_assoc, List.cons_append, List.nil_append]) ha (no_many (u := SX.S [48, 50]) (v := b) rfl (by decide) (kind_free hb (by decide)) (.inl fun m => m.2.2.1 rfl))
theorem bl9 {a b : Str} (ha : KindS a) (hb : KindS b) : BadL ((a ++ Str.ofString " = 0 ") ++ b) := by
  have l0 : cds (Str.ofString " = 0 ") = [32, 61, 32, 48, 32] := by decide +kernel
  exact bad_rest (k := a) (b := [48] ++ 32 :: cds b) (by simp only [cds_app, l0, List.append_assoc, List.cons_append, List.nil_append]) ha (no_many (u := SX.S [48]) (v := b) rfl (by decide) (kind_free hb (by decide)) (.inl fun m => m.2.2.1 rfl))
theorem bl10 {a b : Str} (ha : KindS a) (hb : KindS b) : BadL (((a ++ Str.ofString " = 2 ") ++ b) ++ Str.ofString " ") := by
  have l0 : cds (Str.ofString " = 2 ") = [32, 61, 32, 50, 32] := by decide +kernel
  have l1 : cds (Str.ofString " ") = [32] := by decide +kernel
  refine bad_rest (k := a) (b := 50 :: 32 :: (cds b ++ [32])) (by simp only [cds_app, l0, l1, List.append_assoc, List.cons_append, List.nil_append]) ha (not_even ?_)
  have q : ∀ {k : Str}, KindS k → (cds k).count 32 = 0 := fun h => List.count_eq_zero.mpr (kind_free h (by decide))
  simp only [List.count_cons, List.count_append, List.count_nil, q hb]
  all_goals decide
theorem bl11 {a b : Str} (ha : KindS a) (hb : KindS b) : BadL (((Str.ofString " " ++ a) ++ Str.ofString " = 2 ") ++ b) := by
  have l0 : cds (Str.ofString " ") = [32] := by decide +kernel
  have l1 : cds (Str.ofString " = 2 ") = [32, 61, 32, 50, 32] := by decide +kernel
  exact bad_first (c := 32) (t := cds a ++ 32 :: 61 :: 32 :: 50 :: 32 :: cds b) (by simp only [cds_app, l0, l1, List.append_assoc, List.cons_append, List.nil_append]) (by decide)
theorem bl12 {a b : Str} (ha : KindS a) (hb : KindS b) : BadL ((a ++ Str.ofString "= 2 ") ++ b) := by
  have l0 : cds (Str.ofString "= 2 ") = [61, 32, 50, 32] := by decide +kernel
  exact bad_at (p := cds a) (c := 61) (t := 32 :: 50 :: 32 :: cds b) (by simp only [cds_app, l0, List.append_assoc, List.cons_append, List.nil_append]) ha.2.2 (by decide) fun u z => absurd (List.cons.inj z).1 (by decide)
theorem bl13 {a b : Str} (ha : KindS a) (hb : KindS b) : BadL (((a ++ Str.ofString " = ") ++ b) ++ Str.ofString " 2") := by
  have l0 : cds (Str.ofString " = ") = [32, 61, 32] := by decide +kernel
  have l1 : cds (Str.ofString " 2") = [32, 50] := by decide +kernel
  exact bad_rest (k := a) (b := cds b ++ 32 :: [50]) (by simp only [cds_app, l0, l1, List.append_assoc, List.cons_append, List.nil_append]) ha (no_many (u := b) (v := SX.S [50]) rfl (kind_free hb (by decide)) (by decide) (.inl (kind_many hb)))
theorem bl14 {a c d : Str} (ha : KindS a) (hc : KindS c) (hd : KindS d) (nl : ¬ cds c < cds d) : BadL ((((a ++ Str.ofString " = 1 ") ++ c) ++ Str.ofString " 1 ") ++ d) := by
  have l0 : cds (Str.ofString " = 1 ") = [32, 61, 32, 49, 32] := by decide +kernel
  have l1 : cds (Str.ofString " 1 ") = [32, 49, 32] := by decide +kernel
  exact bad_rest (k := a) (b := [49] ++ 32 :: (cds c ++ 32 :: ([49] ++ 32 :: cds d))) (by simp only [cds_app, l0, l1, List.append_assoc, List.cons_append, List.nil_append]) ha (no_asc (x := SX.S [49]) (u := c) (y := SX.S [49]) (v := d) rfl (by decide) (kind_free hc (by decide)) (by decide) (kind_free hd (by decide)) nl)
theorem bl16 {b : Str} (hb : KindS b) : BadL (Str.ofString "- = 1 " ++ b) := by
  have l0 : cds (Str.ofString "- = 1 ") = [45, 32, 61, 32, 49, 32] := by decide +kernel
  exact bad_first (c := 45) (t := 32 :: 61 :: 32 :: 49 :: 32 :: cds b) (by simp only [cds_app, l0, List.append_assoc, List.cons_append, List.nil_append]) (by decide)
theorem bl17 {a b : Str} (ha : KindS a) (hb : KindS b) : BadL (((Str.ofString "1 " ++ a) ++ Str.ofString " = 1 ") ++ b) := by
  have l0 : cds (Str.ofString "1 ") = [49, 32] := by decide +kernel
  have l1 : cds (Str.ofString " = 1 ") = [32, 61, 32, 49, 32] := by decide +kernel
  exact bad_first (c := 49) (t := 32 :: (cds a ++ 32 :: 61 :: 32 :: 49 :: 32 :: cds b)) (by simp only [cds_app, l0, l1, List.append_assoc, List.cons_append, List.nil_append]) (by decide)
theorem bl18 {b : Str} (hb : KindS b) : BadL (Str.ofString " = 1 " ++ b) := by
  have l0 : cds (Str.ofString " = 1 ") = [32, 61, 32, 49, 32] := by decide +kernel
  exact bad_first (c := 32) (t := 61 :: 32 :: 49 :: 32 :: cds b) (by simp only [cds_app, l0, List.append_assoc, List.cons_append, List.nil_append]) (by decide)
theorem bl19 {b : Str} (hb : KindS b) : BadL (Str.ofString "abcdefghi = 1 " ++ b) := by
  have l0 : cds (Str.ofString "abcdefghi = 1 ") = [97, 98, 99, 100, 101, 102, 103, 104, 105, 32, 61, 32, 49, 32] := by decide +kernel
  have l1 : cds (Str.ofString "abcdefghi") = [97, 98, 99, 100, 101, 102, 103, 104, 105] := by decide +kernel
  exact bad_kind (k := Str.ofString "abcdefghi") (b := 49 :: 32 :: cds b) (by simp only [cds_app, l0, l1, List.append_assoc, List.cons_append, List.nil_append]) (by rw [l1]; decide) long_kind
theorem bl20 {a b c : Str} (ha : KindS a) (hb : KindS b) (hc : KindS c) : BadL ((((a ++ Str.ofString " = 1 ") ++ b) ++ Str.ofString " = 1 ") ++ c) := by
  have l0 : cds (Str.ofString " = 1 ") = [32, 61, 32, 49, 32] := by decide +kernel
  refine bad_rest (k := a) (b := 49 :: 32 :: (cds b ++ 32 :: 61 :: 32 :: 49 :: 32 :: cds c)) (by simp only [cds_app, l0, List.append_assoc, List.cons_append, List.nil_append]) ha (not_even ?_)
  have q : ∀ {k : Str}, KindS k → (cds k).count 32 = 0 := fun h => List.count_eq_zero.mpr (kind_free h (by decide))
  simp only [List.count_cons, List.count_append, List.count_nil, q hb, q hc]
  all_goals decide
theorem bl21 {a b : Str} (ha : KindS a) (hb : KindS b) : BadL ((a ++ Str.ofString " = -1 ") ++ b) := by
  have l0 : cds (Str.ofString " = -1 ") = [32, 61, 32, 45, 49, 32] := by decide +kernel
  exact bad_rest (k := a) (b := [45, 49] ++ 32 :: cds b) (by simp only [cds_app, l0, List.append_assoc, List.cons_append, List.nil_append]) ha (no_many (u := SX.S [45, 49]) (v := b) rfl (by decide) (kind_free hb (by decide)) (.inl fun m => absurd (m.2.2.2 45 (by decide)) (by decide)))
theorem bl22 {b : Str} (hb : KindS b) : BadL (Str.ofString "A = 1 " ++ b) := by
  have l0 : cds (Str.ofString "A = 1 ") = [65, 32, 61, 32, 49, 32] := by decide +kernel
  exact bad_first (c := 65) (t := 32 :: 61 :: 32 :: 49 :: 32 :: cds b) (by simp only [cds_app, l0, List.append_assoc, List.cons_append, List.nil_append]) (by decide)
theorem bl23 {a : Str} (ha : KindS a) : BadL (a ++ Str.ofString " = 2 abcdefghi") := by
  have l0 : cds (Str.ofString " = 2 abcdefghi") = [32, 61, 32, 50, 32, 97, 98, 99, 100, 101, 102, 103, 104, 105] := by decide +kernel
  have l1 : cds (Str.ofString "abcdefghi") = [97, 98, 99, 100, 101, 102, 103, 104, 105] := by decide +kernel
  exact bad_rest (k := a) (b := [50] ++ 32 :: cds (Str.ofString "abcdefghi")) (by simp only [cds_app, l0, l1, List.append_assoc, List.cons_append, List.nil_append]) ha (no_many (u := SX.S [50]) (v := Str.ofString "abcdefghi") rfl (by decide) (by rw [l1]; decide) (.inr long_kind))
theorem bl24 {a b : Str} (ha : KindS a) (hb : KindS b) : BadL ((a ++ Str.ofString " = 2  ") ++ b) := by
  have l0 : cds (Str.ofString " = 2  ") = [32, 61, 32, 50, 32, 32] := by decide +kernel
  refine bad_rest (k := a) (b := 50 :: 32 :: 32 :: cds b) (by simp only [cds_app, l0, List.append_assoc, List.cons_append, List.nil_append]) ha (not_even ?_)
  have q : ∀ {k : Str}, KindS k → (cds k).count 32 = 0 := fun h => List.count_eq_zero.mpr (kind_free h (by decide))
  simp only [List.count_cons, List.count_append, List.count_nil, q hb]
  all_goals decide
theorem bl25 {a b c : Str} (ha : KindS a) (hb : KindS b) (hc : KindS c) : BadL ((((a ++ Str.ofString " = 1 ") ++ b) ++ Str.ofString "  1 ") ++ c) := by
  have l0 : cds (Str.ofString " = 1 ") = [32, 61, 32, 49, 32] := by decide +kernel
  have l1 : cds (Str.ofString "  1 ") = [32, 32, 49, 32] := by decide +kernel
  refine bad_rest (k := a) (b := 49 :: 32 :: (cds b ++ 32 :: 32 :: 49 :: 32 :: cds c)) (by simp only [cds_app, l0, l1, List.append_assoc, List.cons_append, List.nil_append]) ha (not_even ?_)
  have q : ∀ {k : Str}, KindS k → (cds k).count 32 = 0 := fun h => List.count_eq_zero.mpr (kind_free h (by decide))
  simp only [List.count_cons, List.count_append, List.count_nil, q hb, q hc]
  all_goals decide
theorem bl26 {a b : Str} (ha : KindS a) (hb : KindS b) : BadL ((a ++ Str.ofString "\t= 1 ") ++ b) := by
  have l0 : cds (Str.ofString "\t= 1 ") = [9, 61, 32, 49, 32] := by decide +kernel
  exact bad_at (p := cds a) (c := 9) (t := 61 :: 32 :: 49 :: 32 :: cds b) (by simp only [cds_app, l0, List.append_assoc, List.cons_append, List.nil_append]) ha.2.2 (by decide) fun u z => absurd (List.cons.inj z).1 (by decide)
theorem bl27 {a b c : Str} (ha : KindS a) (hb : KindS b) (hc : KindS c) : BadL ((((a ++ Str.ofString " 1 ") ++ b) ++ Str.ofString " = 1 ") ++ c) := by
  have l0 : cds (Str.ofString " 1 ") = [32, 49, 32] := by decide +kernel
  have l1 : cds (Str.ofString " = 1 ") = [32, 61, 32, 49, 32] := by decide +kernel
  exact bad_at (p := cds a) (c := 32) (t := 49 :: 32 :: (cds b ++ 32 :: 61 :: 32 :: 49 :: 32 :: cds c)) (by simp only [cds_app, l0, l1, List.append_assoc, List.cons_append, List.nil_append]) ha.2.2 (by decide) fun u z => absurd (List.cons.inj (List.cons.inj z).2).1 (by decide)
/-- the bad lines of two names, a third, and the two in order -/
def bads (a b c l h : Str) : List Str :=
  (((((([Str.ofString "", Str.ofString "-", a, a ++ Str.ofString " = ", a ++ Str.ofString " = -", a ++ Str.ofString " = 2", (a ++ Str.ofString " =  2 ") ++ b] ++
    [(a ++ Str.ofString " = 02 ") ++ b, (a ++ Str.ofString " = 0 ") ++ b, ((a ++ Str.ofString " = 2 ") ++ b) ++ Str.ofString " "]) ++
    [((Str.ofString " " ++ a) ++ Str.ofString " = 2 ") ++ b, (a ++ Str.ofString "= 2 ") ++ b, ((a ++ Str.ofString " = ") ++ b) ++ Str.ofString " 2"]) ++
    [(((c ++ Str.ofString " = 1 ") ++ h) ++ Str.ofString " 1 ") ++ l, (((c ++ Str.ofString " = 1 ") ++ l) ++ Str.ofString " 1 ") ++ l]) ++
    [Str.ofString "- = 1 " ++ b, ((Str.ofString "1 " ++ a) ++ Str.ofString " = 1 ") ++ b, Str.ofString " = 1 " ++ b, Str.ofString "abcdefghi = 1 " ++ b]) ++
    [(((a ++ Str.ofString " = 1 ") ++ b) ++ Str.ofString " = 1 ") ++ c, (a ++ Str.ofString " = -1 ") ++ b, Str.ofString "A = 1 " ++ b]) ++
    [a ++ Str.ofString " = 2 abcdefghi", (a ++ Str.ofString " = 2  ") ++ b, (((a ++ Str.ofString " = 1 ") ++ l) ++ Str.ofString "  1 ") ++ h]) ++
    [(a ++ Str.ofString "\t= 1 ") ++ b, (((a ++ Str.ofString " 1 ") ++ b) ++ Str.ofString " = 1 ") ++ c]
theorem bads_bad {a b c l h : Str} (ha : KindS a) (hb : KindS b) (hc : KindS c) (hl : KindS l) (hh : KindS h) (lt : cds l < cds h) : ∀ z ∈ bads a b c l h, BadT z := by
  have n1 : ¬ cds h < cds l := fun z => List.lt_irrefl _ (List.lt_trans lt z)
  have n2 : ¬ cds l < cds l := List.lt_irrefl _
  unfold bads
  simp only [List.cons_append, List.nil_append, List.forall_mem_cons]
  refine ⟨?_, ?_, ?_, ?_, ?_, ?_, ?_, ?_, ?_, ?_, ?_, ?_, ?_, ?_, ?_, ?_, ?_, ?_, ?_, ?_, ?_, ?_, ?_, ?_, ?_, ?_, ?_, fun _ z => nomatch z⟩
  · apply BadT.mk bl1
    walk_at "szt"
  · apply BadT.mk bl2
    walk_at "szt"
  · apply BadT.mk (bl3 ha)
    walk_at "szt"
  · apply BadT.mk (bl4 ha)
    walk_at "szt"
  · apply BadT.mk (bl5 ha)
    walk_at "szt"
  · apply BadT.mk (bl6 ha)
    walk_at "szt"
  · apply BadT.mk (bl7 ha hb)
    walk_at "szt"
  · apply BadT.mk (bl8 ha hb)
    walk_at "szt"
  · apply BadT.mk (bl9 ha hb)
    walk_at "szt"
  · apply BadT.mk (bl10 ha hb)
    walk_at "szt"
  · apply BadT.mk (bl11 ha hb)
    walk_at "szt"
  · apply BadT.mk (bl12 ha hb)
    walk_at "szt"
  · apply BadT.mk (bl13 ha hb)
    walk_at "szt"
  · apply BadT.mk (bl14 hc hh hl n1)
    walk_at "szt"
  · apply BadT.mk (bl14 hc hl hl n2)
    walk_at "szt"
  · apply BadT.mk (bl16 hb)
    walk_at "szt"
  · apply BadT.mk (bl17 ha hb)
    walk_at "szt"
  · apply BadT.mk (bl18 hb)
    walk_at "szt"
  · apply BadT.mk (bl19 hb)
    walk_at "szt"
  · apply BadT.mk (bl20 ha hb hc)
    walk_at "szt"
  · apply BadT.mk (bl21 ha hb)
    walk_at "szt"
  · apply BadT.mk (bl22 hb)
    walk_at "szt"
  · apply BadT.mk (bl23 ha)
    walk_at "szt"
  · apply BadT.mk (bl24 ha hb)
    walk_at "szt"
  · apply BadT.mk (bl25 ha hl hh)
    walk_at "szt"
  · apply BadT.mk (bl26 ha hb)
    walk_at "szt"
  · apply BadT.mk (bl27 ha hb hc)
    walk_at "szt"
end My

/-! x != y of an own class that has __eq__ alone -/
namespace My
open PySem PySem.Spec PyProof.Rows PySem.W
section
variable {prog : Program} {w : World} {A : Around} {E : Value → Shared → Prop} {s : Shared} {K : PySem.W.Frag} {x y C f : Addr} {ox oy : Obj} {od od' : Option Obj}
theorem find_ne {M : Model} {zs : List Value} {Q : Option Value → Shared → Prop} (X : K.In s.heap) (I : InstAt s.heap x ox C od) (hn : findIn K (.ref C) "__ne__" = some (some (.builtin "object.__ne__")))
    (h : wpAny M A (call (.builtin "object.__ne__") (.ref x :: zs)) (fun v => Q (some v)) E s) : wpAny M A (callSpecialIfBound? (.ref x) "__ne__" zs) Q E s := by
  have done : wpAny M A (call (.builtin "object.__ne__") ([.ref x] ++ zs) >>= fun v => pure (some v)) Q E s := wpAny_bind (wpAny_mono h (fun v t z => wpAny_pure z) fun _ _ z => z)
  simp only [callSpecialIfBound?, bindSpecialIfBound?]
  refine wpAny_holding (wpAny_bind (wpAny_bind (wpAny_bind (I.type.here ((looks_findIn X hn).here (wpAny_bind (wpAny_askSetting (wpAny_ite ?_))))))))
  split <;> first
    | exact wpAny_bind (wpAny_of_eq (F.cmp_object.ne.bind _) (wpAny_pure (by exact done)))
    | exact wpAny_tryCatch (wpAny_bind (wpAny_of_eq (F.cmp_object.ne.bind _) (wpAny_pure (by exact done))))
theorem body_ne {Q : Fin → Shared → Prop} (X : K.In s.heap) (I : InstAt s.heap x ox C od) (he : findIn K (.ref C) "__eq__" = some (some (.ref f))) (hf : isFn K (.ref f) = true) (hu : A.units < cLine)
    (h : wpAny (model prog w) A (call (.ref f) [.ref x, .ref y]) (fun v t => ∃ b, v = .bool b ∧ Q (.done (.ret (.bool (!b)))) t) E s) : wpAny (model prog w) A (Builtin.«object.__ne__» ⟨[.ref x, .ref y], []⟩) Q E s := by
  unfold Builtin.«object.__ne__»
  repeat (first
    | with_reducible refine wpAny_cRoomFor hu ?_
    | (refine wpAny_bind (m := callSpecialIfBound? (.ref x) (Str.ofString "__eq__") [.ref y]) (ifBound_K X I he hf (wpAny_mono h (fun v t z => ?_) fun _ _ z => z))
       obtain ⟨b, rfl, q⟩ := z)
    | exact q
    | exact wpAny_pure q
    | (refine wpAny_bind (m := truthy (.bool _)) (wpAny_truthy_bool ?_))
    | wp_step)
theorem rich_ne {Q : Value → Shared → Prop} (hu : A.units + 1 < cLine) (X : K.In s.heap) (I : InstAt s.heap x ox C od) (J : InstAt s.heap y oy C od') (hn : findIn K (.ref C) "__ne__" = some (some (.builtin "object.__ne__"))) (he : findIn K (.ref C) "__eq__" = some (some (.ref f))) (hf : isFn K (.ref f) = true) (hm : mroIn K C (.type "object") = some true)
    (h : wpAny (model prog w) A.in1 (call (.ref f) [.ref x, .ref y]) (fun v t => ∃ b, v = .bool b ∧ Q (.bool (!b)) t) E s) : wpAny (model prog w) A (richCompare .NotEq (.ref x) (.ref y)) Q E s := by
  have one : wpAny (model prog w) A (tryCompare (.ref x) "__ne__" (.ref y)) (fun r t => ∃ v, r = some v ∧ Q v t) E s := by
    unfold tryCompare
    refine wpAny_bind (find_ne X I hn (wpAny_call (codeAny_call_builtin F.cmp_object.ne.plain F.cmpEntry_ne (check_slot F.cmpKind_ne F.cmpSplit_ne (I.type.andThen (looks_mroIn X hm)) (F.cmpArgs_ne _ _) ?_))))
    refine body_ne (A := A.in1) X I he hf hu (wpAny_mono h (fun v t z => ?_) fun _ _ z => z)
    obtain ⟨b, rfl, q⟩ := z
    exact ⟨b, rfl, wpAny_pure ⟨_, rfl, q⟩⟩
  unfold richCompare
  simp only [oneThing_ref, cmpInfo_NotEq]
  refine wpAny_holding (wpAny_bind (wpAny_cRoomFor (Nat.lt_of_succ_lt hu) (wpAny_bind (I.type.here (wpAny_bind (J.type.here ?_))))))
  rw [show (Value.ref C != Value.ref C) = false from by simp]
  simp only [Bool.false_eq_true, if_false]
  refine wpAny_bind (wpAny_pure ?_)
  simp only [Bool.false_eq_true, if_false]
  refine wpAny_bind (wpAny_mono one (fun r t z => ?_) fun _ _ z => z)
  obtain ⟨v, rfl, q⟩ := z
  first
    | exact wpAny_pure q
    | exact wpAny_pure (wpAny_pure q)
end
end My
namespace My
open PySem L2
section
variable {X : Cx} {CX : CXT} {k : Nat} {C : Addr} {ps : List Str} {sp : Sp} {E : XK}
/-- x != y, both of the class -/
theorem op_neO (O : OCal X.prog X.w X.K X.mg X.base CX k C "__eq__" ps sp) (hr : Room (k + 1) X.A) (hx : Passes CX X E) (hn : PySem.W.findIn X.K (.ref C) "__ne__" = some (some (.builtin "object.__ne__"))) (hm : PySem.W.mroIn X.K C (.type "object") = some true) :
    OpR X (compareOp .NotEq) (fun x y H Q => ∃ a b dx dy fs gs, x = .ref a ∧ y = .ref b ∧ H a = some (.ins C dx fs) ∧ H b = some (.ins C dy gs) ∧ sp [x, y] H (fun v H' => ∃ z, v = .bl z ∧ Q (.bl (!z)) H') E) := by
  intro pins s σ H x y v u Q I rx ry h
  obtain ⟨a, b, dx, dy, fs, gs, rfl, rfl, e1, e2, h⟩ := h
  cases rx
  cases ry
  obtain ⟨f, fd, F, hs, hf, hk, hfn, hb⟩ := O.ex
  obtain ⟨_, J1, _⟩ := ins_get I.hok e1
  obtain ⟨_, J2, _⟩ := ins_get I.hok e2
  obtain ⟨_, J1, _⟩ := J1.look
  obtain ⟨_, J2, _⟩ := J2.look
  show wpAny (model X.prog X.w) X.A (richCompare .NotEq (.ref a) (.ref b)) (EP X pins σ Q) X.xe s
  refine rich_ne hr.in1.units0 I.kIn J1 J2 hn hs hf hm ?_
  refine wpAny_mono (run_at F hr.in1 rfl hb (fun e t c => hx pins σ H s e t I c) I (vs := [.ref a, .ref b]) (.cons rfl (.cons rfl .nil)) h) (fun u t z => ?_) fun _ _ z => z
  obtain ⟨v, H', I', rv, z, rfl, q⟩ := z
  cases rv
  exact ⟨z, rfl, .bl (!z), H', I', rfl, q⟩
end
end My

/-! what the heads of the proofs have in common: how classes, errors and defs read -/
namespace My
open PySem L2
/-- how an error class reads -/
structure EF (K : PySem.W.Frag) (e : Addr) : Prop where
  hg : PySem.W.findIn K (.ref e) "__getattribute__" = some (some (.builtin "BaseException.__getattribute__"))
  hk : PySem.W.findIn K (.ref e) "__getattr__" = some none
  ha : PySem.W.findIn K (.ref e) "__class__" = some (some (.builtin "object.__class__"))
  sa : PySem.W.findIn K (.ref e) "__setattr__" = some (some (.builtin "object.__setattr__"))
  ty : PySem.W.typeIn K (.ref e) = some (.type "type")
  kp : PySem.W.keepIn K (.ref e) = true
  n1 : PySem.W.findIn K (.ref e) "kind" = some none
  n2 : PySem.W.findIn K (.ref e) "many" = some none
  n3 : PySem.W.findIn K (.ref e) "lacking" = some none
  n4 : PySem.W.findIn K (.ref e) "ring" = some none
  n5 : PySem.W.findIn K (.ref e) "number" = some none
/-- the class object -/
structure LK (K : PySem.W.Frag) (e : Addr) (bm : List Value) (new : String) : Prop where
  ex : ∃ nm q N bs sn sub ab col dd k0 k1 k2 k3 k5, K.lookup e = some (excClassObj nm q e N bs bm true sn sub ab col dd k0 k1 k2 k3 k5 new)
theorem lk_mk {K : PySem.W.Frag} {e : Addr} {bm : List Value} {new : String} {nm q : Str} {N : Addr} {bs : List Value} {sn : List Str} {sub : List Value} {ab : Bool} {col : Option Bool} {dd : Option Addr} {k0 k1 k2 k3 k5 : Option Value} (x : K.lookup e = some (excClassObj nm q e N bs bm true sn sub ab col dd k0 k1 k2 k3 k5 new)) : LK K e bm new := ⟨⟨nm, q, N, bs, sn, sub, ab, col, dd, k0, k1, k2, k3, k5, x⟩⟩
theorem LK.cls {K : PySem.W.Frag} {e : Addr} {bm : List Value} {new : String} (h : LK K e bm new) : ∃ cd, PySem.W.clsIn K e = some cd ∧ cd.mro = .ref e :: bm ∧ cd.hasDict = true := by
  obtain ⟨nm, q, N, bs, sn, sub, ab, col, dd, k0, k1, k2, k3, k5, x⟩ := h.ex
  refine ⟨{ name := nm, bases := bs, mro := .ref e :: bm, ns := N, qualname := q, hasDict := true, slotNames := sn, subclasses := sub, abstract := ab, collection := col, hasDel := false }, ?_, rfl, rfl⟩
  unfold PySem.W.clsIn
  rw [x] <;> rfl
theorem LK.mro {K : PySem.W.Frag} {e : Addr} {bm : List Value} {new : String} (h : LK K e bm new) (X : Value) : PySem.W.mroIn K e X = some ((Value.ref e :: bm).contains X) := by
  obtain ⟨cd, h1, h2, h3⟩ := h.cls
  unfold PySem.W.mroIn
  rw [h1, Option.bind_some, h2]
  rfl
theorem LK.sub {K : PySem.W.Frag} {e : Addr} {bm : List Value} {new : String} (h : LK K e bm new) (X : Value) : PySem.W.subIn K (.ref e) X = some ((Value.ref e :: bm).contains X) := h.mro X
theorem LK.dict {K : PySem.W.Frag} {e : Addr} {bm : List Value} {new : String} (h : LK K e bm new) : PySem.W.hasDictIn K e = true := by
  obtain ⟨cd, h1, h2, h3⟩ := h.cls
  unfold PySem.W.hasDictIn
  rw [h1]
  exact h3
theorem ref_type (e : Addr) (T : String) : (Value.type T == Value.ref e) = false := by
  cases q : (Value.type T == Value.ref e) with
  | false => rfl
  | true => exact absurd (eq_of_beq q) (by intro z; cases z)
theorem type_ref (e : Addr) (T : String) : (Value.ref e == Value.type T) = false := by
  cases q : (Value.ref e == Value.type T) with
  | false => rfl
  | true => exact absurd (eq_of_beq q) (by intro z; cases z)
theorem con_type (e : Addr) (bm : List Value) (T : String) : (Value.ref e :: bm).contains (.type T) = bm.contains (.type T) := by
  rw [List.contains_cons, ref_type, Bool.false_or]
theorem con_ref (e d : Addr) (bm : List Value) (h : bm.all (fun v => match v with | .type _ => true | _ => false) = true) : (Value.ref e :: bm).contains (.ref d) = decide (e = d) := by
  have h0 : bm.contains (.ref d) = false := by
    cases q : bm.contains (Value.ref d) with
    | false => rfl
    | true =>
      have := List.all_eq_true.mp h _ (List.contains_iff_mem.mp q)
      cases this
  rw [List.contains_cons, h0, Bool.or_false]
  by_cases z : e = d
  · rw [z, decide_eq_true rfl]
    exact beq_self_eq_true _
  · rw [decide_eq_false z]
    cases q : (Value.ref d == Value.ref e) with
    | false => rfl
    | true => exact absurd (Value.ref.inj (eq_of_beq q)).symm z
theorem exC_mk {K : PySem.W.Frag} {e : Addr} {bm : List Value} {new : String} (F : EF K e) (h : LK K e bm new) (hn : PySem.W.specialIn K (.builtin "object.__class__") "__get__" = some (some (.builtin "getset_descriptor.__get__"))) (ht : PySem.W.takesIn K (.builtin "object.__class__") = some true) (hB : bm.contains (.type "BaseException") = true) (hO : bm.contains (.type "object") = true) : ExcC K e :=
  ⟨F.hg, F.hk, by rw [h.sub, con_type, hB], h.dict, F.ha, hn, ht, by rw [h.mro, con_type, hO]⟩
theorem xfC_mk {K : PySem.W.Frag} {e : Addr} {bm : List Value} {new : String} (F : EF K e) (h : LK K e bm new) (hB : bm.contains (.type "BaseException") = true) : XfC K e := ⟨F.hg, F.hk, by rw [h.sub, con_type, hB], h.dict⟩
theorem kit_type {K : PySem.W.Frag} {e : Addr} {bm : List Value} {new : String} (h : LK K e bm new) {T : String} (hm : PySem.W.kitMeta T = true) : PySem.W.kitOne K (.ref e) (.type T) = some (bm.contains (.type T)) := by
  unfold PySem.W.kitOne
  rw [type_ref]
  show (if PySem.W.kitMeta T = true then PySem.W.subIn K (.ref e) (.type T) else none) = _
  rw [if_pos hm, h.sub, con_type]
theorem kit_ref {K : PySem.W.Frag} {e d : Addr} {bm bm2 : List Value} {new new2 : String} (h : LK K e bm new) (h2 : LK K d bm2 new2) (F2 : EF K d) (hb : bm.all (fun v => match v with | .type _ => true | _ => false) = true) : PySem.W.kitOne K (.ref e) (.ref d) = some (decide (e = d)) := by
  unfold PySem.W.kitOne
  by_cases z : e = d
  · rw [z, decide_eq_true rfl, if_pos (beq_self_eq_true _)]
  · have q : (Value.ref e == Value.ref d) = false := by
      cases q : (Value.ref e == Value.ref d) with
      | false => rfl
      | true => exact absurd (Value.ref.inj (eq_of_beq q)) z
    rw [q]
    obtain ⟨cd, hc, _⟩ := h2.cls
    show (if ((PySem.W.clsIn K d).isSome && PySem.W.typeIn K (.ref d) == some (.type "type")) = true then PySem.W.subIn K (.ref e) (.ref d) else none) = _
    have e2 : ((PySem.W.clsIn K d).isSome && PySem.W.typeIn K (.ref d) == some (.type "type")) = true := by rw [hc, F2.ty]; exact beq_self_eq_true _
    rw [if_pos e2, h.sub, con_ref e d bm hb]
theorem oex_mk {K : PySem.W.Frag} {e : Addr} (F : EF K e) (h : LK K e [.type "ValueError", .type "Exception", .type "BaseException", .type "object"] "ValueError.__new__") : OexC K e := by
  obtain ⟨nm, q, N, bs, sn, sub, ab, col, dd, k0, k1, k2, k3, k5, x⟩ := h.ex
  exact ⟨⟨nm, q, N, bs, [.type "ValueError", .type "Exception", .type "BaseException", .type "object"], sn, sub, ab, col, dd, k0, k1, k2, k3, k5, x, by decide +kernel⟩, F.sa, by rw [h.sub, con_type]; decide +kernel, F.ty, F.kp⟩
theorem kbn_mk {K : PySem.W.Frag} {x qual : Str} {st : Stmt} {f : Addr} {fd : FuncData} {ps ks : List Str} {n : Nat} {g : List Value → List Value → List Value} {gV : List V → List V → List V} (F : Fun K x qual st f fd)
    (rel : ∀ {vs : List V} {us : List Value} {zs : List V} {ws : List Value}, Vals vs us → Vals zs ws → Vals (gV vs zs) (g us ws))
    (h : ∀ (kV doc pm : Value) (an : Option Addr) (cdv ct : Value) (us ws : List Value), us.length = n → ws.length = ks.length → bindArgs (PySem.W.fnOf x qual (defArgs st) (defBody st) (defScope st) .none kV doc pm an cdv ct) ⟨us, ks.zip ws⟩ = pure (ps.zip (g us ws))) : KBn K fd ps n ks g gV := by
  obtain ⟨oc, od, kV, doc, pm, an, cdv, ct, osl, rfl, lk, hcd⟩ := F.ex
  exact ⟨fun s us ws X l1 l2 => .of_eq (h kV doc pm an cdv ct us ws l1 l2), rel⟩
abbrev bmV : List Value := [.type "ValueError", .type "Exception", .type "BaseException", .type "object"]
theorem funF {K : PySem.W.Frag} {x qual : Str} {st : Stmt} {f : Addr} {oc : Value} {od an : Option Addr} {osl : Array (Option Value)} {kV doc pm cdv ct : Value} (l : K.lookup f = some ⟨oc, od, .func (PySem.W.fnOf x qual (defArgs st) (defBody st) (defScope st) .none kV doc pm an cdv ct), osl⟩)
    (c : PySem.W.codeIn K cdv qual = true) (k : PySem.W.keepIn K (.ref f) = true) : ∃ fd, Fun K x qual st f fd := ⟨_, fun_mk l c k⟩
theorem funDF {K : PySem.W.Frag} {x qual : Str} {st : Stmt} {f tD t0 : Addr} {oc ocT : Value} {od an odT : Option Addr} {osl slT : Array (Option Value)} {kV doc pm cdv ct : Value} {nT : Nat} (l : K.lookup f = some ⟨oc, od, .func (PySem.W.fnOf x qual (defArgs st) (defBody st) (defScope st) (.ref tD) kV doc pm an cdv ct), osl⟩)
    (c : PySem.W.codeIn K cdv qual = true) (lT : K.lookup tD = some ⟨ocT, odT, .seq #[.ref t0] nT, slT⟩) (k : PySem.W.keepIn K (.ref f) = true) : ∃ fd, FunD K x qual (defArgs st) (defBody st) (defScope st) [.ref t0] [] f fd :=
  ⟨_, ⟨⟨_, _, _, _, _, _, _, _, _, _, rfl, l, c, Or.inr ⟨by simp, tD, _, [.ref t0], nT, rfl, lT, rfl, .cons rfl .nil⟩, Or.inl rfl⟩, k⟩⟩
theorem sq0 {K : PySem.W.Frag} {t0 : Addr} {od : Option Addr} {n : Nat} {sl : Array (Option Value)} (l : K.lookup t0 = some ⟨.type "tuple", od, .seq #[] n, sl⟩) : ∀ H, SqT K H t0 [] := fun H => .inr ⟨_, #[], n, l, rfl, rfl, Nat.zero_le _, .nil⟩
theorem kb_mk {K : PySem.W.Frag} {x qual : Str} {st : Stmt} {f : Addr} {fd : FuncData} {a b : Str} (F : Fun K x qual st f fd)
    (h : ∀ (kV doc pm : Value) (an : Option Addr) (cdv ct : Value) (u v : Value), bindArgs (PySem.W.fnOf x qual (defArgs st) (defBody st) (defScope st) .none kV doc pm an cdv ct) ⟨[u], [b].zip [v]⟩ = pure ([a, b].zip [u, v])) : KBinds K fd [a, b] [b] g1 g1 := by
  obtain ⟨oc, od, kV, doc, pm, an, cdv, ct, osl, rfl, lk, hcd⟩ := F.ex
  refine ⟨fun s us ws X l => ?_, g1_rel⟩
  match us, ws, l with
  | [u], [v], _ => exact .of_eq (h kV doc pm an cdv ct u v)
  | [], _, l => cases l
  | [_], [], l => cases l
  | [_], _ :: _ :: _, l => cases l
  | _ :: _ :: _, _, l => cases l
/-- how a class of the program reads -/
structure CC (K : PySem.W.Frag) (C : Addr) : Prop where
  pg : PySem.W.plainGet K C Str.empty = true
  hd : PySem.W.hasDictIn K C = true
  po : PySem.W.plainOver K C = true
  sa : PySem.W.findIn K (.ref C) "__setattr__" = some (some (.builtin "object.__setattr__"))
  mC : PySem.W.makesIn K C = true
  kc : PySem.W.keepIn K (.ref C) = true
  sf : PySem.W.selfFirst K C = true
  ns : PySem.W.noSeq K C = true
  si : PySem.W.subIn K (.type "int") (.ref C) = some false
  st : PySem.W.subIn K (.type "tuple") (.ref C) = some false
  ss : PySem.W.subIn K (.type "str") (.ref C) = some false
  sl : PySem.W.subIn K (.type "list") (.ref C) = some false
  ty : PySem.W.typeIn K (.ref C) = some (.type "type")
  ha : PySem.W.findIn K (.ref C) "__class__" = some (some (.builtin "object.__class__"))
  hm : PySem.W.mroIn K C (.type "object") = some true
  ic : PySem.W.isClsIn K C = true
theorem CC.cls {K : PySem.W.Frag} {C : Addr} (c : CC K C) : Cls K C := ⟨c.pg, c.hd, c.po, c.sa⟩
theorem CC.oc {K : PySem.W.Frag} {C : Addr} (c : CC K C) : OCls K C := ⟨c.cls, c.sf, c.ns, c.si⟩
theorem kit_cls {K : PySem.W.Frag} {C : Addr} {t : Value} (ic : PySem.W.isClsIn K C = true) (ty : PySem.W.typeIn K (.ref C) = some (.type "type")) (ne : (t == Value.ref C) = false) (st : PySem.W.subIn K t (.ref C) = some false) : PySem.W.kitOne K t (.ref C) = some false := by
  unfold PySem.W.kitOne
  rw [ne]
  show (if ((PySem.W.clsIn K C).isSome && PySem.W.typeIn K (.ref C) == some (.type "type")) = true then PySem.W.subIn K t (.ref C) else none) = _
  have e2 : ((PySem.W.clsIn K C).isSome && PySem.W.typeIn K (.ref C) == some (.type "type")) = true := by
    unfold PySem.W.isClsIn at ic
    rw [ic, ty]
    exact beq_self_eq_true _
  rw [if_pos e2, st]
theorem bindsD {K : PySem.W.Frag} {x qual : Str} {params : Arguments} {body : List Stmt} {scope : PySem.Scope} {t0 : Addr} {f : Addr} {fd : FuncData} {p q : Str} (F : FunD K x qual params body scope [.ref t0] [] f fd)
    (h : ∀ (T : Addr) (kV doc pm : Value) (an : Option Addr) (cdv ct : Value) (u v : Value), ∃ k, bindArgs (PySem.W.fnOf x qual params body scope (.ref T) kV doc pm an cdv ct) ⟨[u], []⟩ = seqItems? (.ref T) >>= k ∧ k (some #[v]) = pure ([p, q].zip [u, v])) : ∃ ds, Vals [.ref t0] ds ∧ Binds K fd [p, q] ds :=
  F.binds1 1 0 (by simp) rfl fun T kV doc pm an cdv ct us its l1 l2 => match us, its, l1, l2 with | [u], [v], _, _ => h T kV doc pm an cdv ct u v
end My

namespace My
open PySem L2
local macro_rules | `(tactic| walk_at "bx1") => `(tactic| first | with_reducible assumption | ((with_reducible refine' Bx.upd ?h1 ?h2); (case h1 => walk_at "bx1"); (case h2 => walk_at "ne")) | ((with_reducible refine' Bx.same ?h1 (by with_reducible assumption)); (case h1 => walk_at "bx1")))
local macro_rules | `(tactic| walk_at "bx") => `(tactic| (refine' Bx.mono ?h1 ?h2; (case h1 => walk_at "bx1"); (case h2 => omega)))
local macro_rules | `(tactic| walk_at "ne") => `(tactic| first | with_reducible assumption | exact Ne.symm (by with_reducible assumption) | ((with_reducible refine' ne_of_none ?h1 (by with_reducible assumption)); (case h1 => walk_at "hp")) | ((with_reducible refine' Ne.symm (ne_of_none ?h1 (by with_reducible assumption))); (case h1 => walk_at "hp")) | ((with_reducible refine' Bx.ne ?h1 (by with_reducible assumption)); (case h1 => walk_at "bx1")) | ((with_reducible refine' Ne.symm (Bx.ne ?h1 (by with_reducible assumption))); (case h1 => walk_at "bx1")))
local macro_rules | `(tactic| walk_at "hp") => `(tactic| first | with_reducible assumption | ((with_reducible refine' (upd_same.trans ?h1)); (case h1 => rfl)) | ((with_reducible refine' My.upd_at ?h1 ?h2); (case h1 => walk_at "hp"); (case h2 => walk_at "ne")) | ((with_reducible refine' My.Kp.at (by with_reducible assumption) ?h1 ?h2); (case h1 => walk_at "hp"); (case h2 => walk_at "ne")) | ((with_reducible refine' My.Same.at (by with_reducible assumption) ?h1); (case h1 => walk_at "hp")))
local macro_rules | `(tactic| walk_at "sq") => `(tactic| first | with_reducible assumption | exact SqL.of (by walk_at "hp") | exact SqT.of (by walk_at "hp") | ((with_reducible refine' My.SqT.upd ?h1 (by with_reducible assumption)); (case h1 => walk_at "sq")) | ((with_reducible refine' My.SqL.upd ?h1 (by with_reducible assumption)); (case h1 => walk_at "sq")) | ((with_reducible refine' Same.seq (by with_reducible assumption) ?h1); (case h1 => walk_at "sq")) | ((with_reducible refine' My.SqT.same ?h1 (by with_reducible assumption)); (case h1 => walk_at "sq")) | ((with_reducible refine' My.SqT.kp ?h1 (by with_reducible assumption) ?h2); (case h1 => walk_at "sq"); (case h2 => walk_at "bx1")) | ((with_reducible refine' My.SqL.kp ?h1 (by with_reducible assumption) ?h2); (case h1 => walk_at "sq"); (case h2 => walk_at "ne")))
local macro_rules | `(tactic| walk_at "sd") => `(tactic| first | assumption | omega | decide | (refine ⟨?_, ?_⟩ <;> (first | omega | decide)) | (refine Or.inl ⟨?_, ?_⟩ <;> (first | omega | decide)) | (refine Or.inr ⟨?_, ?_⟩ <;> (first | omega | decide)) | (refine ⟨?_, ?_, ?_⟩ <;> (first | omega | decide)))
local macro_rules | `(tactic| walk_at "ps") => `(tactic| first
  | with_reducible refine r_seq ?_ | with_reducible refine r_asg ?_ | with_reducible refine r_op ?_ | with_reducible refine r_cons ?_ | with_reducible refine r_nil ?_ | with_reducible refine r_c ?_
  | with_reducible refine' r_var rfl ?_ | with_reducible refine r_gname ?_ | with_reducible refine r_cb ?_ | with_reducible refine r_I0 ?_ | with_reducible refine r_ret ?_ | with_reducible refine r_ifS ?_ | with_reducible refine r_test ?_ | with_reducible refine r_B ?_
  | with_reducible refine r_next ?_ | with_reducible refine r_drop ?_ | with_reducible refine r_if ?_ | with_reducible refine r_un ?_ | with_reducible refine r_U ?_ | with_reducible refine r_gsub ?_ | with_reducible refine r_tup ?_ | with_reducible refine r_lst ?_ | with_reducible refine r_bm ?_
  | with_reducible refine r_cal ?_ | with_reducible refine r_not ?_ | with_reducible refine r_and ?_ | with_reducible refine r_or ?_ | with_reducible refine r_andV ?_ | with_reducible refine r_orV ?_ | with_reducible refine r_notV ?_
  | with_reducible refine r_abs ?_ | with_reducible refine r_intI ?_ | with_reducible refine r_intB ?_ | with_reducible refine r_m1 ?_ | with_reducible refine r_slice ?_ | with_reducible refine r_part ?_ | with_reducible refine r_nopart ?_
  | with_reducible refine r_gcons ?_ | with_reducible refine r_gnil ?_
  | with_reducible refine r_par ?_ | with_reducible refine r_par3 ?_ | with_reducible refine r_ex2 ?_ | with_reducible refine r_ex3 ?_
  | with_reducible refine r_isN ?_ | with_reducible refine r_notN ?_
  | with_reducible refine r_iZipA ?_
  | with_reducible refine r_dget ?_ | with_reducible refine r_dget2 ?_ | with_reducible refine r_iKeys ?_ | with_reducible refine r_dput ?_
  | with_reducible refine r_for ?_ | with_reducible refine r_lc ?_ | with_reducible refine r_iList ?_ | with_reducible refine r_iTup ?_ | with_reducible refine r_iRng1 ?_ | with_reducible refine r_iEnum ?_ | with_reducible refine r_orT ?_ | with_reducible refine r_yes ?_ | with_reducible refine r_ixSl ?_)
local macro_rules | `(tactic| walk_at "st") => `(tactic| first
  | walk_at "ps"
  | ((with_reducible refine' r_ixL ?h1 ?h2 ?_); (case h1 => walk_at "sq"); (case h2 => rfl))
  | ((with_reducible refine' r_setL ?h1 ?h2 ?_); (case h1 => walk_at "hp"); (case h2 => rfl))
  | ((with_reducible refine' r_I ?h1 ?_); (case h1 => walk_at "sd"))
  | ((with_reducible refine' r_eq ?h1 ?_); (case h1 => rfl)) | ((with_reducible refine' r_ne ?h1 ?_); (case h1 => rfl))
  | ((with_reducible refine' r_lenL ?h1 ?_); (case h1 => walk_at "sq")) | ((with_reducible refine' r_lenT ?h1 ?_); (case h1 => walk_at "sq")) | ((with_reducible refine' r_lenD ?h1 ?_); (case h1 => walk_at "hp"))
  | ((with_reducible refine' r_slL ?h1 ?_); (case h1 => walk_at "sq"); intro _ _)
  | ((with_reducible refine' r_append ?h1 ?h2 ?_); (case h1 => walk_at "hp"); (case h2 => exact szl (by first | omega | (simp; omega))))
  | ((with_reducible refine' r_gtup ?h1 ?h2 ?_); (case h1 => walk_at "sq"); (case h2 => rfl))
  | ((with_reducible refine' r_cat ?h1 ?h2 ?h3 ?_); (case h1 => walk_at "hp"); (case h2 => walk_at "hp"); (case h3 => exact sz (by first | omega | (simp; omega))); intro _ _)
  | ((with_reducible refine' r_wLst ?h1 ?_); (case h1 => walk_at "sq")) | ((with_reducible refine' r_wTup ?h1 ?_); (case h1 => walk_at "sq"))
  | ((with_reducible refine' r_wRng ?h1 ?_); (case h1 => walk_at "sd"))
  | ((with_reducible refine' r_truL ?h1 ?_); (case h1 => walk_at "sq"))
  | ((with_reducible refine' r_list (Or.inl ?h1) ?_); (case h1 => walk_at "sq"); intro _ _) | ((with_reducible refine' r_list (Or.inr ?h1) ?_); (case h1 => walk_at "sq"); intro _ _)
  | ((with_reducible refine' r_tupL ?h1 ?_); (case h1 => walk_at "sq"); intro _ _) | ((with_reducible refine' r_tupT ?h1 ?_); (case h1 => walk_at "sq"))
  | ((with_reducible refine' r_disp ?h1 ?_); (case h1 => exact Nat.le_of_ble_eq_true rfl); intro _ _)
  | ((with_reducible refine r_dnewK ?_); intro _ _)
  | ((with_reducible refine' r_tyL ?h1 ?_); (case h1 => walk_at "sq")) | with_reducible refine r_strV ?_
  | with_reducible refine r_exb ?_ | with_reducible refine r_exi ?_ | with_reducible refine r_exr ?_ | with_reducible refine r_exs ?_ | with_reducible refine r_exli ?_)
local macro_rules | `(tactic| walk_at "go") => `(tactic| repeat walk_at "st")
local macro_rules | `(tactic| walk_at "in") => `(tactic| dsimp only [noxK, cxK, L2.start, List.map_cons, List.map_nil, List.length_cons, List.length_nil, Nat.reduceAdd, Nat.reduceSub, List.replicate, List.cons_append, List.nil_append])


def top (i : Nat) : Stmt := PySem.Challenge.pw_onceopened_k54_books_as_texts.main.body.getD i (.Pass ⟨0, 0, 0, 0⟩)
structure Txt (K : PySem.W.Frag) (mg : Str → Option Value) : Prop where
  int : mg "int" = none
  len : mg "len" = none
  abs : mg "abs" = none
  list : mg "list" = none
  tuple : mg "tuple" = none
  range : mg "range" = none
  enumerate : mg "enumerate" = none
  isinstance : mg "isinstance" = none
  all : mg "all" = none
  zip : mg "zip" = none
  dict : mg "dict" = none
  bool : mg "bool" = none
  str : mg "str" = none
  set : mg "set" = none
  sorted : mg "sorted" = none
  min : mg "min" = none
  sum : mg "sum" = none
section
variable {P : Program} {w : World} {K : PySem.W.Frag} {mg : Str → Option Value} {base : Heap}
abbrev sTake : Stmt := top 28
theorem scTake : FnScope ["_law_box_here", "_law_below", "_law_once", "_law_far", "_law_twice", "_law_drawn"] ["_law_box_here", "_law_below"] (defScope sTake) := ⟨rfl, rfl, rfl, by decide +kernel, rfl, by decide +kernel, by decide +kernel⟩
def spTake : Sp := fun vs H Q _ => ∃ (a : Addr) (b : Nat) (n : Int), vs = [.ref a, .int n] ∧ Bx H a (b + 1) ∧ 0 < n ∧ n < 2 ^ 100 ∧
  ∀ (d : Int) H', 0 ≤ d → d < n → Bx H' a b → Kp a H H' → Q (.int d) H'
theorem ok_take {f : Addr} {fd : FuncData} (F : Fun K "_law_take" "_law_take" sTake f fd) (T : Txt K mg) : FnOk P w K mg base CX0 1 f fd ["_law_box_here", "_law_below"] spTake := by
  refine F.ok scTake (fun vs H Q E h => ?_) (fun cdv A outer s H vs Q E hr h => ?_)
  · obtain ⟨a, b, n, rfl, _⟩ := h
    rfl
  · obtain ⟨a, b, n, rfl, ⟨x, y, z, hx, x0, y0, y1, z0, z1⟩, n0, n1, k⟩ := h
    refine ⟨_, (pss_cons (ps_if (pt_cmpR op_gt (pe_ix ix_list (pv 0) pe_int (fun _ _ => rfl)) pe_int (nomark _))
  (pss_cons (ps_set (i := 5) scTake.nd rfl (Or.inl rfl) (pe_op op_mod (pe_callTy c_int (by rfl) T.int (by decide +kernel) (pa_cons (pe_ix ix_list (pv 0) pe_int (fun _ _ => rfl)) pa_nil)) (pv 1)))
  (pss_cons (ps_asg (pe_op op_fdivW (pe_ix ix_list (pv 0) pe_int (fun _ _ => rfl)) (pv 1)) (pg_sub (pv 0) pe_int set_list))
  (pss_one (ps_ret (pv 5)))))
  pss_nil)
  (pss_cons (ps_asg (pe_op op_add (pe_ix ix_list (pv 0) pe_int (fun _ _ => rfl)) pe_int) (pg_sub (pv 0) pe_int set_list))
  (pss_cons (ps_set (i := 2) scTake.nd rfl (Or.inl rfl) (pe_op op_mod (pe_callTy c_int (by rfl) T.int (by decide +kernel) (pa_cons (pe_op op_mul (pe_op op_add (pe_ix ix_list (pv 0) pe_int (fun _ _ => rfl)) (pe_op op_mul pe_int (pe_ix ix_list (pv 0) pe_int (fun _ _ => rfl)))) (pe_op op_add pe_int (pe_ix ix_list (pv 0) pe_int (fun _ _ => rfl)))) pa_nil)) pe_int))
  (pss_cons (ps_set (i := 3) scTake.nd rfl (Or.inl rfl) (pe_op op_add (pe_op op_mod (pe_callTy c_int (by rfl) T.int (by decide +kernel) (pa_cons (pv 2) pa_nil)) pe_int) pe_int))
  (pss_cons (ps_set (i := 4) scTake.nd rfl (Or.inl rfl) (pe_op op_mod (pe_callTy c_int (by rfl) T.int (by decide +kernel) (pa_cons (pe_op op_mul (pe_op op_add (pe_op op_add (pv 2) (pe_ix ix_list (pv 0) pe_int (fun _ _ => rfl))) (pe_op op_fdiv (pe_ix ix_list (pv 0) pe_int (fun _ _ => rfl)) pe_int)) (pv 3)) pa_nil)) pe_int))
  (pss_one (ps_ret (pe_op op_mod (pe_callTy c_int (by rfl) T.int (by decide +kernel) (pa_cons (pe_op op_fdiv (pe_op op_mod (pe_callTy c_int (by rfl) T.int (by decide +kernel) (pa_cons (pe_op op_add (pe_op op_mul (pv 4) pe_int) (pv 2)) pa_nil)) pe_int) pe_int) pa_nil)) (pv 1))))))))), ?_⟩
    walk_at "in"
    walk_at "go"
    refine ite_d (fun c => ?_) (fun c => ?_)
    · walk_at "go"
      refine r_I (wide_div n0 (b := 100) (by omega) (by decide) (by decide)) ?_
      walk_at "go"
      exact k _ _ (Int.emod_nonneg _ (by omega)) (Int.emod_lt_of_pos _ n0) ⟨_, y, z, upd_same, Int.ediv_nonneg x0 (by omega), y0, y1, z0, by omega⟩ fun c o e h => by walk_at "hp"
    walk_at "go"
    exact k _ _ (Int.emod_nonneg _ (by omega)) (Int.emod_lt_of_pos _ n0) ⟨x, y, z + 1, upd_same, x0, y0, y1, by omega, by omega⟩ fun c o e h => by walk_at "hp"
abbrev sBox : Stmt := top 27
theorem scBox : FnScope ["_law_script", "_law_k", "_law_cell"] ["_law_script", "_law_k"] (defScope sBox) := ⟨rfl, rfl, rfl, by decide +kernel, rfl, by decide +kernel, by decide +kernel⟩
def spBox (K : PySem.W.Frag) : Sp := fun vs H Q _ => ∃ (a : Addr) (ns : List Int) (k : Nat), vs = [.ref a, .int k] ∧ SqL K H a (ns.map V.int) ∧ k < ns.length ∧ ns.length ≤ 63 ∧
  ∀ p H', H p = none → Bx H' p 900000000 → Same H H' → Q (.ref p) H'
theorem ok_box {f : Addr} {fd : FuncData} (F : Fun K "_law_box" "_law_box" sBox f fd) (T : Txt K mg) : FnOk P w K mg base CX0 1 f fd ["_law_script", "_law_k"] (spBox K) := by
  refine F.ok scBox (fun vs H Q E h => ?_) (fun cdv A outer s H vs Q E hr h => ?_)
  · obtain ⟨a, ns, k, rfl, _⟩ := h
    rfl
  · obtain ⟨a, ns, k, rfl, hx, h1, h2, q⟩ := h
    refine ⟨_, (pss_cons (ps_set (i := 2) scBox.nd rfl (Or.inl rfl) (pe_ifExp (pt_cmpR op_lt (pv 1) (pe_callB c_lenL (by rfl) T.len (by decide +kernel) (pa_cons (pv 0) pa_nil)) (nomark _)) (pe_ix ix_list (pv 0) (pv 1) (fun _ _ => rfl)) pe_int))
  (pss_one (ps_ret (pe_lst (pa_cons (pe_op op_mul (pe_callB c_abs (by rfl) T.abs (by decide +kernel) (pa_cons (pv 2) pa_nil)) (pe_callTy c_int (by rfl) T.int (by decide +kernel) (pa_cons (pe_cmpR op_ge (pe_callB c_abs (by rfl) T.abs (by decide +kernel) (pa_cons (pv 2) pa_nil)) (pe_op op_pow pe_int pe_int) (nomark _)) pa_nil))) (pa_cons (pe_op op_add (pe_op op_add (pe_op op_mod (pe_callTy c_int (by rfl) T.int (by decide +kernel) (pa_cons (pv 2) pa_nil)) pe_int) (pe_op op_mul pe_int (pv 1))) pe_int) (pa_cons pe_int pa_nil))))))), ?_⟩
    walk_at "in"
    walk_at "go"
    refine ite_dT (by rw [List.length_map]; omega) ?_
    walk_at "go"
    refine r_ixL (by walk_at "sq") (atI_nat (map_get h1)) ?_
    generalize ns[k] = c
    walk_at "go"
    rename_i p hp
    refine q p _ hp ⟨_, _, 0, upd_same, ?_, ?_, ?_, by decide, by decide⟩ fun c o e => by walk_at "hp"
    · refine Int.mul_nonneg ?_ ?_
      · split <;> omega
      · exact ite01 _
    · have := Int.emod_nonneg c (show (2305843009213693951 : Int) ≠ 0 by decide)
      omega
    · have := Int.emod_lt_of_pos c (show (0 : Int) < 2305843009213693951 by decide)
      omega
abbrev sCells : Stmt := top 29
theorem scCells : FnScope ["_law_script", "_law_most_so", "_law_cells_here", "_law_k", "_law_cell", "_law_at_so"] ["_law_script", "_law_most_so"] (defScope sCells) := ⟨rfl, rfl, rfl, by decide +kernel, rfl, by decide +kernel, by decide +kernel⟩
def spCells (K : PySem.W.Frag) : Sp := fun vs H Q _ => ∃ (a : Addr) (ns : List Int), vs = [.ref a, .int 3] ∧ SqL K H a (ns.map V.int) ∧ ns.length ≤ 63 ∧
  ∀ (p : Addr) (ms : List Int) (H' : Hp), H p = none → 1 ≤ ms.length → ms.length ≤ 3 → H' p = some (.lst (ms.map V.int)) → Same H H' → Q (.ref p) H'
theorem ok_cells {f : Addr} {fd : FuncData} (F : Fun K "_law_cells" "_law_cells" sCells f fd) (T : Txt K mg) : FnOk P w K mg base CX0 1 f fd ["_law_script", "_law_most_so"] (spCells K) := by
  refine F.ok scCells (fun vs H Q E h => ?_) (fun cdv A outer s H vs Q E hr h => ?_)
  · obtain ⟨a, ns, rfl, _⟩ := h
    rfl
  · obtain ⟨a, ns, rfl, hx, h1, q⟩ := h
    refine ⟨_, (Evl.pss_cut (ps_set (i := 2) scCells.nd rfl (Or.inl rfl) (pe_orT (pe_callTy c_list (by rfl) T.list (by decide +kernel) (pa_cons (pe_slice sl_list (pv 0) po_none (po_some (pv 1))) pa_nil)) (pe_one (pe_lst (pa_cons pe_int pa_nil)))))
  (pss_cons (ps_for PassesOwn.never rfl (pi_enum (by rfl) T.enumerate (pa_cons (pe_slice sl_list (pv 0) (po_some (pv 1)) (po_some pe_int)) pa_nil)) (pg_tup rfl (pgs_cons (pg_name (i := 3) scCells.nd rfl (Or.inl rfl)) (pgs_cons (pg_name (i := 4) scCells.nd rfl (Or.inl rfl)) pgs_nil)))
  (pss_cons (ps_set (i := 5) scCells.nd rfl (Or.inl rfl) (pe_op op_mod (pe_callTy c_int (by rfl) T.int (by decide +kernel) (pa_cons (pv 3) pa_nil)) (pv 1)))
  (pss_one (ps_asg (pe_op op_add (pe_ix ix_list (pv 2) (pv 5) (fun _ _ => rfl)) (pe_op op_mul (pv 4) (pe_op op_add (pv 3) pe_int))) (pg_sub (pv 2) (pv 5) set_list)))))
  (pss_one (ps_ret (pv 2))))), ?_⟩
    walk_at "in"
    refine ⟨fun σ' H' => ∃ (l : Addr) (ms : List Int), σ' = [some (.ref a), some (.int 3), some (.ref l), none, none, none] ∧ H l = none ∧ 1 ≤ ms.length ∧ ms.length ≤ 3 ∧ (3 < ns.length → ms.length = 3) ∧ H' l = some (.lst (ms.map V.int)) ∧ Same H H', ?_, ?_⟩
    · walk_at "go"
      rename_i p hp l hl
      have e3 : cutV (ns.map V.int) none (some 3) = (ns.take 3).map V.int := by rw [List.map_take]; exact cutV_to _ 3
      rw [e3] at hl ⊢
      have s1 : Same H (upd (upd H p (.lst ((ns.take 3).map V.int))) l (.lst ((ns.take 3).map V.int))) := fun c o e => by walk_at "hp"
      cases e : ns with
      | nil =>
        rw [e] at s1
        refine iteF ?_
        walk_at "go"
        rename_i q2 hq2
        exact ⟨q2, [0], rfl, s1.free hq2, by decide, by decide, fun z => absurd z (by decide), upd_same, fun c o e => by walk_at "hp"⟩
      | cons n r =>
        rw [e] at s1 hl
        refine iteT ?_
        walk_at "go"
        have hl0 : H l = none := Same.free (fun c o e => by walk_at "hp") hl
        exact ⟨l, (n :: r).take 3, rfl, hl0, by rw [List.length_take, List.length_cons]; omega, by rw [List.length_take]; omega, fun z => by rw [List.length_take]; omega, upd_same, s1⟩
    rintro σ1 H1 ⟨l, ms, rfl, hl, m1, m2, m3, hms, s1⟩
    walk_at "go"
    refine ⟨_, _, rfl, by walk_at "sq", ?_⟩
    rename_i p hp
    have e3 : cutV (ns.map V.int) (some 3) (some 63) = ((ns.drop 3).take 60).map V.int := by rw [List.map_take, List.map_drop]; exact cutV_mid _ 3 63
    rw [e3]
    have npl : l ≠ p := ne_of_none hms hp
    refine for_it (walk_enum (xs := ((ns.drop 3).take 60).map V.int)) (fun i σ H' => ∃ (ms : List Int) (x1 x2 x3 : Option V), σ = [some (.ref a), some (.int 3), some (.ref l), x1, x2, x3] ∧ 1 ≤ ms.length ∧ ms.length ≤ 3 ∧ (3 < ns.length → ms.length = 3) ∧ H' l = some (.lst (ms.map V.int)) ∧ Same H H' ∧ H' p = some (.lst (((ns.drop 3).take 60).map V.int))) ?_ ?_ ?_ ?_
    · exact ⟨ms, none, none, none, rfl, m1, m2, m3, by walk_at "hp", fun c o e => by walk_at "hp", by walk_at "hp"⟩
    · rintro i σ H2 _ ⟨_, _, _, _, _, _, _, _, _, _, h⟩
      exact SqL.of h
    · rintro i x σ H2 H3 hi ⟨ms, x1, x2, x3, rfl, m1, m2, m3, hm, s2, hp2⟩ ⟨t, u, v, rfl, ht, rfl, hu, hv⟩
      obtain rfl : V.int (i : Nat) = u := Option.some.inj hu
      rw [List.length_map, List.length_take, List.length_drop] at hi
      have hm3 : ms.length = 3 := m3 (by omega)
      obtain ⟨c, rfl, _⟩ := map_some hv
      walk_at "go"
      obtain ⟨j, hj, hj3⟩ : ∃ j : Nat, ((i : Nat) : Int) % 3 = (j : Int) ∧ j < ms.length := ⟨i % 3, by omega, by omega⟩
      rw [hj]
      refine r_ixL (by walk_at "sq") (atI_nat (j := j) (map_get hj3)) ?_
      walk_at "go"
      refine r_setL (xs := ms.map V.int) (by walk_at "hp") (ixN_lt (by rw [List.length_map]; exact hj3)) ?_
      have npt : p ≠ t := ne_of_none hp2 ht
      have nlt : l ≠ t := ne_of_none hm ht
      refine ⟨ms.set j (ms[j] + c * ((i : Int) + 2)), _, _, _, rfl, by rw [List.length_set]; exact m1, by rw [List.length_set]; exact m2, fun _ => by rw [List.length_set]; exact hm3, by rw [List.map_set]; exact upd_same, fun c o e => ?_, by walk_at "hp"⟩
      have n1 : c ≠ l := ne_of_none e hl
      walk_at "hp"
    · rintro σ H2 ⟨ms, x1, x2, x3, rfl, m1, m2, m3, hm, s2, hp2⟩
      walk_at "go"
      exact q l ms H2 hl m1 m2 hm s2
abbrev sOf : Stmt := top 30
theorem scOf : FnScope ["_law_box_here", "_law_some"] ["_law_box_here", "_law_some"] (defScope sOf) := ⟨rfl, rfl, rfl, by decide +kernel, rfl, by decide +kernel, by decide +kernel⟩
def spOf : Sp := fun vs H Q _ => ∃ (a l : Addr) (b : Nat) (xs : List V), vs = [.ref a, .ref l] ∧ Bx H a (b + 1) ∧ H l = some (.lst xs) ∧ l ≠ a ∧ 0 < xs.length ∧ xs.length ≤ 1000 ∧
  ∀ (x : V) (i : Nat) (H' : Hp), xs[i]? = some x → Bx H' a b → Kp a H H' → Q x H'
theorem ok_of {f : Addr} {fd : FuncData} (F : Fun K "_law_of" "_law_of" sOf f fd) (T : Txt K mg) (Ct : Cal P w K mg base CX0 1 "_law_take" ["_law_box_here", "_law_below"] spTake) : FnOk P w K mg base CX0 2 f fd ["_law_box_here", "_law_some"] spOf := by
  refine F.ok scOf (fun vs H Q E h => ?_) (fun cdv A outer s H vs Q E hr h => ?_)
  · obtain ⟨a, l, b, xs, rfl, _⟩ := h
    rfl
  · obtain ⟨a, l, b, xs, rfl, hb, hl, nla, h0, h1, q⟩ := h
    refine ⟨_, (pss_one (ps_ret (pe_ix ix_list (pv 1) (pe_cal Ct hr pass0 (pa_cons (pv 0) (pa_cons (pe_callB c_lenL (by rfl) T.len (by decide +kernel) (pa_cons (pv 1) pa_nil)) pa_nil))) (fun _ _ => rfl)))), ?_⟩
    walk_at "in"
    walk_at "go"
    refine ⟨a, b, xs.length, rfl, by walk_at "bx", by omega, by omega, fun d H1 d0 d1 bx1 kp1 => ?_⟩
    obtain ⟨j, rfl⟩ : ∃ j : Nat, d = j := ⟨d.toNat, by omega⟩
    have hj : j < xs.length := by omega
    refine r_ixL (by walk_at "sq") (atI_nat (List.getElem?_eq_getElem hj)) ?_
    exact q _ j _ (List.getElem?_eq_getElem hj) bx1 kp1
abbrev sMixed : Stmt := top 33
theorem scMixed : FnScope ["_law_box_here", "_law_rows_so", "_law_turn", "_law_rest", "_law_done", "_law_at_so"] ["_law_box_here", "_law_rows_so"] (defScope sMixed) := ⟨rfl, rfl, rfl, by decide +kernel, rfl, by decide +kernel, by decide +kernel⟩
/-- a drawn order of a tuple's items -/
def spMixed (K : PySem.W.Frag) : Sp := fun vs H Q _ => ∃ (a l : Addr) (b : Nat) (xs : List V), vs = [.ref a, .ref l] ∧ Bx H a (b + xs.length) ∧ SqT K H l xs ∧ xs.length ≤ 1000 ∧
  ∀ (p : Addr) (ys : List V) (H' : Hp), H p = none → ys.Perm xs → H' p = some (.lst ys) → Bx H' a b → Kp a H H' → Q (.ref p) H'
theorem ok_mixed {f : Addr} {fd : FuncData} (F : Fun K "_law_mixed" "_law_mixed" sMixed f fd) (T : Txt K mg) (Ct : Cal P w K mg base CX0 1 "_law_take" ["_law_box_here", "_law_below"] spTake) : FnOk P w K mg base CX0 2 f fd ["_law_box_here", "_law_rows_so"] (spMixed K) := by
  refine F.ok scMixed (fun vs H Q E h => ?_) (fun cdv A outer s H vs Q E hr h => ?_)
  · obtain ⟨a, l, b, xs, rfl, _⟩ := h
    rfl
  · obtain ⟨a, l, b, xs, rfl, hb, hl, h1, q⟩ := h
    refine ⟨_, (pss_cons (ps_par (i := 3) (j := 4) rfl scMixed.nd rfl rfl (by decide) rfl rfl (pa_cons (pe_callTy c_list (by rfl) T.list (by decide +kernel) (pa_cons (pv 1) pa_nil)) (pa_cons (pe_lst pa_nil) pa_nil)) (by rfl))
  (pss_cons (ps_for PassesOwn.never rfl (pi_range1 rfl T.range (pa_cons (pe_callB c_lenT (by rfl) T.len (by decide +kernel) (pa_cons (pv 1) pa_nil)) pa_nil)) (pg_name (i := 2) scMixed.nd rfl (Or.inl rfl))
  (pss_cons (ps_set (i := 5) scMixed.nd rfl (Or.inl rfl) (pe_cal Ct hr pass0 (pa_cons (pv 0) (pa_cons (pe_callB c_lenL (by rfl) T.len (by decide +kernel) (pa_cons (pv 3) pa_nil)) pa_nil))))
  (pss_cons (ps_expr (pe_bm PySem.F.plainAttrs_list PySem.F.slot_list_append PySem.F.type_list_append mt_append (pv 4) (pa_cons (pe_ix ix_list (pv 3) (pv 5) (fun _ _ => rfl)) pa_nil)))
  (pss_one (ps_set (i := 3) scMixed.nd rfl (Or.inl rfl) (pe_op op_cat (pe_slice sl_list (pv 3) po_none (po_some (pv 5))) (pe_slice sl_list (pv 3) (po_some (pe_op op_add (pv 5) pe_int)) po_none)))))))
  (pss_one (ps_ret (pv 4))))), ?_⟩
    walk_at "in"
    walk_at "go"
    rename_i r0 hr0 p hp
    have npa : p ≠ a := by walk_at "ne"
    have nra : r0 ≠ a := by walk_at "ne"
    have npr : p ≠ r0 := by walk_at "ne"
    have hp0 : H p = none := by rw [upd_ne npr] at hp; exact hp
    refine for_it (walk_range (n := xs.length)) (fun i σ H' => ∃ (r : Addr) (rs ys : List V) (x2 x5 : Option V), σ = [some (.ref a), some (.ref l), x2, some (.ref r), some (.ref p), x5] ∧ (ys ++ rs).Perm xs ∧ ys.length = i ∧ H' r = some (.lst rs) ∧ H' p = some (.lst ys) ∧ r ≠ a ∧ p ≠ r ∧ Bx H' a (b + rs.length) ∧ Kp a H H') ?_ (fun _ _ _ _ _ => trivial) ?_ ?_
    · exact ⟨r0, xs, [], none, none, rfl, List.Perm.refl _, rfl, by walk_at "hp", by walk_at "hp", nra, npr, by walk_at "bx", fun c o e n => by walk_at "hp"⟩
    · rintro i x σ H2 _ hi ⟨r, rs, ys, x2, x5, rfl, pm, ly, hr2, hp2, nra2, npr2, bx2, kp2⟩ ⟨rfl, rfl⟩
      have hl2 : rs.length + i = xs.length := by have := pm.length_eq; rw [List.length_append] at this; omega
      walk_at "go"
      refine ⟨a, b + (rs.length - 1), rs.length, rfl, by rw [show b + (rs.length - 1) + 1 = b + rs.length by omega]; exact bx2, by omega, by omega, fun d H1 d0 d1 bx1 kp1 => ?_⟩
      obtain ⟨j, rfl⟩ : ∃ j : Nat, d = j := ⟨d.toNat, by omega⟩
      have hj : j < rs.length := by omega
      walk_at "go"
      refine r_ixL (by walk_at "sq") (atI_nat (List.getElem?_eq_getElem hj)) ?_
      walk_at "go"
      rename_i q1 hq1 q2 hq2
      have e1 : cutV rs none (some (j : Int)) = rs.take j := cutV_to rs j
      have e2 : cutV rs (some ((j : Int) + 1)) none = rs.drop (j + 1) := by rw [show ((j : Int) + 1) = ((j + 1 : Nat) : Int) by omega]; exact cutV_from rs (j + 1)
      rw [e1] at hq2 ⊢
      rw [e2]
      refine r_cat (by walk_at "hp") (by walk_at "hp") (sz (by rw [List.length_take, List.length_drop]; omega)) fun q3 hq3 => ?_
      have n1 : p ≠ q3 := by walk_at "ne"
      have n2 : q3 ≠ a := by walk_at "ne"
      refine ⟨q3, rs.take j ++ rs.drop (j + 1), ys ++ [rs[j]], _, _, rfl, (perm_out ys rs hj).trans pm, by rw [List.length_append, ly]; rfl, by walk_at "hp", by walk_at "hp", n2, n1, ?_, fun c o e n => ?_⟩
      · rw [show b + (rs.take j ++ rs.drop (j + 1)).length = b + (rs.length - 1) by rw [List.length_append, List.length_take, List.length_drop]; omega]
        walk_at "bx"
      · have n3 : c ≠ p := ne_of_none e hp0
        walk_at "hp"
    · rintro σ H2 ⟨r, rs, ys, x2, x5, rfl, pm, ly, hr2, hp2, nra2, npr2, bx2, kp2⟩
      have hl2 : rs = [] := List.eq_nil_of_length_eq_zero (by have := pm.length_eq; rw [List.length_append] at this; omega)
      subst hl2
      rw [List.append_nil] at pm
      walk_at "go"
      exact q p ys H2 hp0 pm hp2 bx2 kp2
end


section
variable {P : Program} {w : World} {K : PySem.W.Frag} {mg : Str → Option Value} {base : Heap} {C : Addr}
theorem put_pos {m : AL} {k : Str} {n : Int} (h : ∀ p ∈ m, 0 < p.2) (hn : 0 < n) : ∀ p ∈ put m k n, 0 < p.2 := by
  intro p hp
  unfold put at hp
  split at hp
  · obtain ⟨q, hq, e⟩ := List.mem_map.mp hp
    split at e
    · rw [← e]
      exact hn
    · rw [← e]
      exact h q hq
  · rcases List.mem_append.mp hp with z | z
    · exact h p z
    · rw [List.mem_singleton.mp z]
      exact hn
abbrev sOwnCounted : Stmt := top 16
theorem scOwnCounted : FnScope ["pairs", "found", "kind", "many"] ["pairs"] (defScope sOwnCounted) := ⟨rfl, rfl, rfl, by decide +kernel, rfl, by decide +kernel, by decide +kernel⟩
def spOwnCounted (K : PySem.W.Frag) : Sp := fun vs H Q _ => ∃ (l : Addr) (xs : List V) (ps : AL), vs = [.ref l] ∧ SqL K H l xs ∧ Paired (PrA H) xs ps ∧ xs.length ≤ 30 ∧ (∀ p ∈ ps, 0 ≤ p.2) ∧
  ∀ (d : Addr) (m : AL) (H' : Hp), H d = none → H' d = some (.dK (enc m)) → (keys m).Nodup → (∀ p ∈ m, 0 < p.2) → (∀ k, get m k = tot ps k) → m.length ≤ xs.length → Same H H' → Q (.ref d) H'
theorem ok_ownCounted {f : Addr} {fd : FuncData} (F : Fun K "_counted" "_counted" sOwnCounted f fd) (T : Txt K mg) : FnOk P w K mg base CX0 1 f fd ["pairs"] (spOwnCounted K) := by
  refine F.ok scOwnCounted (fun vs H Q E h => ?_) (fun cdv A outer s H vs Q E hr h => ?_)
  · obtain ⟨l, xs, ps, rfl, _⟩ := h
    rfl
  · obtain ⟨l, xs, ps, rfl, hl, hps, h30, h0, q⟩ := h
    have hu := hu_of hr
    refine ⟨_, (pss_cons (ps_set (i := 1) scOwnCounted.nd rfl (Or.inl rfl) pe_dnewK)
  (pss_cons (ps_for PassesOwn.never rfl (pi_list (pv 0)) (pg_tup rfl (pgs_cons (pg_name (i := 2) scOwnCounted.nd rfl (Or.inl rfl)) (pgs_cons (pg_name (i := 3) scOwnCounted.nd rfl (Or.inl rfl)) pgs_nil)))
  (pss_cons (ps_if (pt_cmpR op_lt (pv 3) pe_int (nomark _))
  pss_never
  pss_nil)
  (pss_one (ps_if (pt_cmpR op_gt (pv 3) pe_int (nomark _))
  (pss_one (ps_dput hu (pv 1) (pv 2) (pe_op op_add (pe_dget2 hu (pv 1) (pv 2) pe_int ⟨rfl, rfl, rfl, rfl⟩) (pv 3)) rfl))
  pss_nil))))
  (pss_one (ps_ret (pv 1))))), ?_⟩
    walk_at "in"
    walk_at "go"
    rename_i d hd
    have lps := Paired.len hps
    refine for_it (walk_list (xs := xs)) (fun i σ H' => ∃ (m : AL) (x2 x3 : Option V), σ = [some (.ref l), some (.ref d), x2, x3] ∧ H' d = some (.dK (enc m)) ∧ (keys m).Nodup ∧ (∀ p ∈ m, 0 < p.2) ∧ (∀ k, get m k = tot (ps.take i) k) ∧ m.length ≤ i ∧ Same H H') ?_ ?_ ?_ ?_
    · exact ⟨[], none, none, rfl, upd_same, List.nodup_nil, fun p h => by simp at h, fun k => rfl, Nat.le_refl _, fun c o e => by walk_at "hp"⟩
    · rintro i σ H' _ ⟨_, _, _, _, _, _, _, _, _, s1⟩
      exact s1.seq hl
    · rintro i x σ _ H1 hi ⟨m, x2, x3, rfl, hm, nd, mp, hg, lm, s1⟩ ⟨rfl, hx⟩
      obtain ⟨p, hp, t, rfl, ht⟩ := Paired.at hps hx
      have p0 : 0 ≤ p.2 := h0 p (List.mem_of_getElem? hp)
      walk_at "go"
      refine ite_dF (by omega) ?_
      walk_at "go"
      have stp : ∀ k, tot (ps.take (i + 1)) k = tot (ps.take i) k + (if p.1 = k then p.2 else 0) := fun k => tot_take hp k
      refine ite_d (fun c => ?_) (fun c => ?_)
      · walk_at "go"
        refine ⟨Or.inl ⟨enc m, Or.inl hm⟩, ?_⟩
        walk_at "go"
        refine ⟨_, DGet_enc (r := look m p.1) (Or.inl hm) rfl, ?_⟩
        rw [get_look]
        walk_at "go"
        have gnn := get_nn mp nd p.1
        refine ⟨d, _, rfl, DPut_enc hm (szl (by omega)), put m p.1 (get m p.1 + p.2), _, _, rfl, upd_same, put_nodup nd, put_pos mp (by omega), fun k => ?_, ?_, fun c o e => ?_⟩
        · rw [get_put, stp, ← hg k]
          by_cases c : k = p.1
          · rw [if_pos c, if_pos c.symm, c]
          · rw [if_neg c, if_neg (Ne.symm c), Int.add_zero]
        · have := put_len m p.1 (get m p.1 + p.2)
          omega
        · have n1 : c ≠ d := ne_of_none e hd
          walk_at "hp"
      · walk_at "go"
        refine ⟨m, _, _, rfl, hm, nd, mp, fun k => ?_, by omega, s1⟩
        rw [hg k, stp]
        have : p.2 = 0 := by omega
        rw [this]
        split <;> omega
    · rintro σ H1 ⟨m, x2, x3, rfl, hm, nd, mp, hg, lm, s1⟩
      walk_at "go"
      refine q d m H1 hd hm nd mp (fun k => ?_) lm s1
      have e := hg k
      rw [lps, List.take_length] at e
      exact e
end


section
variable {P : Program} {w : World} {K : PySem.W.Frag} {mg : Str → Option Value} {base : Heap} {C : Addr}
abbrev sOwnCountedT : Stmt := top 16
theorem scOwnCountedT : FnScope ["pairs", "found", "kind", "many"] ["pairs"] (defScope sOwnCountedT) := ⟨rfl, rfl, rfl, by decide +kernel, rfl, by decide +kernel, by decide +kernel⟩
def spOwnCountedT (K : PySem.W.Frag) : Sp := fun vs H Q _ => ∃ (l : Addr) (xs : List V) (ps : AL), vs = [.ref l] ∧ SqT K H l xs ∧ Paired (PrA H) xs ps ∧ xs.length ≤ 30 ∧ (∀ p ∈ ps, 0 ≤ p.2) ∧
  ∀ (d : Addr) (m : AL) (H' : Hp), H d = none → H' d = some (.dK (enc m)) → (keys m).Nodup → (∀ p ∈ m, 0 < p.2) → (∀ k, get m k = tot ps k) → m.length ≤ xs.length → Same H H' → Q (.ref d) H'
theorem ok_ownCountedT {f : Addr} {fd : FuncData} (F : Fun K "_counted" "_counted" sOwnCountedT f fd) (T : Txt K mg) : FnOk P w K mg base CX0 1 f fd ["pairs"] (spOwnCountedT K) := by
  refine F.ok scOwnCountedT (fun vs H Q E h => ?_) (fun cdv A outer s H vs Q E hr h => ?_)
  · obtain ⟨l, xs, ps, rfl, _⟩ := h
    rfl
  · obtain ⟨l, xs, ps, rfl, hl, hps, h30, h0, q⟩ := h
    have hu := hu_of hr
    refine ⟨_, (pss_cons (ps_set (i := 1) scOwnCountedT.nd rfl (Or.inl rfl) pe_dnewK)
  (pss_cons (ps_for PassesOwn.never rfl (pi_tup (pv 0)) (pg_tup rfl (pgs_cons (pg_name (i := 2) scOwnCountedT.nd rfl (Or.inl rfl)) (pgs_cons (pg_name (i := 3) scOwnCountedT.nd rfl (Or.inl rfl)) pgs_nil)))
  (pss_cons (ps_if (pt_cmpR op_lt (pv 3) pe_int (nomark _))
  pss_never
  pss_nil)
  (pss_one (ps_if (pt_cmpR op_gt (pv 3) pe_int (nomark _))
  (pss_one (ps_dput hu (pv 1) (pv 2) (pe_op op_add (pe_dget2 hu (pv 1) (pv 2) pe_int ⟨rfl, rfl, rfl, rfl⟩) (pv 3)) rfl))
  pss_nil))))
  (pss_one (ps_ret (pv 1))))), ?_⟩
    walk_at "in"
    walk_at "go"
    rename_i d hd
    have lps := Paired.len hps
    refine for_it (walk_tup (xs := xs)) (fun i σ H' => ∃ (m : AL) (x2 x3 : Option V), σ = [some (.ref l), some (.ref d), x2, x3] ∧ H' d = some (.dK (enc m)) ∧ (keys m).Nodup ∧ (∀ p ∈ m, 0 < p.2) ∧ (∀ k, get m k = tot (ps.take i) k) ∧ m.length ≤ i ∧ Same H H') ?_ ?_ ?_ ?_
    · exact ⟨[], none, none, rfl, upd_same, List.nodup_nil, fun p h => by simp at h, fun k => rfl, Nat.le_refl _, fun c o e => by walk_at "hp"⟩
    · rintro i σ H' _ ⟨_, _, _, _, _, _, _, _, _, s1⟩
      exact SqT.same hl s1
    · rintro i x σ _ H1 hi ⟨m, x2, x3, rfl, hm, nd, mp, hg, lm, s1⟩ ⟨rfl, hx⟩
      obtain ⟨p, hp, t, rfl, ht⟩ := Paired.at hps hx
      have p0 : 0 ≤ p.2 := h0 p (List.mem_of_getElem? hp)
      walk_at "go"
      refine ite_dF (by omega) ?_
      walk_at "go"
      have stp : ∀ k, tot (ps.take (i + 1)) k = tot (ps.take i) k + (if p.1 = k then p.2 else 0) := fun k => tot_take hp k
      refine ite_d (fun c => ?_) (fun c => ?_)
      · walk_at "go"
        refine ⟨Or.inl ⟨enc m, Or.inl hm⟩, ?_⟩
        walk_at "go"
        refine ⟨_, DGet_enc (r := look m p.1) (Or.inl hm) rfl, ?_⟩
        rw [get_look]
        walk_at "go"
        have gnn := get_nn mp nd p.1
        refine ⟨d, _, rfl, DPut_enc hm (szl (by omega)), put m p.1 (get m p.1 + p.2), _, _, rfl, upd_same, put_nodup nd, put_pos mp (by omega), fun k => ?_, ?_, fun c o e => ?_⟩
        · rw [get_put, stp, ← hg k]
          by_cases c : k = p.1
          · rw [if_pos c, if_pos c.symm, c]
          · rw [if_neg c, if_neg (Ne.symm c), Int.add_zero]
        · have := put_len m p.1 (get m p.1 + p.2)
          omega
        · have n1 : c ≠ d := ne_of_none e hd
          walk_at "hp"
      · walk_at "go"
        refine ⟨m, _, _, rfl, hm, nd, mp, fun k => ?_, by omega, s1⟩
        rw [hg k, stp]
        have : p.2 = 0 := by omega
        rw [this]
        split <;> omega
    · rintro σ H1 ⟨m, x2, x3, rfl, hm, nd, mp, hg, lm, s1⟩
      walk_at "go"
      refine q d m H1 hd hm nd mp (fun k => ?_) lm s1
      have e := hg k
      rw [lps, List.take_length] at e
      exact e
end


section
variable {P : Program} {w : World} {K : PySem.W.Frag} {mg : Str → Option Value} {base : Heap} {C : Addr}
abbrev sLotInit : Stmt := inClass (top 17) 0
theorem scLotInit : FnScope ["self", "pairs"] ["self", "pairs"] (defScope sLotInit) := ⟨rfl, rfl, rfl, by decide +kernel, rfl, by decide +kernel, by decide +kernel⟩
/-- what __init__ is given: pairs as a list -/
def spLotInit (K : PySem.W.Frag) (C : Addr) : Sp := fun vs H Q _ => ∃ (p dx l : Addr) (xs : List V) (ps : AL), vs = [.ref p, .ref l] ∧ H p = some (.ins C dx []) ∧ SqL K H l xs ∧ Paired (PrA H) xs ps ∧ xs.length ≤ 30 ∧ (∀ q ∈ ps, 0 ≤ q.2) ∧
  ∀ (m : AL) (H' : Hp), LoN C H H' p m → (∀ k, get m k = tot ps k) → (∀ c o, H c = some o → c ≠ p → H' c = some o) → Q .non H'
theorem ok_lotInit {f t0 : Addr} {fd : FuncData} (F : FunD K "__init__" "Lot.__init__" (defArgs sLotInit) (defBody sLotInit) (defScope sLotInit) [.ref t0] [] f fd) (L : TxL K C) (Cc : Cal P w K mg base CX0 1 "_counted" ["pairs"] (spOwnCounted K)) : FnOk P w K mg base CX0 2 f fd ["self", "pairs"] (spLotInit K C) := by
  refine F.ok scLotInit (fun vs H Q E h => ?_) (fun cdv A outer s H vs Q E hr h => ?_)
  · obtain ⟨p, dx, l, xs, ps, rfl, _⟩ := h
    rfl
  · obtain ⟨p, dx, l, xs, ps, rfl, hp, hl, hps, h30, h0, q⟩ := h
    refine ⟨_, (pss_one (ps_fld (pv 0) (pe_cal Cc hr pass0 (pa_cons (pv 1) pa_nil)) rfl)), ?_⟩
    walk_at "in"
    show tCal (spOwnCounted K) E0 (tCons (tVar 1) tNil) _ H _
    walk_at "go"
    refine ⟨l, xs, ps, rfl, hl, hps, h30, h0, fun d m H1 hd hm nd mp hg lm s1 => ?_⟩
    have n1 : d ≠ p := fun z => by rw [z, hp] at hd; cases hd
    refine ⟨_, rfl, p, C, dx, [], rfl, s1 _ _ hp, L.oc.cl, L.nM, by show 0 < 1000; decide, ?_⟩
    refine q m _ ⟨d, hd, ⟨dx, upd_same⟩, by walk_at "hp", nd, mp, by omega⟩ hg fun c o e n => ?_
    walk_at "hp"
abbrev sLotGetitem : Stmt := inClass (top 17) 2
abbrev sLotLen : Stmt := inClass (top 17) 6
theorem scLotLen : FnScope ["self"] ["self"] (defScope sLotLen) := ⟨rfl, rfl, rfl, by decide +kernel, rfl, by decide +kernel, by decide +kernel⟩
def spLotLen (C : Addr) : Sp := fun vs H Q _ => ∃ (a : Addr) (m : AL), vs = [.ref a] ∧ LoA C H a m ∧ Q (.int m.length) H
theorem ok_lotLen {f : Addr} {fd : FuncData} (F : Fun K "__len__" "Lot.__len__" sLotLen f fd) (T : Txt K mg) (L : TxL K C) : FnOk P w K mg base CX0 1 f fd ["self"] (spLotLen C) := by
  refine F.ok scLotLen (fun vs H Q E h => ?_) (fun cdv A outer s H vs Q E hr h => ?_)
  · obtain ⟨a, m, rfl, _⟩ := h
    rfl
  · obtain ⟨a, m, rfl, ⟨⟨d, dx, h1, h2⟩, nd, mp, ml⟩, q⟩ := h
    have hu := hu_of hr
    refine ⟨_, (pss_one (ps_ret (pe_callB c_lenD (by rfl) T.len (by decide +kernel) (pa_cons (pe_fld (pv 0) rfl) pa_nil)))), ?_⟩
    walk_at "in"
    walk_at "go"
    refine r_many L h1 ?_
    walk_at "go"
    rw [enc_len]
    exact q
abbrev sLotKinds : Stmt := inClass (top 17) 9
theorem scLotKinds : FnScope ["self"] ["self"] (defScope sLotKinds) := ⟨rfl, rfl, rfl, by decide +kernel, rfl, by decide +kernel, by decide +kernel⟩
def spLotKinds (C : Addr) : Sp := fun vs H Q _ => ∃ (a : Addr) (m : AL), vs = [.ref a] ∧ LoA C H a m ∧ ∀ (l : Addr) (ys : List Str) (H' : Hp), H l = none → H' l = some (.lst (ys.map V.str)) → ys.Perm (keys m) → PyProof.Rows.sortedS ys = true → Same H H' → Q (.ref l) H'
theorem ok_lotKinds {f : Addr} {fd : FuncData} (F : Fun K "kinds" "Lot.kinds" sLotKinds f fd) (T : Txt K mg) (L : TxL K C) : FnOk P w K mg base CX0 1 f fd ["self"] (spLotKinds C) := by
  refine F.ok scLotKinds (fun vs H Q E h => ?_) (fun cdv A outer s H vs Q E hr h => ?_)
  · obtain ⟨a, m, rfl, _⟩ := h
    rfl
  · obtain ⟨a, m, rfl, ⟨⟨d, dx, h1, h2⟩, nd, mp, ml⟩, q⟩ := h
    have hu := hu_of hr
    refine ⟨_, (pss_one (ps_ret (pe_callB (cr_sortedSO rfl) (by rfl) T.sorted (by decide +kernel) (pa_cons (pe_callTy cr_setD (by rfl) T.set (by decide +kernel) (pa_cons (pe_fld (pv 0) rfl) pa_nil)) pa_nil)))), ?_⟩
    walk_at "in"
    walk_at "go"
    refine r_many L h1 ?_
    walk_at "go"
    refine r_setD h2 ml fun t ht => ?_
    walk_at "go"
    have lk : (keys m).length = m.length := List.length_map _
    refine r_sortedSO upd_same (by omega) fun ys l hp hs hl => ?_
    have n1 : l ≠ t := fun z => by rw [z, upd_same] at hl; cases hl
    have hl0 : H l = none := by rw [upd_ne n1] at hl; exact hl
    exact q l ys _ hl0 upd_same hp hs fun c o e => by walk_at "hp"
end


section
variable {P : Program} {w : World} {K : PySem.W.Frag} {mg : Str → Option Value} {base : Heap} {C : Addr}
abbrev sLotPairs : Stmt := inClass (top 17) 10
theorem scLotPairs : FnScope ["self", "kind"] ["self"] (defScope sLotPairs) := ⟨rfl, rfl, rfl, by decide +kernel, rfl, by decide +kernel, by decide +kernel⟩
def spLotPairs (C : Addr) : Sp := fun vs H Q _ => ∃ (a : Addr) (m : AL), vs = [.ref a] ∧ LoA C H a m ∧ ∀ (p : Addr) (ts : List V) (qs : AL) (H' : Hp), H p = none → H' p = some (.tup ts) → Paired (PrA H') ts qs → Cn m qs → Same H H' → Q (.ref p) H'
theorem ok_lotPairs {f : Addr} {fd : FuncData} (F : Fun K "pairs" "Lot.pairs" sLotPairs f fd) (T : Txt K mg) (L : TxL K C) (Ok : OCal P w K mg base CX0 1 C "kinds" ["self"] (spLotKinds C)) : FnOk P w K mg base CX0 2 f fd ["self"] (spLotPairs C) := by
  refine F.ok scLotPairs (fun vs H Q E h => ?_) (fun cdv A outer s H vs Q E hr h => ?_)
  · obtain ⟨a, m, rfl, _⟩ := h
    rfl
  · obtain ⟨a, m, rfl, La, q⟩ := h
    have hu := hu_of hr
    refine ⟨_, (pss_one (ps_ret (pe_callTy c_tupL (by rfl) T.tuple (by decide +kernel) (pa_cons (pe_lc (own := [("kind", 1)]) (g := gName 1) (tt := tYes) rfl scLotPairs.nd (pi_list (pe_methO0 Ok L.oc.cl hr pass0 (pv 0))) (blkOk_by (N := ["self", "kind"]) (sc := defScope sLotPairs) (by decide +kernel)) (fun _ _ _ _ _ => (pg_name (i := 1) scLotPairs.nd rfl (Or.inl rfl))) (fun _ _ _ _ _ => pts_nil) (fun _ _ _ _ _ => (pe_tup (pa_cons (pv 1) (pa_cons (pe_dget hu (fldK K (pv 0) rfl) (pv 1) (fun _ _ => rfl)) pa_nil))))) pa_nil)))), ?_⟩
    walk_at "in"
    walk_at "go"
    obtain ⟨⟨d, dx, h1, h2⟩, nd, mp, ml⟩ := id La
    refine r_meth0 ?_
    walk_at "go"
    refine ⟨a, dx, _, rfl, h1, look1, a, m, rfl, La, fun l ys H1 hl hl1 hp hs s1 => ?_⟩
    walk_at "go"
    intro D hD
    have hD0 : H D = none := s1.free hD
    have nDl : D ≠ l := fun z => by rw [z, hl1] at hD; cases hD
    have lys : ys.length ≤ 30 := by rw [hp.length_eq]; show (keys m).length ≤ 30; rw [show (keys m).length = m.length from List.length_map _]; exact ml
    refine lc_it (walk_list (xs := ys.map V.str)) (fun i H' => ∃ xs, H' D = some (.lst xs) ∧ Paired (PrA H') xs ((ys.take i).map fun k => (k, get m k)) ∧ Same H1 H') ?_ ?_ ?_ ?_
    · exact ⟨[], upd_same, .nil, fun c o e => by have n1 : c ≠ D := ne_of_none e hD; walk_at "hp"⟩
    · rintro i H' _ ⟨_, _, _, s2⟩
      exact s2.seq (SqL.of hl1)
    · rintro i x _ H2 hi ⟨xs, hD1, hxs, s2⟩ ⟨rfl, hx⟩
      obtain ⟨k, rfl, hk⟩ := map_some hx
      walk_at "go"
      refine ⟨rfl, ?_⟩
      walk_at "go"
      refine iteT ?_
      walk_at "go"
      refine r_many L (s2 _ _ (s1 _ _ h1)) ?_
      walk_at "go"
      have kin : k ∈ keys m := hp.mem_iff.mp (List.mem_of_getElem? hk)
      have lk : look m k = some (get m k) := by
        obtain ⟨p, hpm, rfl⟩ := List.mem_map.mp kin
        unfold get
        rw [(look_mem nd).mpr (show (p.1, p.2) ∈ m from hpm)]
        rfl
      refine ⟨d, .int (get m k), rfl, DGet_enc (Or.inl (s2 _ _ (s1 _ _ h2))) lk, ?_⟩
      walk_at "go"
      rename_i t ht
      have n2 : D ≠ t := ne_of_none hD1 ht
      have lxs := Paired.len hxs
      have ltk : ((ys.take i).map fun k => (k, get m k)).length ≤ i := by rw [List.length_map, List.length_take]; omega
      have hi2 : i < ys.length := by rw [List.length_map] at hi; exact hi
      have k2 : Kp D H2 (upd (upd H2 t (.tup [V.str k, V.int (get m k)])) D (.lst (xs ++ [V.ref t]))) := fun c o e n => by walk_at "hp"
      refine ⟨xs, by walk_at "hp", szl (by omega), xs ++ [V.ref t], upd_same, ?_, fun c o e => ?_⟩
      · rw [List.take_add_one, hk, List.map_append]
        exact Paired.app (PrA.kpdAll hxs k2 hD1 (fun _ z => by cases z)) (.cons ⟨t, rfl, by walk_at "hp"⟩ .nil)
      · have n4 : c ≠ D := ne_of_none e hD
        walk_at "hp"
    · rintro H2 ⟨xs, hD1, hxs, s2⟩
      rw [List.length_map, List.take_length] at hxs
      walk_at "go"
      rename_i p hp2
      have hpp : H p = none := s1.free (s2.free hp2)
      refine q p xs _ _ hpp upd_same (Paired.mapP hxs fun _ _ z => ?_) (cn_of mp nd hp hs) fun c o e => by walk_at "hp"
      obtain ⟨t, e1, e2⟩ := z
      exact ⟨t, e1, upd_at e2 (ne_of_none e2 hp2)⟩
end


section
variable {P : Program} {w : World} {K : PySem.W.Frag} {mg : Str → Option Value} {base : Heap} {C : Addr}
/-- Lot(xs) by __init__'s promise -/
theorem init_end {H2 : Hp} {D : Addr} {xs : List V} {ps : AL} {R : Addr → Hp → Prop} {E : XK} (hD : H2 D = some (.lst xs)) (hps : Paired (PrA H2) xs ps) (hl : xs.length ≤ 30) (h0 : ∀ q ∈ ps, 0 ≤ q.2)
    (q : ∀ (x : Addr) (m' : AL) (H' : Hp), H2 x = none → LoN C H2 H' x m' → (∀ k, get m' k = tot ps k) → Same H2 H' → R x H') :
    ∀ x dx, H2 x = none → H2 dx = none → dx ≠ x → spLotInit K C [.ref x, .ref D] (upd (upd H2 dx (.own x)) x (.ins C dx [])) (fun v H2 => v = .non ∧ R x H2) E := by
  intro x dx hx hdx ne
  have s1 : Same H2 (upd (upd H2 dx (.own x)) x (.ins C dx [])) := fun c o e => by
    have n1 : c ≠ x := ne_of_none e hx
    have n2 : c ≠ dx := ne_of_none e hdx
    walk_at "hp"
  refine ⟨x, dx, D, xs, ps, rfl, upd_same, SqL.of (s1 _ _ hD), Paired.mapP hps fun _ _ z => z.same s1, hl, h0, fun m H' La hg kp => ⟨rfl, ?_⟩⟩
  refine q x m H' hx (La.mono s1) hg fun c o e => ?_
  exact kp c o (s1 c o e) (ne_of_none e hx)
abbrev sLotMul : Stmt := inClass (top 17) 14
end


section
variable {P : Program} {w : World} {K : PySem.W.Frag} {mg : Str → Option Value} {base : Heap} {C : Addr}
abbrev sLotSub : Stmt := inClass (top 17) 13
end


section
variable {P : Program} {w : World} {K : PySem.W.Frag} {mg : Str → Option Value} {base : Heap} {C : Addr}
theorem look_pos {m : AL} (nd : (keys m).Nodup) (ps : ∀ p ∈ m, 0 < p.2) (k : Str) : (look m k).isSome = decide (0 < get m k) := by
  cases e : look m k with
  | none =>
    have : get m k = 0 := by unfold get; rw [e]; rfl
    rw [this]
    rfl
  | some v =>
    have h1 := ps _ ((look_mem nd).mp e)
    have h2 : get m k = v := by unfold get; rw [e]; rfl
    rw [h2]
    exact (decide_eq_true (show 0 < v from h1)).symm
abbrev sLotContains : Stmt := inClass (top 17) 5
theorem scLotContains : FnScope ["self", "x"] ["self", "x"] (defScope sLotContains) := ⟨rfl, rfl, rfl, by decide +kernel, rfl, by decide +kernel, by decide +kernel⟩
def spLotContains (C : Addr) : Sp := fun vs H Q _ => ∃ (a : Addr) (k : Str) (m : AL), vs = [.ref a, .str k] ∧ LoA C H a m ∧ Q (.bl (decide (0 < get m k))) H
theorem ok_lotContains {f : Addr} {fd : FuncData} (F : Fun K "__contains__" "Lot.__contains__" sLotContains f fd) (L : TxL K C) : FnOk P w K mg base CX0 1 f fd ["self", "x"] (spLotContains C) := by
  refine F.ok scLotContains (fun vs H Q E h => ?_) (fun cdv A outer s H vs Q E hr h => ?_)
  · obtain ⟨a, k, m, rfl, _⟩ := h
    rfl
  · obtain ⟨a, k, m, rfl, ⟨⟨d, dx, h1, h2⟩, nd, mp, ml⟩, q⟩ := h
    have hu := hu_of hr
    refine ⟨_, pss_one (ps_ret (pe_cmp (pc_din hu (pv 1) (pe_fld (pv 0) rfl)))), ?_⟩
    walk_at "in"
    refine r_ret (r_var rfl (r_many L h1 ⟨d, (look m k).map V.int, rfl, DGet_enc (.inl h2) rfl, ?_⟩))
    rw [Option.isSome_map, look_pos nd mp]
    exact q
abbrev sLotAbs : Stmt := inClass (top 17) 7
/-- facts for isinstance of an own object -/
structure TxIs (K : PySem.W.Frag) (C : Addr) : Prop where
  ha : PySem.W.findIn K (.ref C) "__class__" = some (some (.builtin "object.__class__"))
  hn : PySem.W.specialIn K (.builtin "object.__class__") "__get__" = some (some (.builtin "getset_descriptor.__get__"))
  ht : PySem.W.takesIn K (.builtin "object.__class__") = some true
  hm : PySem.W.mroIn K C (.type "object") = some true
  kt : PySem.W.kitOne K (.type "tuple") (.ref C) = some false
/-- the other methods, by operators -/
abbrev sLotEq : Stmt := inClass (top 17) 8
end


section
variable {P : Program} {w : World} {K : PySem.W.Frag} {mg : Str → Option Value} {base : Heap} {C : Addr}
def sAbc : Str := Str.ofString "abcdefghijklmnopqrstuvwxyz"
def sDig : Str := Str.ofString "0123456789"
/-- the program's constants -/
structure GlS (mg : Str → Option Value) : Prop where
  lt : ∃ u, mg "_LETTERS" = some u ∧ RelV (.str sAbc) u
  dg : ∃ u, mg "_DIGITS" = some u ∧ RelV (.str sDig) u
  lk : ∃ u, mg "_LONGEST_KIND" = some u ∧ RelV (.int 8) u
  md : ∃ u, mg "_MOST_DIGITS" = some u ∧ RelV (.int 300) u
theorem abc_mem {c : Nat} : c ∈ sAbc.cps.toList ↔ 97 ≤ c ∧ c ≤ 122 := by
  have e : sAbc.cps.toList = (List.range 26).map (97 + ·) := by decide +kernel
  rw [e, List.mem_map]
  exact ⟨fun ⟨d, hd, z⟩ => by have := List.mem_range.mp hd; omega, fun h => ⟨c - 97, List.mem_range.mpr (by omega), by omega⟩⟩
theorem dig_mem {c : Nat} : c ∈ sDig.cps.toList ↔ 48 ≤ c ∧ c ≤ 57 := by
  have e : sDig.cps.toList = (List.range 10).map (48 + ·) := by decide +kernel
  rw [e, List.mem_map]
  exact ⟨fun ⟨d, hd, z⟩ => by have := List.mem_range.mp hd; omega, fun h => ⟨c - 48, List.mem_range.mpr (by omega), by omega⟩⟩
def rInS : V → V → Hp → VK → Prop := fun x y H Q => ∃ (c : Nat) (z : Str), x = .str ⟨#[c]⟩ ∧ y = .str z ∧ Q (.bl (decide (c ∈ z.cps.toList))) H
theorem op_inS {X : Cx} : OpR X (compareOp .In) rInS := op_in_sign
theorem r_inS {c : Nat} {z : Str} {H : Hp} {Q : VK} (q : Q (.bl (decide (c ∈ z.cps.toList))) H) : rInS (.str ⟨#[c]⟩) (.str z) H Q := ⟨c, z, rfl, rfl, q⟩
theorem r_chain {r r' : R2} {ta tb tc : TE} {σ : L2.St} {H : Hp} {Q : VK} (h : ta σ H fun x H1 => tb σ H1 fun y H2 => r x y H2 fun z H3 => ∃ k, z = .bl k ∧ (if k = true then tc σ H3 fun w' H4 => r' y w' H4 Q else Q (.bl false) H3)) : tChain r r' ta tb tc σ H Q := h
theorem r_iStr {te : TE} {σ : L2.St} {H : Hp} {R : It → Hp → Prop} (h : te σ H fun v H1 => ∃ x, v = .str x ∧ R (Its x) H1) : iStr te σ H R := h
/-- [c in L for c in z] -/
theorem lc_inL {σ : L2.St} {H : Hp} {Q : VK} {i j : Nat} {z L : Str} (hi : σ[i]? = some (some (.str z))) (hj : j < σ.length) (hz : z.length ≤ 100000)
    (hd : ∀ D H', H D = none → H' D = some (.lst (((cds z).map fun c => decide (c ∈ L.cps.toList)).map V.bl)) → Same H H' → Q (.ref D) H') :
    tLc (iStr (tVar i)) (gName j) tYes (tOp rInS (tVar j) (tC (.str L))) [j] σ H Q := by
  have hsl := PySem.sizeLine_eq
  refine r_lc (r_iStr (r_var hi ⟨z, rfl, fun D hD => ?_⟩))
  refine lc_it (walk_str (z := z)) (fun k H' => H' D = some (.lst ((((cds z).take k).map fun c => decide (c ∈ L.cps.toList)).map V.bl)) ∧ Same H H') ?_ (fun _ _ _ _ => trivial) ?_ ?_
  · exact ⟨upd_same, fun c o e => upd_at e (ne_of_none e hD)⟩
  · rintro k x H1 _ hk ⟨hD1, s1⟩ ⟨rfl, c, hc, rfl⟩
    refine r_gname ⟨by show ((wipe σ [j]).set j _).set j none = _; rw [List.set_set]; show (σ.set j none).set j none = σ.set j none; rw [List.set_set], ?_⟩
    refine r_yes (iteT ?_)
    refine r_op (r_var (by rw [List.getElem?_set_self (by rw [wipe_length]; exact hj)]) (r_c (r_inS ?_)))
    have hc' : (cds z)[k]? = some c := by rw [Array.getElem?_toList]; exact hc
    refine ⟨_, hD1, ?_, ?_, fun d o e => upd_at (s1 _ _ e) (ne_of_none e hD)⟩
    · rw [List.length_map, List.length_map, List.length_take, ← len_cds]; omega
    · rw [List.take_add_one, hc', List.map_append, List.map_append]
      exact upd_same
  · rintro H1 ⟨hD1, s1⟩
    have e : (cds z).take z.cps.size = cds z := List.take_of_length_le (by rw [Array.length_toList]; exact Nat.le_refl _)
    rw [e] at hD1
    exact hd D H1 hD hD1 s1
abbrev sIsKind : Stmt := top 14
theorem scIsKind : FnScope ["word", "letter"] ["word"] (defScope sIsKind) := ⟨rfl, rfl, rfl, by decide +kernel, rfl, by decide +kernel, by decide +kernel⟩
def spIsKind : Sp := fun vs H Q _ => ∃ z : Str, vs = [.str z] ∧ z.length ≤ 100000 ∧ ∀ (b : Bool) (H' : Hp), (b = true ↔ KindS z) → Same H H' → Q (.bl b) H'
theorem ok_isKind {f : Addr} {fd : FuncData} (F : Fun K "is_kind" "is_kind" sIsKind f fd) (T : Txt K mg) (G : GlS mg) : FnOk P w K mg base CX0 1 f fd ["word"] spIsKind := by
  refine F.ok scIsKind (fun vs H Q E h => ?_) (fun cdv A outer s H vs Q E hr h => ?_)
  · obtain ⟨z, rfl, _⟩ := h
    rfl
  · obtain ⟨z, rfl, hz, q⟩ := h
    have hsl := PySem.sizeLine_eq
    have hlc := len_cds z
    refine ⟨_, (pss_one (ps_ret (pe_and (pe_chain op_le op_le pe_int (pe_callB c_lenS (by rfl) T.len (by decide +kernel) (pa_cons (pv 0) pa_nil)) (C8.pe_gc (by rfl) G.lk)) (pe_one (pe_callB (cr_all rfl) (by rfl) T.all (by decide +kernel) (pa_cons (pe_lc (own := [("letter", 1)]) (g := gName 1) (tt := tYes) rfl scIsKind.nd (pi_str (pv 0)) (blkOk_by (N := ["word", "letter"]) (sc := defScope sIsKind) (by decide +kernel)) (fun _ _ _ _ _ => (pg_name (i := 1) scIsKind.nd rfl (Or.inl rfl))) (fun _ _ _ _ _ => pts_nil) (fun _ _ _ _ _ => (pe_cmpR op_inS (pv 1) (C8.pe_gc (by rfl) G.lt) (by rfl)))) pa_nil)))))), ?_⟩
    walk_at "in"
    walk_at "go"
    refine r_chain ?_
    walk_at "go"
    refine r_lenS (by omega) ?_
    walk_at "go"
    by_cases h1 : (1 : Int) ≤ (z.length : Int)
    · rw [if_pos (decide_eq_true h1)]
      walk_at "go"
      by_cases h2 : (z.length : Int) ≤ 8
      · rw [if_pos (decide_eq_true h2)]
        refine r_cb (r_cons ?_)
        refine lc_inL rfl (by simp) hz fun D H1 _ hD s1 => ?_
        walk_at "go"
        refine r_all (SqL.of hD) ?_
        refine q _ _ ?_ s1
        rw [List.all_map, List.all_eq_true]
        refine ⟨fun h => ⟨by omega, by omega, fun c hc => abc_mem.mp (of_decide_eq_true (h c hc))⟩, fun h c hc => decide_eq_true (abc_mem.mpr (h.2.2 c hc))⟩
      · rw [if_neg (by rw [decide_eq_false h2]; simp)]
        refine q _ _ ⟨fun h => ?_, fun h => absurd h.2.1 (by omega)⟩ fun _ _ e => e
        cases h
    · refine ite_dF h1 ?_
      refine ⟨false, rfl, ?_⟩
      rw [if_neg (by simp)]
      exact q _ _ ⟨fun h => (by cases h), fun h => absurd h.1 (by omega)⟩ fun _ _ e => e
abbrev sOwnIsMany : Stmt := top 15
theorem scOwnIsMany : FnScope ["word", "digit"] ["word"] (defScope sOwnIsMany) := ⟨rfl, rfl, rfl, by decide +kernel, rfl, by decide +kernel, by decide +kernel⟩
def spIsMany : Sp := fun vs H Q _ => ∃ z : Str, vs = [.str z] ∧ z.length ≤ 100000 ∧ ∀ (b : Bool) (H' : Hp), (b = true ↔ ManyS z) → Same H H' → Q (.bl b) H'
theorem ok_isMany {f : Addr} {fd : FuncData} (F : Fun K "_is_many" "_is_many" sOwnIsMany f fd) (T : Txt K mg) (G : GlS mg) : FnOk P w K mg base CX0 1 f fd ["word"] spIsMany := by
  refine F.ok scOwnIsMany (fun vs H Q E h => ?_) (fun cdv A outer s H vs Q E hr h => ?_)
  · obtain ⟨z, rfl, _⟩ := h
    rfl
  · obtain ⟨z, rfl, hz, q⟩ := h
    have hsl := PySem.sizeLine_eq
    have hlc := len_cds z
    refine ⟨_, (pss_cons (ps_if (PW.pt (pw_or (pt_not (pt_chain op_le op_le pe_int (pe_callB c_lenS (by rfl) T.len (by decide +kernel) (pa_cons (pv 0) pa_nil)) (C8.pe_gc (by rfl) G.md))) (pw_or1 (pt_cmpR op_eq (pe_ix ix_str (pv 0) pe_int (fun _ _ => rfl)) pe_str (nomark _)))))
  (pss_one (ps_ret pe_bl))
  pss_nil)
  (pss_one (ps_ret (pe_callB (cr_all rfl) (by rfl) T.all (by decide +kernel) (pa_cons (pe_lc (own := [("digit", 1)]) (g := gName 1) (tt := tYes) rfl scOwnIsMany.nd (pi_str (pv 0)) (blkOk_by (N := ["word", "digit"]) (sc := defScope sOwnIsMany) (by decide +kernel)) (fun _ _ _ _ _ => (pg_name (i := 1) scOwnIsMany.nd rfl (Or.inl rfl))) (fun _ _ _ _ _ => pts_nil) (fun _ _ _ _ _ => (pe_cmpR op_inS (pv 1) (C8.pe_gc (by rfl) G.dg) (by rfl)))) pa_nil))))), ?_⟩
    walk_at "in"
    walk_at "go"
    refine r_chain ?_
    walk_at "go"
    refine r_lenS (by omega) ?_
    walk_at "go"
    have no : ¬ (1 ≤ (cds z).length ∧ (cds z).length ≤ 300) → ¬ ManyS z := fun h g => h ⟨g.1, g.2.1⟩
    have none_ : ¬ ManyS z → Q (.bl false) H := fun h => q _ _ ⟨fun e => (by cases e), fun g => absurd g h⟩ fun _ _ e => e
    by_cases h1 : (1 : Int) ≤ (z.length : Int)
    · refine ite_dT h1 ?_
      walk_at "go"
      by_cases h2 : (z.length : Int) ≤ 300
      · refine ite_ndF h2 ?_
        walk_at "ps"
        walk_at "ps"
        obtain ⟨c, hc⟩ : ∃ c, (cds z)[0]? = some c := ⟨_, List.getElem?_eq_getElem (by omega)⟩
        refine r_op (r_var rfl (r_c ⟨z, 0, c, rfl, rfl, by omega, atI_nat (j := 0) hc, r_c (r_eq rfl ⟨_, rfl, ?_⟩)⟩))
        by_cases h3 : c = 48
        · subst h3
          refine ite_dT (by decide +kernel) ?_
          walk_at "go"
          exact none_ fun g => g.2.2.1 hc
        · refine ite_dF (fun e => h3 ?_) ?_
          · injection e with e
            have e2 : (⟨#[c]⟩ : Str).cps.toList = (Str.ofString "0").cps.toList := congrArg (fun z : Str => z.cps.toList) e
            rw [show (Str.ofString "0").cps.toList = [48] by decide +kernel] at e2
            injection e2
          · refine r_next ?_
            walk_at "ps"
            refine r_cb (r_cons ?_)
            refine lc_inL rfl (by simp) hz fun D H1 _ hD s1 => ?_
            walk_at "go"
            refine r_all (SqL.of hD) ?_
            refine q _ _ ?_ s1
            rw [List.all_map, List.all_eq_true]
            refine ⟨fun h => ⟨by omega, by omega, fun e => h3 ?_, fun c hc => dig_mem.mp (of_decide_eq_true (h c hc))⟩, fun h c hc => decide_eq_true (dig_mem.mpr (h.2.2.2 c hc))⟩
            rw [hc] at e
            injection e
      · refine ite_ndT h2 ?_
        refine iteT ?_
        walk_at "go"
        exact none_ (no (by omega))
    · refine ite_dF h1 ?_
      refine ⟨false, rfl, ?_⟩
      refine iteT ?_
      refine iteT ?_
      walk_at "go"
      exact none_ (no (by omega))
end


section
variable {P : Program} {w : World} {K : PySem.W.Frag} {mg : Str → Option Value} {base : Heap} {C : Addr}
/-- __init__ of pairs as a tuple -/
def spLotInitT (K : PySem.W.Frag) (C : Addr) : Sp := fun vs H Q _ => ∃ (p dx l : Addr) (xs : List V) (ps : AL), vs = [.ref p, .ref l] ∧ H p = some (.ins C dx []) ∧ SqT K H l xs ∧ Paired (PrA H) xs ps ∧ xs.length ≤ 30 ∧ (∀ q ∈ ps, 0 ≤ q.2) ∧
  ∀ (m : AL) (H' : Hp), LoN C H H' p m → (∀ k, get m k = tot ps k) → (∀ c o, H c = some o → c ≠ p → H' c = some o) → Q .non H'
theorem ok_lotInitT {f t0 : Addr} {fd : FuncData} (F : FunD K "__init__" "Lot.__init__" (defArgs sLotInit) (defBody sLotInit) (defScope sLotInit) [.ref t0] [] f fd) (L : TxL K C) (Cc : Cal P w K mg base CX0 1 "_counted" ["pairs"] (spOwnCountedT K)) : FnOk P w K mg base CX0 2 f fd ["self", "pairs"] (spLotInitT K C) := by
  refine F.ok scLotInit (fun vs H Q E h => ?_) (fun cdv A outer s H vs Q E hr h => ?_)
  · obtain ⟨p, dx, l, xs, ps, rfl, _⟩ := h
    rfl
  · obtain ⟨p, dx, l, xs, ps, rfl, hp, hl, hps, h30, h0, q⟩ := h
    refine ⟨_, (pss_one (ps_fld (pv 0) (pe_cal Cc hr pass0 (pa_cons (pv 1) pa_nil)) rfl)), ?_⟩
    walk_at "in"
    show tCal (spOwnCountedT K) E0 (tCons (tVar 1) tNil) _ H _
    walk_at "go"
    refine ⟨l, xs, ps, rfl, hl, hps, h30, h0, fun d m H1 hd hm nd mp hg lm s1 => ?_⟩
    have n1 : d ≠ p := fun z => by rw [z, hp] at hd; cases hd
    refine ⟨_, rfl, p, C, dx, [], rfl, s1 _ _ hp, L.oc.cl, L.nM, by show 0 < 1000; decide, ?_⟩
    refine q m _ ⟨d, hd, ⟨dx, upd_same⟩, by walk_at "hp", nd, mp, by omega⟩ hg fun c o e n => ?_
    walk_at "hp"
/-- Lot(xs) of a tuple by __init__'s promise -/
theorem initT_end {H2 : Hp} {D : Addr} {xs : List V} {ps : AL} {R : Addr → Hp → Prop} {E : XK} (hD : SqT K H2 D xs) (hps : Paired (PrA H2) xs ps) (hl : xs.length ≤ 30) (h0 : ∀ q ∈ ps, 0 ≤ q.2)
    (q : ∀ (x : Addr) (m' : AL) (H' : Hp), H2 x = none → LoN C H2 H' x m' → (∀ k, get m' k = tot ps k) → Same H2 H' → R x H') :
    ∀ x dx, H2 x = none → H2 dx = none → dx ≠ x → spLotInitT K C [.ref x, .ref D] (upd (upd H2 dx (.own x)) x (.ins C dx [])) (fun v H2 => v = .non ∧ R x H2) E := by
  intro x dx hx hdx ne
  have s1 : Same H2 (upd (upd H2 dx (.own x)) x (.ins C dx [])) := fun c o e => by
    have n1 : c ≠ x := ne_of_none e hx
    have n2 : c ≠ dx := ne_of_none e hdx
    walk_at "hp"
  refine ⟨x, dx, D, xs, ps, rfl, upd_same, My.SqT.same hD s1, Paired.mapP hps fun _ _ z => z.same s1, hl, h0, fun m H' La hg kp => ⟨rfl, ?_⟩⟩
  refine q x m H' hx (La.mono s1) hg fun c o e => ?_
  exact kp c o (s1 c o e) (ne_of_none e hx)
abbrev sLotAdd : Stmt := inClass (top 17) 12
/-- what n * m asks of the class beside its method -/
structure TxM (K : PySem.W.Frag) (C : Addr) : Prop where
  i1 : ∃ fo, PySem.W.findIn K (.type "int") (PySem.dunder Operator.Mult.info.2) = some fo
  i2 : ∃ ro, PySem.W.findIn K (.type "int") (dunderR Operator.Mult.info.2) = some ro
  c1 : ∃ f : Addr, PySem.W.findIn K (.ref C) (PySem.dunder Operator.Mult.info.2) = some (some (.ref f))
  c2 : ∃ f : Addr, PySem.W.findIn K (.ref C) (dunderR Operator.Mult.info.2) = some (some (.ref f))
  ci : PySem.W.subIn K (.ref C) (.type "int") = some false
abbrev sLotRmul : Stmt := inClass (top 17) 15
abbrev sLotAnd : Stmt := inClass (top 17) 16
abbrev sLotOr : Stmt := inClass (top 17) 17
end


section
variable {P : Program} {w : World} {K : PySem.W.Frag} {mg : Str → Option Value} {base : Heap} {C CB CS : Addr}
theorem r_xdv {f : Str} {i : Nat} {a C : Addr} {fs : List (Str × V)} {v : V} {σ : L2.St} {H : Hp} {Q : VK} (hi : σ[i]? = some (some (.ref a))) (er : Er H a C fs) (T : XfC K C) (hno : PySem.W.findIn K (.ref C) f = some none) (hl : fs.lookup f = some v) (q : Q v H) : tXd K f (tVar i) σ H Q :=
  ⟨.ref a, hi, a, C, fs, v, rfl, er, T, hno, hl, q⟩
abbrev sCountedX : Stmt := top 16
abbrev sLotInitX : Stmt := inClass (top 17) 0
abbrev sLotSubX : Stmt := inClass (top 17) 13
end


section
variable {P : Program} {w : World} {K : PySem.W.Frag} {mg : Str → Option Value} {base : Heap} {C CB CS : Addr}
theorem passTk {X : Cx} {W : WX} (tk : Takes X W) : PassS (CX X.prog X.w) X (fun σ => WE W σ) := fun pins σ H s e s' I c => passAt tk σ pins H s e s' I c
def del (m : AL) (k : Str) : AL := m.filter fun p => decide (p.1 ≠ k)
abbrev sLotSetitem : Stmt := inClass (top 17) 3
end


section
variable {P : Program} {w : World} {K : PySem.W.Frag} {mg : Str → Option Value} {base : Heap} {C CB CS : Addr}
abbrev sLotIadd : Stmt := inClass (top 17) 20
end


section
variable {P : Program} {w : World} {K : PySem.W.Frag} {mg : Str → Option Value} {base : Heap} {C CB CN : Addr}
abbrev sLotOf : Stmt := inClass (top 17) 1
theorem scLotOf : FnScope ["cls", "text", "words", "counts", "kinds", "kind", "word"] ["cls", "text"] (defScope sLotOf) := ⟨rfl, rfl, rfl, by decide +kernel, rfl, by decide +kernel, by decide +kernel⟩
def spPred (R : Str → Prop) : Sp := fun vs H Q _ => ∃ z : Str, vs = [.str z] ∧ z.length ≤ 100000 ∧ ∀ (b : Bool) (H' : Hp), (b = true ↔ R z) → Same H H' → Q (.bl b) H'
/-- [f(y) for y in ys] -/
theorem lc_pred {R : Str → Prop} {σ : L2.St} {H : Hp} {Q : VK} {i j : Nat} {a : Addr} {ys : List Str} (hi : σ[i]? = some (some (.ref a))) (hj : j < σ.length) (hs : SqL K H a (ys.map V.str)) (hl : ys.length ≤ 100000) (hz : ∀ y ∈ ys, y.length ≤ 100000)
    (hd : ∀ D H' (bs : List Bool), H D = none → H' D = some (.lst (bs.map V.bl)) → (bs.all id = true ↔ ∀ y ∈ ys, R y) → Same H H' → Q (.ref D) H') :
    tLc (iList K (tVar i)) (gName j) tYes (tCal (spPred R) E0 (tCons (tVar j) tNil)) [j] σ H Q := by
  have hsl := PySem.sizeLine_eq
  refine r_lc (r_iList (r_var hi ⟨a, rfl, ⟨_, hs⟩, fun D hD => ?_⟩))
  refine lc_it (walk_list (xs := ys.map V.str)) (fun k H' => ∃ bs : List Bool, H' D = some (.lst (bs.map V.bl)) ∧ bs.length = k ∧ (bs.all id = true ↔ ∀ y ∈ ys.take k, R y) ∧ Same H H') ?_ ?_ ?_ ?_
  · exact ⟨[], upd_same, rfl, by simp, fun c o e => upd_at e (ne_of_none e hD)⟩
  · rintro k H' _ ⟨_, _, _, _, s1⟩
    exact s1.seq hs
  · rintro k x _ H1 hk ⟨bs, hD1, hb, hall, s1⟩ ⟨rfl, hx⟩
    rw [List.getElem?_map] at hx
    obtain ⟨y, hy, rfl⟩ := Option.map_eq_some_iff.mp hx
    refine r_gname ⟨by show ((wipe σ [j]).set j _).set j none = _; rw [List.set_set]; show (σ.set j none).set j none = σ.set j none; rw [List.set_set], ?_⟩
    refine r_yes (iteT ?_)
    refine r_cal (r_cons (r_var (by rw [List.getElem?_set_self (by rw [wipe_length]; exact hj)]) (r_nil ?_)))
    refine ⟨y, rfl, hz y (List.mem_of_getElem? hy), fun b H2 hb2 s2 => ?_⟩
    rw [List.length_map] at hk
    refine ⟨_, s2 _ _ hD1, by rw [List.length_map]; omega, bs ++ [b], by rw [List.map_append]; exact upd_same, by rw [List.length_append, hb]; rfl, ?_, fun c o e => upd_at (s2 _ _ (s1 _ _ e)) (ne_of_none e hD)⟩
    rw [List.take_add_one, hy, List.all_append, Bool.and_eq_true, hall]
    constructor
    · rintro ⟨g1, g2⟩ w hw
      rcases List.mem_append.mp hw with hw | hw
      · exact g1 w hw
      · rw [List.mem_singleton.mp hw]
        exact hb2.mp (by simpa using g2)
    · intro g
      exact ⟨fun w hw => g w (List.mem_append_left _ hw), by simpa using hb2.mpr (g y (List.mem_append_right _ (List.mem_singleton_self _)))⟩
  · rintro H1 ⟨bs, hD1, hb, hall, s1⟩
    rw [List.length_map, List.take_length] at hall
    exact hd D H1 bs hD hD1 hall s1
theorem r_sl2 {te : TE} {tl th ts : TO} {σ : L2.St} {H : Hp} {Q : VK} (h : te σ H fun x H1 => tl σ H1 fun l H2 => th σ H2 fun u H3 => ts σ H3 fun st H4 => u = none ∧ st = some 2 ∧ ∃ (p : Addr) (xs : List V) (a : Nat), x = .ref p ∧ (l = none ∧ a = 0 ∨ l = some (a : Int)) ∧ SqL K H4 p xs ∧ ∀ q, H4 q = none → Q (.ref q) (L2.upd H4 q (.lst (evs (xs.drop a))))) : tSl2 K te tl th ts σ H Q := h
theorem word_len {z w : Str} (h : w ∈ words z) : w.length ≤ z.length := by
  have e := words_sum z
  have : w.length ≤ ((words z).map (·.length)).sum := by
    generalize words z = ws at h
    induction ws with
    | nil => cases h
    | cons a r ih =>
      rw [List.map_cons, List.sum_cons]
      rcases List.mem_cons.mp h with rfl | h
      · omega
      · have := ih h
        omega
  omega
theorem evs_mem {α : Type} {x : α} {xs : List α} (h : x ∈ evs xs) : x ∈ xs := by
  obtain ⟨i, hi⟩ := List.mem_iff_getElem?.mp h
  rw [evs_at] at hi
  exact List.mem_of_getElem? hi
theorem ods_mem {α : Type} {x : α} {xs : List α} (h : x ∈ ods xs) : x ∈ xs := List.mem_of_mem_drop (evs_mem h)
/-- facts of the error BadText -/
structure TxBt (K : PySem.W.Frag) (mg : Str → Option Value) (CN : Addr) : Prop where
  g : mg "BadText" = some (.ref CN)
  x : PySem.W.excIn K CN [.type "ValueError", .type "Exception", .type "BaseException", .type "object"] "ValueError.__new__" = true
  k : PySem.W.keepIn K (.ref CN) = true
  b : PySem.W.subIn K (.ref CN) (.type "BaseException") = some true
  t : PySem.W.typeIn K (.ref CN) = some (.type "type")
/-- a Lot of just these -/
def LotQ (C : Addr) (H H' : Hp) (x : Addr) (qs : AL) : Prop := ∃ m, LoN C H H' x m ∧ Cn m qs
structure Fit (z : Str) : Prop where
  le : z.length ≤ 100000
  bl : (cds z).count 32 ≤ 50
def spLotOf (C CN : Addr) : Sp := fun vs H Q E => ∃ z : Str, vs = [.ref C, .str z] ∧ Fit z ∧
  (∀ qs (x : Addr) (H' : Hp), Reads z qs → H x = none → LotQ C H H' x qs → Same H H' → Q (.ref x) H') ∧ (∀ H', Bad z → Same H H' → E (.ref CN) none H')
theorem ok_lotOf {f t0 : Addr} {fd : FuncData} (F : Fun K "of" "Lot.of" sLotOf f fd) (T : Txt K mg) (L : TxL K C) (TB : TxBt K mg CN) (Om : OMk P w K mg base CX0 2 C "Lot" ["self", "pairs"] (spLotInit K C)) (OmD : OMkD P w K mg base CX0 2 C ["self", "pairs"] [.ref t0] (spLotInitT K C)) (e0 : ∀ H, SqT K H t0 [])
    (Ck : Cal P w K mg base CX0 1 "is_kind" ["word"] spIsKind) (Cm : Cal P w K mg base CX0 1 "_is_many" ["word"] spIsMany) : FnOk P w K mg base (CX P w) 4 f fd ["cls", "text"] (spLotOf C CN) := by
  refine F.okX scLotOf (fun vs H Q E h => ?_) (fun cdv A outer s H vs Q E hr h => ?_)
  · obtain ⟨z, rfl, _⟩ := h
    rfl
  · obtain ⟨z, rfl, ft, q, qe⟩ := h
    have hsl := PySem.sizeLine_eq
    refine ⟨_, (pss_cons (ps_if (pt_cmpR op_eq (pv 1) pe_str (nomark _))
  (pss_one (ps_ret (pe_makeV0 (i := 0) OmD hr pass0 rfl (Or.inl rfl))))
  pss_nil)
  (pss_cons (ps_set (i := 2) scLotOf.nd rfl (Or.inl rfl) (pe_split (pv 1) pe_str))
  (pss_cons (ps_set (i := 3) scLotOf.nd rfl (Or.inl rfl) (pe_slice2 (pv 2) po_none po_none (po_some pe_int)))
  (pss_cons (ps_set (i := 4) scLotOf.nd rfl (Or.inl rfl) (pe_slice2 (pv 2) (po_some pe_int) po_none (po_some pe_int)))
  (pss_cons (ps_if (PW.pt (pw_or (pt_cmpR op_ne (pe_callB c_lenL (by rfl) T.len (by decide +kernel) (pa_cons (pv 3) pa_nil)) (pe_callB c_lenL (by rfl) T.len (by decide +kernel) (pa_cons (pv 4) pa_nil)) (nomark _)) (pw_or1 (pt_not (pt_val (pe_callB (cr_all rfl) (by rfl) T.all (by decide +kernel) (pa_cons (pe_lc (own := [("word", 6)]) (g := gName 6) (tt := tYes) rfl scLotOf.nd (pi_list (pv 3)) (blkOk_by (N := ["cls", "text", "words", "counts", "kinds", "kind", "word"]) (sc := defScope sLotOf) (by decide +kernel)) (fun _ _ _ _ _ => (pg_name (i := 6) scLotOf.nd rfl (Or.inl rfl))) (fun _ _ _ _ _ => pts_nil) (fun _ _ _ _ _ => (pe_cal Cm (hr.mono (by decide)) pass0 (pa_cons (pv 6) pa_nil)))) pa_nil)))))))
  (pss_one (ps_raise rfl (takes_of rfl rfl rfl rfl) (pmk_own0 PySem.F.excBase_ValueError TB.x TB.g TB.k (raises_own TB.b TB.t) (by rfl))))
  pss_nil)
  (pss_cons (ps_if (PW.pt (pw_or (pt_not (pt_val (pe_callB (cr_all rfl) (by rfl) T.all (by decide +kernel) (pa_cons (pe_lc (own := [("word", 6)]) (g := gName 6) (tt := tYes) rfl scLotOf.nd (pi_list (pv 4)) (blkOk_by (N := ["cls", "text", "words", "counts", "kinds", "kind", "word"]) (sc := defScope sLotOf) (by decide +kernel)) (fun _ _ _ _ _ => (pg_name (i := 6) scLotOf.nd rfl (Or.inl rfl))) (fun _ _ _ _ _ => pts_nil) (fun _ _ _ _ _ => (pe_cal Ck (hr.mono (by decide)) pass0 (pa_cons (pv 6) pa_nil)))) pa_nil)))) (pw_or1 (pt_cmpR (op_neD hr.units) (pv 4) (pe_callB (cr_sortedSO rfl) (by rfl) T.sorted (by decide +kernel) (pa_cons (pe_callTy (cr_setL rfl) (by rfl) T.set (by decide +kernel) (pa_cons (pv 4) pa_nil)) pa_nil)) (nomark _)))))
  (pss_one (ps_raise rfl (takes_of rfl rfl rfl rfl) (pmk_own0 PySem.F.excBase_ValueError TB.x TB.g TB.k (raises_own TB.b TB.t) (by rfl))))
  pss_nil)
  (pss_one (ps_ret (pe_makeV (i := 0) Om hr pass0 rfl (Or.inl rfl) (pa_cons (pe_lc (own := [("kind", 5), ("word", 6)]) (g := gTup _ 2 (gCons (gName 5) (gCons (gName 6) gNil))) (tt := tYes) rfl scLotOf.nd (RZ.pi_zipA (by rfl) T.zip (pa_cons (pv 4) (pa_cons (pv 3) pa_nil))) (blkOk_by (N := ["cls", "text", "words", "counts", "kinds", "kind", "word"]) (sc := defScope sLotOf) (by decide +kernel)) (fun _ _ _ _ _ => (pg_tup rfl (pgs_cons (pg_name (i := 5) scLotOf.nd rfl (Or.inl rfl)) (pgs_cons (pg_name (i := 6) scLotOf.nd rfl (Or.inl rfl)) pgs_nil)))) (fun _ _ _ _ _ => pts_nil) (fun _ _ _ _ _ => (pe_tup (pa_cons (pv 5) (pa_cons (pe_callTy call_int_str (by rfl) T.int (by decide +kernel) (pa_cons (pv 6) pa_nil)) pa_nil))))) pa_nil)))))))))), ?_⟩
    walk_at "in"
    walk_at "go"
    have hw := words_len z
    have hb := ft.bl
    have hz := ft.le
    refine ite2 (fun c => ?_) (fun c => ?_)
    · have ez : z = dash := by
        have := of_decide_eq_true c
        injection this
      walk_at "ps"
      refine ⟨rfl, r_mk (r_nil ?_)⟩
      intro x dx hx hdx hne
      have sI : Same H (upd (upd H dx (.own x)) x (.ins C dx [])) := fun c o e => by
        have e1 := upd_at (a := dx) (o := HO.own x) e (ne_of_none e hdx)
        exact upd_at e1 (ne_of_none e hx)
      refine ⟨x, dx, t0, [], [], rfl, upd_same, e0 _, .nil, by decide, fun _ h => (by cases h), fun m H' La hg kp => ⟨rfl, ?_⟩⟩
      have s2 : Same H H' := fun c o e => kp c o (sI _ _ e) (ne_of_none e hx)
      exact q [] x H' ⟨.inl ⟨ez, rfl⟩⟩ hx ⟨m, La.mono sI, cn_tot La.lo.nd (by exact List.nodup_nil) (fun p hp => by cases hp) .nil hg⟩ s2
    · have nz : z ≠ dash := fun e => c (decide_eq_true (by rw [e]; rfl))
      walk_at "go"
      refine ⟨z, _, rfl, rfl, by decide +kernel, by omega, fun p hp => ?_⟩
      walk_at "go"
      refine r_sl2 ?_
      walk_at "go"
      refine ⟨rfl, rfl, p, (words z).map V.str, 0, rfl, .inl ⟨rfl, rfl⟩, SqL.of upd_same, fun p2 hp2 => ?_⟩
      walk_at "go"
      refine r_sl2 ?_
      walk_at "go"
      refine ⟨rfl, rfl, p, (words z).map V.str, 1, rfl, .inr rfl, SqL.of (upd_at upd_same (ne_of_none upd_same hp2)), fun p3 hp3 => ?_⟩
      walk_at "ps"
      have h2 : upd (upd (upd H p (HO.lst (List.map V.str (Txt.split z (Str.ofString " "))))) p2 (HO.lst (evs (List.drop 0 (List.map V.str (words z)))))) p3 (HO.lst (evs (List.drop 1 (List.map V.str (words z))))) p2 = some (.lst ((evs (words z)).map V.str)) := by
        refine (upd_at upd_same (ne_of_none upd_same hp3)).trans ?_
        rw [List.drop_zero, evs_map]
      have h3 : upd (upd (upd H p (HO.lst (List.map V.str (Txt.split z (Str.ofString " "))))) p2 (HO.lst (evs (List.drop 0 (List.map V.str (words z)))))) p3 (HO.lst (evs (List.drop 1 (List.map V.str (words z))))) p3 = some (.lst ((ods (words z)).map V.str)) := by
        refine upd_same.trans ?_
        rw [← List.map_drop, evs_map]
        rfl
      have s1 : Same H (upd (upd (upd H p (HO.lst (List.map V.str (Txt.split z (Str.ofString " "))))) p2 (HO.lst (evs (List.drop 0 (List.map V.str (words z)))))) p3 (HO.lst (evs (List.drop 1 (List.map V.str (words z)))))) := fun c o e => by
        have e1 := upd_at (a := p) (o := HO.lst (List.map V.str (Txt.split z (Str.ofString " ")))) e (ne_of_none e hp)
        have e2 := upd_at (a := p2) (o := HO.lst (evs (List.drop 0 (List.map V.str (words z))))) e1 (ne_of_none e1 hp2)
        exact upd_at e2 (ne_of_none e2 hp3)
      generalize upd (upd (upd H p (HO.lst (List.map V.str (Txt.split z (Str.ofString " "))))) p2 (HO.lst (evs (List.drop 0 (List.map V.str (words z)))))) p3 (HO.lst (evs (List.drop 1 (List.map V.str (words z))))) = H1 at h2 h3 s1 ⊢
      clear hp hp2 hp3
      have lc := evs_len (words z)
      have lk := ods_len (words z)
      walk_at "go"
      have no : ∀ H', Same H1 H' → ¬ OkW (words z) → E (.ref CN) none H' := fun H' s2 h => qe H' ⟨nz, h⟩ fun c o e => s2 _ _ (s1 _ _ e)
      by_cases ev : (words z).length % 2 = 0
      case neg =>
        refine ite_ndT (fun e => ?_) (iteT (no _ (fun _ _ e => e) fun h => ev h.ev))
        injection e with e
        rw [List.length_map, List.length_map] at e
        omega
      refine ite_ndF ?_ ?_
      · congr 1
        rw [List.length_map, List.length_map]
        omega
      walk_at "ps"
      walk_at "ps"
      walk_at "ps"
      walk_at "ps"
      refine lc_pred (R := ManyS) rfl (by simp) (SqL.of h2) (by omega) (fun y hy => Nat.le_trans (word_len (evs_mem hy)) hz) fun D H2 bs _ hD hbs s2 => ?_
      walk_at "go"
      refine r_all (SqL.of hD) ?_
      walk_at "go"
      cases hall : bs.all id with
      | false =>
        refine iteT (no _ s2 fun h => ?_)
        have := hbs.mpr h.nu
        rw [hall] at this
        cases this
      | true =>
        have nu := hbs.mp hall
        refine iteF ?_
        walk_at "ps"
        iterate 7 walk_at "ps"
        have h3' := s2 _ _ h3
        refine lc_pred (R := KindS) rfl (by simp) (SqL.of h3') (by omega) (fun y hy => Nat.le_trans (word_len (ods_mem hy)) hz) fun D2 H3 bs2 _ hD2 hbs2 s3 => ?_
        walk_at "go"
        refine r_all (SqL.of hD2) ?_
        walk_at "go"
        have s13 : Same H1 H3 := fun c o e => s3 _ _ (s2 _ _ e)
        cases hall2 : bs2.all id with
        | false =>
          refine iteT (iteT (no _ s13 fun h => ?_))
          have := hbs2.mpr h.ki
          rw [hall2] at this
          cases this
        | true =>
          have ki := hbs2.mp hall2
          refine iteF ?_
          have h33 := s13 _ _ h3
          have h23 := s13 _ _ h2
          clear hD hD2 h3' s2 s3 hall hall2 hbs hbs2
          walk_at "go"
          refine ⟨p3, ods (words z), rfl, SqL.of h33, by omega, fun a L ha nd me => ?_⟩
          walk_at "go"
          have ll := nodup_sub_len nd fun k hk => (me k).mp hk
          refine r_sortedSO upd_same (by omega) fun ys l hp hs hl => ?_
          have n1 : l ≠ a := fun z => by rw [z, upd_same] at hl; cases hl
          have hl0 : H3 l = none := by rw [upd_ne n1] at hl; exact hl
          have s4 : Same H3 (upd (upd H3 a (SetSO P w a L)) l (.lst (ys.map V.str))) := fun c o e => upd_at (upd_at e (ne_of_none e ha)) (ne_of_none e hl0)
          have h4 : upd (upd H3 a (SetSO P w a L)) l (.lst (ys.map V.str)) l = some (.lst (ys.map V.str)) := upd_same
          show rNeD K (V.ref p3) (V.ref l) (upd (upd H3 a (SetSO P w a L)) l (.lst (ys.map V.str))) _
          generalize upd (upd H3 a (SetSO P w a L)) l (.lst (ys.map V.str)) = H4 at s4 h4 ⊢
          clear hl ha
          have ky : ∀ k ∈ ys, KindS k := fun k hk => ki k ((me k).mp (hp.mem_iff.mp hk))
          refine ⟨sd (ods (words z)), sd ys, ?_, ?_, shaped_sd ki, shaped_sd ky, ?_⟩
          · exact .lst (SqL.of (s4 _ _ h33)) (dp_strs _)
          · exact .lst (SqL.of h4) (dp_strs _)
          rw [eqv_sd]
          have ai := asc_iff nd me hp hs
          refine ⟨_, rfl, ?_⟩
          by_cases up : ods (words z) = ys
          case neg =>
            refine ite_ndT up (no _ (fun c o e => s4 _ _ (s13 _ _ e)) fun h => up (ai.mpr h.up))
          refine ite_ndF up ?_
          have ok : OkW (words z) := ⟨ev, nu, ki, ai.mp up⟩
          walk_at "ps"
          walk_at "ps"
          refine ⟨rfl, r_mk (r_cons (r_lc (r_iZipA (r_cons (r_var rfl (r_cons (r_var rfl (r_nil ⟨p3, p2, _, _, rfl, .inl ⟨SqL.of (s4 _ _ h33), SqL.of (s4 _ _ h23), fun D3 hD3 => ?_⟩⟩))))))))⟩
          have l1 := qsOf_len ev
          refine lc_it (walk_zip (xs := (ods (words z)).map V.str) (ys := (evs (words z)).map V.str) (n := (qsOf (words z)).length) (by rw [List.length_map, List.length_map]; omega)) (fun i H' => ∃ xs, H' D3 = some (.lst xs) ∧ Paired (PrA H') xs ((qsOf (words z)).take i) ∧ Same H4 H') ?_ ?_ ?_ ?_
          · exact ⟨[], upd_same, .nil, fun c o e => upd_at e (ne_of_none e hD3)⟩
          · rintro i H' _ ⟨_, _, _, s5⟩
            exact ⟨SqL.of (s5 _ _ (s4 _ _ h33)), SqL.of (s5 _ _ (s4 _ _ h23))⟩
          · rintro i _ H5 _ hi ⟨xs, hD4, hxs, s5⟩ ⟨t, u, v, rfl, ht, rfl, hu, hv⟩
            replace hu : ((ods (words z)).map V.str)[i]? = some u := hu
            replace hv : ((evs (words z)).map V.str)[i]? = some v := hv
            rw [List.getElem?_map] at hu hv
            obtain ⟨k, hk, rfl⟩ := Option.map_eq_some_iff.mp hu
            obtain ⟨n, hn, rfl⟩ := Option.map_eq_some_iff.mp hv
            have mn := nu n (List.mem_of_getElem? hn)
            have mn2 := mn.2.1
            rw [← len_cds] at mn2
            have hat := qsOf_at hn hk
            walk_at "go"
            refine ⟨rfl, r_yes (iteT ?_)⟩
            walk_at "go"
            refine ⟨n, _, rfl, mn.reads, by omega, ?_⟩
            walk_at "go"
            rename_i u hu1
            have nt : D3 ≠ t := ne_of_none hD4 ht
            have hD5 : upd (upd H5 t (HO.tup [V.str k, V.str n])) u (HO.tup [V.str k, V.int (num n)]) D3 = some (.lst xs) := upd_at (upd_at hD4 nt) (ne_of_none (upd_at hD4 nt) hu1)
            have n2 : D3 ≠ u := ne_of_none (upd_at hD4 nt) hu1
            have lxs := Paired.len hxs
            have ltk : ((qsOf (words z)).take i).length ≤ i := by rw [List.length_take]; omega
            have s6 : Same H5 (upd (upd H5 t (HO.tup [V.str k, V.str n])) u (HO.tup [V.str k, V.int (num n)])) := fun c o e => by
              have e1 := upd_at (a := t) (o := HO.tup [V.str k, V.str n]) e (ne_of_none e ht)
              exact upd_at e1 (ne_of_none e1 hu1)
            have hu2 : upd (upd H5 t (HO.tup [V.str k, V.str n])) u (HO.tup [V.str k, V.int (num n)]) u = some (.tup [V.str k, V.int (num n)]) := upd_same
            generalize upd (upd H5 t (HO.tup [V.str k, V.str n])) u (HO.tup [V.str k, V.int (num n)]) = H6 at hD5 s6 hu2 ⊢
            have k2 : Kp D3 H5 (upd H6 D3 (.lst (xs ++ [V.ref u]))) := fun c o e n => upd_at (s6 _ _ e) n
            refine ⟨xs, hD5, szl (by omega), xs ++ [V.ref u], upd_same, ?_, fun c o e => ?_⟩
            · rw [List.take_add_one, hat]
              exact Paired.app (PrA.kpdAll hxs k2 hD4 (fun _ z => by cases z)) (.cons ⟨u, rfl, upd_at hu2 (fun e => n2 e.symm)⟩ .nil)
            · exact upd_at (s6 _ _ (s5 _ _ e)) (ne_of_none e hD3)
          · rintro H5 ⟨xs, hD4, hxs, s5⟩
            rw [List.take_length] at hxs
            have lxs := Paired.len hxs
            have sA : Same H H5 := fun c o e => s5 _ _ (s4 _ _ (s13 _ _ (s1 _ _ e)))
            refine r_nil (init_end hD4 hxs (by omega) (fun q hq => Int.le_of_lt (qsOf_pos ok q hq).1) fun x m' H6 hx Lx hg s6 => ?_)
            exact q (qsOf (words z)) x H6 ⟨.inr ⟨nz, ok, rfl⟩⟩ (sA.free hx) ⟨m', Lx.mono sA, cn_tot Lx.lo.nd (qsOf_nodup ok) (fun p hp => (qsOf_pos ok p hp).1) (qsOf_up ok) hg⟩ fun c o e => s6 _ _ (sA _ _ e)
end


/-- the same data, to a depth -/
def Sm (K : PySem.W.Frag) : Nat → V → V → Hp → Prop
  | 0, _, _, _ => False
  | n + 1, x, y, H => (x = y ∧ (x = .non ∨ (∃ b, x = .bl b) ∨ (∃ i, x = .int i) ∨ ∃ s, x = .str s)) ∨
    (∃ a b xs ys, x = .ref a ∧ y = .ref b ∧ H a = some (.lst xs) ∧ H b = some (.lst ys) ∧ xs.length = ys.length ∧ xs.length ≤ 1000 ∧ ∀ (i : Nat) (u v : V), xs[i]? = some u → ys[i]? = some v → Sm K n u v H) ∨
    (∃ a b xs ys, x = .ref a ∧ y = .ref b ∧ H a = some (.tup xs) ∧ H b = some (.tup ys) ∧ xs.length = ys.length ∧ xs.length ≤ 1000 ∧ ∀ (i : Nat) (u v : V), xs[i]? = some u → ys[i]? = some v → Sm K n u v H)
theorem walk_zipT {K : PySem.W.Frag} {a b : Addr} {xs ys : List V} {n : Nat} (h1 : n = xs.length) (h2 : n = ys.length) : Walk (RZ.ItzT K a b) n (fun H => SqT K H a xs ∧ SqT K H b ys) (YPair (fun i => xs[i]?) (fun i => ys[i]?)) := by
  refine ⟨fun i _ hi q => ?_, fun _ q => ⟨xs, ys, q.1, q.2, by omega⟩, fun i H v H' _ q y => ?_⟩
  · have h1 : i < xs.length := by omega
    have h2 : i < ys.length := by omega
    exact ⟨xs, ys, xs[i], ys[i], q.1, q.2, by simp [h1], by simp [h2]⟩
  · obtain ⟨T, x, z, h1, h2, h3, h4, h5⟩ := y
    exact ⟨T, x, z, h1, h2, h3, h4 xs q.1, h5 ys q.2⟩
theorem Sm.same {K : PySem.W.Frag} : ∀ {n : Nat} {x y : V} {H H' : Hp}, Sm K n x y H → Same H H' → Sm K n x y H'
  | 0, _, _, _, _, h, _ => h.elim
  | n + 1, x, y, H, H', h, e => by
    rcases h with h | ⟨a, b, xs, ys, h1, h2, h3, h4, h5, h6, h7⟩ | ⟨a, b, xs, ys, h1, h2, h3, h4, h5, h6, h7⟩
    · exact .inl h
    · exact .inr (.inl ⟨a, b, xs, ys, h1, h2, e _ _ h3, e _ _ h4, h5, h6, fun i u v hu hv => (h7 i u v hu hv).same e⟩)
    · exact .inr (.inr ⟨a, b, xs, ys, h1, h2, e _ _ h3, e _ _ h4, h5, h6, fun i u v hu hv => (h7 i u v hu hv).same e⟩)
section
variable {P : Program} {w : World} {K : PySem.W.Frag} {mg : Str → Option Value} {base : Heap}
abbrev sSame : Stmt := top 31
theorem scSame : FnScope ["_law_got", "_law_due", "_law_own", "_law_mine", "_law_its"] ["_law_got", "_law_due"] (defScope sSame) := ⟨rfl, rfl, rfl, by decide +kernel, rfl, by decide +kernel, by decide +kernel⟩
def spSame (K : PySem.W.Frag) (n : Nat) : Sp := fun vs H Q _ => ∃ x y, vs = [x, y] ∧ Sm K n x y H ∧ ∀ H', Same H H' → Q (.bl true) H'
theorem ok_same {f : Addr} {fd : FuncData} (F : Fun K "_law_same" "_law_same" sSame f fd) (T : Txt K mg) (n : Nat) (Cs : Cal P w K mg base CX0 n "_law_same" ["_law_got", "_law_due"] (spSame K n)) : FnOk P w K mg base CX0 (n + 1) f fd ["_law_got", "_law_due"] (spSame K (n + 1)) := by
  refine F.ok scSame (fun vs H Q E h => ?_) (fun cdv A outer s H vs Q E hr h => ?_)
  · obtain ⟨x, y, rfl, _⟩ := h
    rfl
  · obtain ⟨x, y, rfl, hs, q⟩ := h
    refine ⟨_, (pss_cons (ps_if (pt_val (pe_callB call_isiT (by rfl) T.isinstance (by decide +kernel) (pa_cons (pv 1) (pa_cons (pe_tup (pa_cons (pe_bltn (v := .ty "list") (by rfl) T.list (by decide +kernel) rfl) (pa_cons (pe_bltn (v := .ty "tuple") (by rfl) T.tuple (by decide +kernel) rfl) pa_nil))) pa_nil))))
  (pss_cons (ps_if (PW.pt (pw_or (pt_cmpR op_ne (pe_callB call_isi (by rfl) T.isinstance (by decide +kernel) (pa_cons (pv 0) (pa_cons (pe_bltn (v := .ty "list") (by rfl) T.list (by decide +kernel) rfl) pa_nil))) (pe_callB call_isi (by rfl) T.isinstance (by decide +kernel) (pa_cons (pv 1) (pa_cons (pe_bltn (v := .ty "list") (by rfl) T.list (by decide +kernel) rfl) pa_nil))) (nomark _)) (pw_or1 (pt_cmpR op_ne (pe_callB call_isi (by rfl) T.isinstance (by decide +kernel) (pa_cons (pv 0) (pa_cons (pe_bltn (v := .ty "tuple") (by rfl) T.tuple (by decide +kernel) rfl) pa_nil))) (pe_callB call_isi (by rfl) T.isinstance (by decide +kernel) (pa_cons (pv 1) (pa_cons (pe_bltn (v := .ty "tuple") (by rfl) T.tuple (by decide +kernel) rfl) pa_nil))) (nomark _)))))
  (pss_one (ps_ret pe_bl))
  pss_nil)
  (pss_one (ps_ret (pe_and (pe_cmpR op_eq (pe_callB call_len (by rfl) T.len (by decide +kernel) (pa_cons (pv 0) pa_nil)) (pe_callB call_len (by rfl) T.len (by decide +kernel) (pa_cons (pv 1) pa_nil)) (nomark _)) (pe_one (pe_callB (cr_all rfl) (by rfl) T.all (by decide +kernel) (pa_cons (pe_lc (own := [("_law_mine", 3), ("_law_its", 4)]) (g := gTup _ 2 (gCons (gName 3) (gCons (gName 4) gNil))) (tt := tYes) rfl scSame.nd (RZ.pi_zipA (by rfl) T.zip (pa_cons (pv 0) (pa_cons (pv 1) pa_nil))) (blkOk_by (N := ["_law_got", "_law_due", "_law_own", "_law_mine", "_law_its"]) (sc := defScope sSame) (by decide +kernel)) (fun _ _ _ _ _ => (pg_tup rfl (pgs_cons (pg_name (i := 3) scSame.nd rfl (Or.inl rfl)) (pgs_cons (pg_name (i := 4) scSame.nd rfl (Or.inl rfl)) pgs_nil)))) (fun _ _ _ _ _ => pts_nil) (fun _ _ _ _ _ => (pe_cal Cs hr pass0 (pa_cons (pv 3) (pa_cons (pv 4) pa_nil))))) pa_nil)))))))
  pss_nil)
  (pss_cons (ps_if (pt_val (pe_callB call_isi (by rfl) T.isinstance (by decide +kernel) (pa_cons (pv 1) (pa_cons (pe_bltn (v := .ty "dict") (by rfl) T.dict (by decide +kernel) rfl) pa_nil))))
  pss_never
  pss_nil)
  (pss_cons (ps_if (PW.pt (pw_or (pt_cmpR o_isN (pv 1) pe_non (nomark _)) (pw_or1 (pt_val (pe_callB call_isiT (by rfl) T.isinstance (by decide +kernel) (pa_cons (pv 1) (pa_cons (pe_tup (pa_cons (pe_bltn (v := .ty "bool") (by rfl) T.bool (by decide +kernel) rfl) (pa_cons (pe_bltn (v := .ty "str") (by rfl) T.str (by decide +kernel) rfl) pa_nil))) pa_nil)))))))
  (pss_one (ps_ret (pe_and (pe_cmpR op_eq (pv 0) (pv 1) (nomark _)) (pe_and (pe_cmpR op_eq (pe_callB call_isi (by rfl) T.isinstance (by decide +kernel) (pa_cons (pv 0) (pa_cons (pe_bltn (v := .ty "bool") (by rfl) T.bool (by decide +kernel) rfl) pa_nil))) (pe_callB call_isi (by rfl) T.isinstance (by decide +kernel) (pa_cons (pv 1) (pa_cons (pe_bltn (v := .ty "bool") (by rfl) T.bool (by decide +kernel) rfl) pa_nil))) (nomark _)) (pe_one (pe_cmpR op_eq (pe_cmpR o_isN (pv 0) pe_non (nomark _)) (pe_cmpR o_isN (pv 1) pe_non (nomark _)) (nomark _)))))))
  pss_nil)
  (pss_one (ps_ret (pe_and (pe_callB call_isi (by rfl) T.isinstance (by decide +kernel) (pa_cons (pv 0) (pa_cons (pe_bltn (v := .ty "int") (by rfl) T.int (by decide +kernel) rfl) pa_nil))) (pe_and (pe_not (pe_callB call_isi (by rfl) T.isinstance (by decide +kernel) (pa_cons (pv 0) (pa_cons (pe_bltn (v := .ty "bool") (by rfl) T.bool (by decide +kernel) rfl) pa_nil)))) (pe_one (pe_cmpR op_eq (pv 0) (pv 1) (nomark _)))))))))), ?_⟩
    walk_at "in"
    walk_at "go"
    rename_i p hp
    have fin : ∀ (v w : V) (H' : Hp), v = w → Same H H' → Q (V.bl (decide (v = w))) H' := fun v w H' e s => by rw [decide_eq_true e]; exact q H' s
    rcases hs with ⟨rfl, h⟩ | ⟨a, b, xs, ys, rfl, rfl, ha, hb, hl, h1000, hs⟩ | ⟨a, b, xs, ys, rfl, rfl, ha, hb, hl, h1000, hs⟩
    · rcases h with rfl | ⟨b, rfl⟩ | ⟨i, rfl⟩ | ⟨z, rfl⟩
      · refine r_isiT (T := "NoneType") false false (.base .non) upd_same (by decide +kernel) (by decide +kernel) ?_
        walk_at "go"
        refine iteF ?_
        walk_at "go"
        refine r_isi (T := "NoneType") false (.base .non) (by decide +kernel) ?_
        walk_at "go"
        refine iteF ?_
        walk_at "go"
        refine ite_dT rfl ?_
        refine iteT ?_
        walk_at "go"
        refine ite_dT rfl ?_
        walk_at "go"
        refine r_isi (T := "NoneType") false (.base .non) (by decide +kernel) ?_
        walk_at "go"
        refine r_isi (T := "NoneType") false (.base .non) (by decide +kernel) ?_
        walk_at "go"
        refine ite_dT rfl ?_
        walk_at "go"
        exact fin _ _ _ rfl (fun c o e => by walk_at "hp")
      · refine r_isiT (T := "bool") false false (.base (.bl _)) upd_same (by decide +kernel) (by decide +kernel) ?_
        walk_at "go"
        refine iteF ?_
        walk_at "go"
        refine r_isi (T := "bool") false (.base (.bl _)) (by decide +kernel) ?_
        walk_at "go"
        refine iteF ?_
        walk_at "go"
        refine ite_dF (fun z => by cases z) ?_
        walk_at "go"
        rename_i p2 hp2
        refine r_isiT (T := "bool") true false (.base (.bl _)) upd_same (by decide +kernel) (by decide +kernel) ?_
        walk_at "go"
        refine iteT ?_
        walk_at "go"
        refine ite_dT rfl ?_
        walk_at "go"
        refine r_isi (T := "bool") true (.base (.bl _)) (by decide +kernel) ?_
        walk_at "go"
        refine r_isi (T := "bool") true (.base (.bl _)) (by decide +kernel) ?_
        walk_at "go"
        refine ite_dT rfl ?_
        walk_at "go"
        exact fin _ _ _ rfl (fun c o e => by walk_at "hp")
      · refine r_isiT (T := "int") false false (.base (.int _)) upd_same (by decide +kernel) (by decide +kernel) ?_
        walk_at "go"
        refine iteF ?_
        walk_at "go"
        refine r_isi (T := "int") false (.base (.int _)) (by decide +kernel) ?_
        walk_at "go"
        refine iteF ?_
        walk_at "go"
        refine ite_dF (fun z => by cases z) ?_
        walk_at "go"
        rename_i p2 hp2
        refine r_isiT (T := "int") false false (.base (.int _)) upd_same (by decide +kernel) (by decide +kernel) ?_
        walk_at "go"
        refine iteF ?_
        walk_at "go"
        refine r_isi (T := "int") true (.base (.int _)) (by decide +kernel) ?_
        walk_at "go"
        refine iteT ?_
        walk_at "go"
        refine r_isi (T := "int") false (.base (.int _)) (by decide +kernel) ?_
        walk_at "go"
        refine iteT ?_
        walk_at "go"
        exact fin _ _ _ rfl (fun c o e => by walk_at "hp")
      · refine r_isiT (T := "str") false false (.base (.str _)) upd_same (by decide +kernel) (by decide +kernel) ?_
        walk_at "go"
        refine iteF ?_
        walk_at "go"
        refine r_isi (T := "str") false (.base (.str _)) (by decide +kernel) ?_
        walk_at "go"
        refine iteF ?_
        walk_at "go"
        refine ite_dF (fun z => by cases z) ?_
        walk_at "go"
        rename_i p2 hp2
        refine r_isiT (T := "str") false true (.base (.str _)) upd_same (by decide +kernel) (by decide +kernel) ?_
        walk_at "go"
        refine iteT ?_
        walk_at "go"
        refine ite_dT rfl ?_
        walk_at "go"
        refine r_isi (T := "str") false (.base (.str _)) (by decide +kernel) ?_
        walk_at "go"
        refine r_isi (T := "str") false (.base (.str _)) (by decide +kernel) ?_
        walk_at "go"
        refine ite_dT rfl ?_
        walk_at "go"
        exact fin _ _ _ rfl (fun c o e => by walk_at "hp")
    --LISTS
    · refine r_isiT (T := "list") true false (tyL (by walk_at "hp")) upd_same (by decide +kernel) (by decide +kernel) ?_
      walk_at "go"
      refine iteT ?_
      walk_at "go"
      refine r_isi (T := "list") true (tyL (by walk_at "hp")) (by decide +kernel) ?_
      walk_at "go"
      refine r_isi (T := "list") true (tyL (by walk_at "hp")) (by decide +kernel) ?_
      walk_at "go"
      refine ite_ndF rfl ?_
      walk_at "go"
      refine r_isi (T := "list") false (tyL (by walk_at "hp")) (by decide +kernel) ?_
      walk_at "go"
      refine r_isi (T := "list") false (tyL (by walk_at "hp")) (by decide +kernel) ?_
      walk_at "go"
      refine ite_ndF rfl ?_
      walk_at "go"
      refine ⟨_, xs.length, rfl, Or.inl ⟨xs, by walk_at "sq", rfl⟩, ?_⟩
      walk_at "go"
      refine ⟨_, ys.length, rfl, Or.inl ⟨ys, by walk_at "sq", rfl⟩, ?_⟩
      walk_at "go"
      refine ite_dT (by rw [hl]) ?_
      walk_at "go"
      refine ⟨a, b, xs, ys, rfl, Or.inl ⟨by walk_at "sq", by walk_at "sq", ?_⟩⟩
      intro D hD
      have hD0 : H D = none := by rw [upd_ne (by intro z; rw [z, upd_same] at hD; cases hD)] at hD; exact hD
      refine lc_it (walk_zip (xs := xs) (ys := ys) (n := xs.length) (by omega)) (fun i H' => H' D = some (.lst ((List.replicate i true).map V.bl)) ∧ Same H H') ?_ ?_ ?_ ?_
      · exact ⟨upd_same, fun c o e => by walk_at "hp"⟩
      · rintro i H1 _ ⟨_, s1⟩
        exact ⟨SqL.of (s1 _ _ ha), SqL.of (s1 _ _ hb)⟩
      · rintro i _ H1 _ hi ⟨hD1, s1⟩ ⟨t, u, v, rfl, ht, rfl, hu, hv⟩
        walk_at "go"
        refine ⟨rfl, r_yes (iteT ?_)⟩
        walk_at "go"
        refine ⟨u, v, rfl, (hs i u v hu hv).same (fun c o e => by walk_at "hp"), fun H2 s2 => ?_⟩
        have hD2 : H2 D = some (.lst ((List.replicate i true).map V.bl)) := by walk_at "hp"
        refine ⟨_, hD2, szl (by rw [List.length_map, List.length_replicate]; exact Nat.lt_of_lt_of_le hi (by omega)), ?_, fun c o e => ?_⟩
        · rw [List.replicate_succ', List.map_append]
          exact upd_same
        · have n1 : c ≠ D := ne_of_none e hD0
          walk_at "hp"
      · rintro H1 ⟨hD1, s1⟩
        walk_at "go"
        refine r_all (SqL.of hD1) ?_
        have e : (List.replicate xs.length true).all id = true := by rw [List.all_eq_true]; intro b hb; rw [List.eq_of_mem_replicate hb]; rfl
        rw [e]
        exact q _ s1
    · refine r_isiT (T := "tuple") false true (tyT (by walk_at "hp")) upd_same (by decide +kernel) (by decide +kernel) ?_
      walk_at "go"
      refine iteT ?_
      walk_at "go"
      refine r_isi (T := "tuple") false (tyT (by walk_at "hp")) (by decide +kernel) ?_
      walk_at "go"
      refine r_isi (T := "tuple") false (tyT (by walk_at "hp")) (by decide +kernel) ?_
      walk_at "go"
      refine ite_ndF rfl ?_
      walk_at "go"
      refine r_isi (T := "tuple") true (tyT (by walk_at "hp")) (by decide +kernel) ?_
      walk_at "go"
      refine r_isi (T := "tuple") true (tyT (by walk_at "hp")) (by decide +kernel) ?_
      walk_at "go"
      refine ite_ndF rfl ?_
      walk_at "go"
      refine ⟨_, xs.length, rfl, Or.inr ⟨xs, by walk_at "sq", rfl⟩, ?_⟩
      walk_at "go"
      refine ⟨_, ys.length, rfl, Or.inr ⟨ys, by walk_at "sq", rfl⟩, ?_⟩
      walk_at "go"
      refine ite_dT (by rw [hl]) ?_
      walk_at "go"
      refine ⟨a, b, xs, ys, rfl, Or.inr ⟨by walk_at "sq", by walk_at "sq", ?_⟩⟩
      intro D hD
      have hD0 : H D = none := by rw [upd_ne (by intro z; rw [z, upd_same] at hD; cases hD)] at hD; exact hD
      refine lc_it (walk_zipT (xs := xs) (ys := ys) (n := xs.length) rfl hl) (fun i H' => H' D = some (.lst ((List.replicate i true).map V.bl)) ∧ Same H H') ?_ ?_ ?_ ?_
      · exact ⟨upd_same, fun c o e => by walk_at "hp"⟩
      · rintro i H1 _ ⟨_, s1⟩
        exact ⟨SqT.of (s1 _ _ ha), SqT.of (s1 _ _ hb)⟩
      · rintro i _ H1 _ hi ⟨hD1, s1⟩ ⟨t, u, v, rfl, ht, rfl, hu, hv⟩
        walk_at "go"
        refine ⟨rfl, r_yes (iteT ?_)⟩
        walk_at "go"
        refine ⟨u, v, rfl, (hs i u v hu hv).same (fun c o e => by walk_at "hp"), fun H2 s2 => ?_⟩
        have hD2 : H2 D = some (.lst ((List.replicate i true).map V.bl)) := by walk_at "hp"
        refine ⟨_, hD2, szl (by rw [List.length_map, List.length_replicate]; exact Nat.lt_of_lt_of_le hi (by omega)), ?_, fun c o e => ?_⟩
        · rw [List.replicate_succ', List.map_append]
          exact upd_same
        · have n1 : c ≠ D := ne_of_none e hD0
          walk_at "hp"
      · rintro H1 ⟨hD1, s1⟩
        walk_at "go"
        refine r_all (SqL.of hD1) ?_
        have e : (List.replicate xs.length true).all id = true := by rw [List.all_eq_true]; intro b hb; rw [List.eq_of_mem_replicate hb]; rfl
        rw [e]
        exact q _ s1

end


section
variable {P : Program} {w : World} {K : PySem.W.Frag} {mg : Str → Option Value} {base : Heap} {C CB CS CO : Addr}
/-- the class Opening -/
structure TxO (K : PySem.W.Frag) (CO : Addr) : Prop where
  oc : OCls K CO
  nk : NoAttr K CO "kind"
  np : NoAttr K CO "_pairs"
abbrev sOpeningInit : Stmt := inClass (top 24) 0
theorem scOpeningInit : FnScope ["self", "kind", "contents"] ["self", "kind", "contents"] (defScope sOpeningInit) := ⟨rfl, rfl, rfl, by decide +kernel, rfl, by decide +kernel, by decide +kernel⟩
/-- an Opening: the pairs of its contents stand at t -/
def OpA (CO : Addr) (H : Hp) (o : Addr) (k : Str) (qs : AL) : Prop := ∃ (dx t : Addr) (ts : List V), H o = some (.ins CO dx [("kind", .str k), ("_pairs", .ref t)]) ∧ H t = some (.tup ts) ∧ Paired (PrA H) ts qs
theorem OpA.same {H H' : Hp} {o : Addr} {k : Str} {qs : AL} (h : OpA CO H o k qs) (s : Same H H') : OpA CO H' o k qs := by
  obtain ⟨dx, t, ts, h1, h2, h3⟩ := h
  exact ⟨dx, t, ts, s _ _ h1, s _ _ h2, Paired.mapP h3 fun _ _ z => z.same s⟩
def spOpInit (C CO : Addr) : Sp := fun vs H Q _ => ∃ (p dx x : Addr) (k : Str) (m : AL), vs = [.ref p, .str k, .ref x] ∧ H p = some (.ins CO dx []) ∧ LoA C H x m ∧ m ≠ [] ∧ get m k = 0 ∧
  ∀ (qs : AL) (H' : Hp), OpA CO H' p k qs → Cn m qs → (∀ c o, H c = some o → c ≠ p → H' c = some o) → Q .non H'
theorem ok_opInit {f : Addr} {fd : FuncData} (F : Fun K "__init__" "Opening.__init__" sOpeningInit f fd) (T : Txt K mg) (L : TxL K C) (O : TxO K CO) (Ol : OCal P w K mg base CX0 1 C "__len__" ["self"] (spLotLen C)) (Oc : OCal P w K mg base CX0 1 C "__contains__" ["self", "x"] (spLotContains C)) (Op : OCal P w K mg base CX0 2 C "pairs" ["self"] (spLotPairs C)) : FnOk P w K mg base CX0 3 f fd ["self", "kind", "contents"] (spOpInit C CO) := by
  refine F.ok scOpeningInit (fun vs H Q E h => ?_) (fun cdv A outer s H vs Q E hr h => ?_)
  · obtain ⟨p, dx, x, k, m, rfl, _⟩ := h
    rfl
  · obtain ⟨p, dx, x, k, m, rfl, hp, Lx, ne, g0, q⟩ := h
    obtain ⟨⟨d, dx1, h1, h2⟩, nd, mp, ml⟩ := id Lx
    refine ⟨_, (pss_cons (ps_if (pt_cmpR op_eq (pe_callB (c_lenO Ol (hr.mono (by decide)) pass0) (by rfl) T.len (by decide +kernel) (pa_cons (pv 2) pa_nil)) pe_int (nomark _))
  pss_never
  pss_nil)
  (pss_cons (ps_if (pt_cmpR (op_inO Oc (hr.mono (by decide)) pass0) (pv 1) (pv 2) (by rfl))
  pss_never
  pss_nil)
  (pss_cons (ps_fld (pv 0) (pv 1) rfl)
  (pss_one (ps_fld (pv 0) (pe_methO0 Op L.oc.cl (hr.mono (by decide)) pass0 (pv 2)) rfl))))), ?_⟩
    walk_at "in"
    walk_at "go"
    refine ⟨x, dx1, _, rfl, h1, x, m, rfl, Lx, _, rfl, ⟨by omega, by omega⟩, ?_⟩
    walk_at "go"
    have l0 : m.length ≠ 0 := fun z => ne (List.eq_nil_of_length_eq_zero z)
    refine ite_dF (fun z => by injection z with z; omega) ?_
    walk_at "go"
    refine ⟨x, dx1, _, rfl, h1, x, k, m, rfl, Lx, _, rfl, ?_⟩
    rw [g0]
    refine ⟨_, rfl, ?_⟩
    refine iteF ?_
    walk_at "go"
    refine ⟨.str k, rfl, V.ref p, rfl, p, CO, dx, [], rfl, hp, O.oc.cl, O.nk, by show 0 < 1000; decide, ?_⟩
    show tMeth C "pairs" (spLotPairs C) [] E0 (tVar 2) tNil _ _ _
    refine r_meth0 ?_
    walk_at "go"
    have npx : x ≠ p := fun z => by
      rw [z, hp] at h1
      cases h1
    have npd : d ≠ p := fun z => by
      rw [z, hp] at h2
      cases h2
    have Lx' : LoA C (upd H p (.ins CO dx (putF "kind" (.str k) []))) x m := ⟨⟨d, dx1, by rw [upd_ne npx]; exact h1, by rw [upd_ne npd]; exact h2⟩, nd, mp, ml⟩
    refine ⟨x, dx1, _, rfl, by rw [upd_ne npx]; exact h1, look1, x, m, rfl, Lx', fun t ts qs H1 ht ht1 hts cn s1 => ?_⟩
    have hp1 := s1 _ _ upd_same
    refine ⟨V.ref p, rfl, p, CO, dx, _, rfl, hp1, O.oc.cl, O.np, by show 1 < 1000; decide, ?_⟩
    have npt : t ≠ p := fun z => by
      rw [z, hp1] at ht1
      cases ht1
    have k2 : Kp p H1 (upd H1 p (.ins CO dx (putF "_pairs" (.ref t) (putF "kind" (.str k) [])))) := fun c o e n => by rw [upd_ne n]; exact e
    refine q qs _ ⟨dx, t, ts, ?_, by rw [upd_ne npt]; exact ht1, PrA.kpdAll hts k2 hp1 (fun _ z => by cases z)⟩ cn fun c o e n => ?_
    · exact upd_same
    · rw [upd_ne n]
      exact s1 _ _ (by rw [upd_ne n]; exact e)
abbrev sOpeningContents : Stmt := inClass (top 24) 1
theorem scOpeningContents : FnScope ["self"] ["self"] (defScope sOpeningContents) := ⟨rfl, rfl, rfl, by decide +kernel, rfl, by decide +kernel, by decide +kernel⟩
def spOpContents (C CO : Addr) : Sp := fun vs H Q _ => ∃ (o : Addr) (k : Str) (qs : AL), vs = [.ref o] ∧ OpA CO H o k qs ∧ qs.length ≤ 30 ∧ (∀ z ∈ qs, 0 ≤ z.2) ∧
  ∀ (x : Addr) (m' : AL) (H' : Hp), H x = none → LoN C H H' x m' → (∀ k, get m' k = tot qs k) → Same H H' → Q (.ref x) H'
theorem ok_opContents {f : Addr} {fd : FuncData} (F : Fun K "contents" "Opening.contents" sOpeningContents f fd) (O : TxO K CO) (Om : OMk P w K mg base CX0 2 C "Lot" ["self", "pairs"] (spLotInitT K C)) : FnOk P w K mg base CX0 4 f fd ["self"] (spOpContents C CO) := by
  refine F.ok scOpeningContents (fun vs H Q E h => ?_) (fun cdv A outer s H vs Q E hr h => ?_)
  · obtain ⟨o, k, qs, rfl, _⟩ := h
    rfl
  · obtain ⟨o, k, qs, rfl, ⟨dx, t, ts, h1, h2, h3⟩, l30, q0, q⟩ := h
    refine ⟨_, (pss_one (ps_ret (pe_makeO Om (hr.mono (by decide)) pass0 (pa_cons (pe_fld (pv 0) rfl) pa_nil)))), ?_⟩
    walk_at "in"
    walk_at "go"
    refine r_mk ?_
    walk_at "go"
    refine ⟨_, rfl, o, CO, dx, _, _, rfl, h1, O.oc.cl, O.np, rfl, ?_⟩
    walk_at "go"
    refine initT_end (SqT.of h2) h3 (by rw [Paired.len h3]; exact l30) q0 fun x m' H' hx La hg s1 => ?_
    exact q x m' H' hx La hg s1
end


section
variable {P : Program} {w : World} {K : PySem.W.Frag} {mg : Str → Option Value} {base : Heap} {C CB CS CO t0 : Addr}
theorem sm_lst {K : PySem.W.Frag} {n : Nat} {H : Hp} {a b : Addr} {xs ys : List V} (h1 : H a = some (.lst xs)) (h2 : H b = some (.lst ys)) (e : xs.length = ys.length) (hl : xs.length ≤ 1000) (h : ∀ (i : Nat) (u v : V), xs[i]? = some u → ys[i]? = some v → Sm K n u v H) : Sm K (n + 1) (.ref a) (.ref b) H := Or.inr (Or.inl ⟨a, b, xs, ys, rfl, rfl, h1, h2, e, hl, h⟩)
theorem sm_tupl {K : PySem.W.Frag} {n : Nat} {H : Hp} {a b : Addr} {xs ys : List V} (h1 : H a = some (.tup xs)) (h2 : H b = some (.tup ys)) (e : xs.length = ys.length) (hl : xs.length ≤ 1000) (h : ∀ (i : Nat) (u v : V), xs[i]? = some u → ys[i]? = some v → Sm K n u v H) : Sm K (n + 1) (.ref a) (.ref b) H := Or.inr (Or.inr ⟨a, b, xs, ys, rfl, rfl, h1, h2, e, hl, h⟩)
theorem sm_int {K : PySem.W.Frag} {n : Nat} {H : Hp} {i j : Int} (e : i = j) : Sm K (n + 1) (.int i) (.int j) H := Or.inl ⟨by rw [e], Or.inr (Or.inr (Or.inl ⟨_, rfl⟩))⟩
theorem sm_bl {K : PySem.W.Frag} {n : Nat} {H : Hp} {i j : Bool} (e : i = j) : Sm K (n + 1) (.bl i) (.bl j) H := Or.inl ⟨by rw [e], Or.inr (Or.inl ⟨_, rfl⟩)⟩
theorem sm_str {K : PySem.W.Frag} {n : Nat} {H : Hp} {i j : Str} (e : i = j) : Sm K (n + 1) (.str i) (.str j) H := Or.inl ⟨by rw [e], Or.inr (Or.inr (Or.inr ⟨_, rfl⟩))⟩
theorem sm_prs {K : PySem.W.Frag} {n : Nat} {H : Hp} {a b : Addr} {xs ys : List V} {qs : AL} (h1 : H a = some (.tup xs)) (h2 : H b = some (.tup ys)) (p1 : Paired (PrA H) xs qs) (p2 : Paired (PrA H) ys qs) (hl : qs.length ≤ 1000) : Sm K (n + 3) (.ref a) (.ref b) H := by
  have l1 := Paired.len p1
  have l2 := Paired.len p2
  refine sm_tupl h1 h2 (by omega) (by omega) fun i u v hu hv => ?_
  obtain ⟨r, hr, t, rfl, ht⟩ := Paired.at p1 hu
  obtain ⟨r', hr', t', rfl, ht'⟩ := Paired.at p2 hv
  rw [hr] at hr'
  cases hr'
  refine sm_tupl ht ht' rfl (by simp) fun i u v hu hv => ?_
  rw [hu] at hv
  cases hv
  have := List.mem_of_getElem? hu
  simp at this
  rcases this with z | z
  · exact Or.inl ⟨rfl, Or.inr (Or.inr (Or.inr ⟨_, z⟩))⟩
  · exact Or.inl ⟨rfl, Or.inr (Or.inr (Or.inl ⟨_, z⟩))⟩
theorem at2 {a b a' b' : V} {R : V → V → Prop} (h1 : R a a') (h2 : R b b') (i : Nat) (u v : V) (hu : [a, b][i]? = some u) (hv : [a', b'][i]? = some v) : R u v := by
  match i, hu, hv with
  | 0, hu, hv => cases hu; cases hv; exact h1
  | 1, hu, hv => cases hu; cases hv; exact h2
  | n + 2, hu, hv => simp at hu
theorem lq_of {m qs : AL} (cn : Cn m qs) : qs.length ≤ m.length := by
  rw [cn.1.length_eq]
  exact List.length_filter_le _ _
end


section
variable {P : Program} {w : World} {K : PySem.W.Frag} {mg : Str → Option Value} {base : Heap}
abbrev sRising : Stmt := top 32
theorem scRising : FnScope ["_law_rows_so", "_law_done", "_law_row", "_law_at_so", "_law_own"] ["_law_rows_so"] (defScope sRising) := ⟨rfl, rfl, rfl, by decide +kernel, rfl, by decide +kernel, by decide +kernel⟩
def spRising (K : PySem.W.Frag) : Sp := fun vs H Q _ => ∃ (l : Addr) (xs : List V) (ps : AL), vs = [.ref l] ∧ SqL K H l xs ∧ Paired (PrA H) xs ps ∧ xs.length ≤ 1000 ∧
  ∀ (p : Addr) (ys : List V) (qs : AL) (H' : Hp), H p = none → H' p = some (.lst ys) → Paired (PrA H') ys qs → qs.Perm ps → qs.Pairwise (fun a b => ple a b = true) → Same H H' → Q (.ref p) H'
theorem ok_rising {f : Addr} {fd : FuncData} (F : Fun K "_law_rising" "_law_rising" sRising f fd) (T : Txt K mg) : FnOk P w K mg base CX0 1 f fd ["_law_rows_so"] (spRising K) := by
  refine F.ok scRising (fun vs H Q E h => ?_) (fun cdv A outer s H vs Q E hr h => ?_)
  · obtain ⟨l, xs, ps, rfl, _⟩ := h
    rfl
  · obtain ⟨l, xs, ps, rfl, hl, hps, h1000, q⟩ := h
    refine ⟨_, (pss_cons (ps_set (i := 1) scRising.nd rfl (Or.inl rfl) (pe_lst pa_nil))
  (pss_cons (ps_for PassesOwn.never rfl (pi_list (pv 0)) (pg_name (i := 2) scRising.nd rfl (Or.inr rfl))
  (Evl.pss_cut (ps_set (i := 3) scRising.nd rfl (Or.inl rfl) (pe_callB c_lenL (by rfl) T.len (by decide +kernel) (pa_cons (pe_lc (own := [("_law_own", 4)]) (g := gName 4) rfl scRising.nd (pi_list (pv 1)) (blkOk_by (N := ["_law_rows_so", "_law_done", "_law_row", "_law_at_so", "_law_own"]) (sc := defScope sRising) (by decide +kernel)) (fun _ _ _ _ _ => (pg_name (i := 4) scRising.nd rfl (Or.inl rfl))) (fun _ _ _ _ _ => (pts_one (pt_cmpR (opK (r := rLeP) K (o_leP hr.units0)) (pv 4) (pv 2) (nomark _)))) (fun _ _ _ _ _ => pe_int)) pa_nil)))
  (pss_one (ps_set (i := 1) scRising.nd rfl (Or.inl rfl) (pe_op op_cat (pe_op op_cat (pe_slice sl_list (pv 1) po_none (po_some (pv 3))) (pe_lst (pa_cons (pv 2) pa_nil))) (pe_slice sl_list (pv 1) (po_some (pv 3)) po_none))))))
  (pss_one (ps_ret (pv 1))))), ?_⟩
    walk_at "in"
    walk_at "go"
    rename_i d0 hd0
    have lps := Paired.len hps
    refine for_it (walk_list (xs := xs)) (fun i σ H' => ∃ (d : Addr) (ds : List V) (qs : AL) (x2 x3 : Option V), σ = [some (.ref l), some (.ref d), x2, x3, none] ∧ H d = none ∧ H' d = some (.lst ds) ∧ Paired (PrA H') ds qs ∧ qs.Perm (ps.take i) ∧ qs.Pairwise (fun a b => ple a b = true) ∧ Same H H') ?_ ?_ ?_ ?_
    · exact ⟨d0, [], [], none, none, rfl, hd0, upd_same, .nil, List.Perm.refl _, List.Pairwise.nil, fun c o e => by walk_at "hp"⟩
    · rintro i σ H' _ ⟨_, _, _, _, _, _, _, _, _, _, _, s1⟩
      exact s1.seq hl
    · rintro i x σ _ H1 hi ⟨d, ds, qs, x2, x3, rfl, hd, hd1, hds, pm, pw, s1⟩ ⟨rfl, hx⟩
      obtain ⟨p, hp, hxp⟩ := Paired.at hps hx
      have lds : ds.length ≤ 1000 := by have := Paired.len hds; have := pm.length_eq; rw [List.length_take] at this; omega
      walk_at "go"
      refine ⟨fun σ' H' => σ' = [some (.ref l), some (.ref d), some x, some (.int (cnt ple qs p : Nat)), none] ∧ H' d = some (.lst ds) ∧ Same H1 H', ?_, ?_⟩
      · walk_at "go"
        intro D hD
        refine lc_it (walk_list (xs := ds)) (fun j H' => H' D = some (.lst (List.replicate (((qs.take j).filter fun q => ple q p).length) (V.int 1))) ∧ H' d = some (.lst ds) ∧ Same H1 H') ?_ ?_ ?_ ?_
        · exact ⟨upd_same, by walk_at "hp", fun c o e => by walk_at "hp"⟩
        · rintro j H' _ ⟨_, h, _⟩
          exact SqL.of h
        · rintro j y _ H2 hj ⟨hD2, hd2, s2⟩ ⟨rfl, hy⟩
          obtain ⟨r, hr2, hyr⟩ := Paired.at hds hy
          obtain ⟨t1, rfl, ht1⟩ := hxp
          obtain ⟨t2, rfl, ht2⟩ := hyr
          walk_at "go"
          refine ⟨rfl, ?_⟩
          walk_at "go"
          refine r_leP (p := r) (q := p) (SqT.of (s2 _ _ ht2)) (SqT.of (s2 _ _ (s1 _ _ ht1))) ?_
          walk_at "go"
          have ef := filter_take (f := fun q => ple q p) hr2
          cases hc : ple r p with
          | true =>
            rw [hc, if_pos rfl] at ef
            refine iteT ?_
            walk_at "go"
            refine ⟨_, hD2, szl (by rw [List.length_replicate]; have := List.length_filter_le (fun q => ple q p) (qs.take j); rw [List.length_take] at this; omega), ?_, ?_, fun c o e => ?_⟩
            · rw [ef, List.replicate_succ']
              exact upd_same
            · have n1 : d ≠ D := ne_of_none hd1 hD
              walk_at "hp"
            · have n1 : c ≠ D := ne_of_none e hD
              walk_at "hp"
          | false =>
            rw [hc, if_neg (by decide)] at ef
            refine iteF ?_
            rw [ef]
            exact ⟨hD2, hd2, s2⟩
        · rintro H2 ⟨hD2, hd2, s2⟩
          walk_at "go"
          have e1 : qs.take ds.length = qs := by rw [Paired.len hds, List.take_length]
          rw [List.length_replicate, e1]
          exact ⟨rfl, hd2, s2⟩
      · rintro σ2 H2 ⟨rfl, hd2, s2⟩
        have hc := cnt_le ple qs p
        have lq := Paired.len hds
        obtain ⟨t1, rfl, ht1⟩ := hxp
        generalize hcn : cnt ple qs p = c at hc
        walk_at "go"
        rename_i p1 hp1 p2 hp2
        have e1 : cutV ds none (some (c : Int)) = ds.take c := cutV_to ds c
        have e2 : cutV ds (some (c : Int)) none = ds.drop c := cutV_from ds c
        rw [e1] at hp2 ⊢
        refine r_cat (by walk_at "hp") (by walk_at "hp") (sz (by rw [List.length_take]; show _ + 1 ≤ _; omega)) fun p3 hp3 => ?_
        walk_at "go"
        rename_i p4 hp4
        rw [e2] at ⊢
        refine r_cat (by walk_at "hp") (by walk_at "hp") (sz (by rw [List.length_append, List.length_take, List.length_drop]; show _ + 1 + _ ≤ _; omega)) fun p5 hp5 => ?_
        have s3 : Same H1 (upd (upd (upd (upd (upd H2 p1 (.lst (ds.take c))) p2 (.lst [V.ref t1])) p3 (.lst (ds.take c ++ [V.ref t1]))) p4 (.lst (ds.drop c))) p5 (.lst (ds.take c ++ [V.ref t1] ++ ds.drop c))) := fun c o e => by walk_at "hp"
        obtain ⟨i1, _, _⟩ := put_rising ple_total (fun {p q r} => ple_trans) p pw
        rw [hcn] at i1
        refine ⟨p5, ds.take c ++ [V.ref t1] ++ ds.drop c, qs.take c ++ [p] ++ qs.drop c, _, _, rfl, ?_, upd_same, ?_, ?_, i1, s1.trans s3⟩
        · exact s1.free (Same.free (fun c o e => by walk_at "hp") hp5)
        · exact Paired.app (Paired.app (PrA.all (Paired.tk c hds) s3) (.cons ⟨t1, rfl, s3 _ _ (s1 _ _ ht1)⟩ .nil)) (PrA.all (Paired.dr c hds) s3)
        · refine (perm_in qs p c).trans ?_
          rw [List.take_add_one, hp]
          exact List.Perm.append_right _ pm
    · rintro σ H1 ⟨d, ds, qs, x2, x3, rfl, hd, hd1, hds, pm, pw, s1⟩
      walk_at "go"
      refine q d ds qs H1 hd hd1 hds ?_ pw s1
      rw [lps, List.take_length] at pm
      exact pm
end


section
variable {P : Program} {w : World} {K : PySem.W.Frag} {mg : Str → Option Value} {base : Heap}
abbrev sPairs : Stmt := top 35
theorem scPairs : FnScope ["_law_numbers_so", "_law_done", "_law_own"] ["_law_numbers_so"] (defScope sPairs) := ⟨rfl, rfl, rfl, by decide +kernel, rfl, by decide +kernel, by decide +kernel⟩
def spPairs : Sp := fun vs H Q _ => ∃ (d : Addr) (m : AL), vs = [.ref d] ∧ H d = some (.dK (enc m)) ∧ (keys m).Nodup ∧ m.length ≤ 1000 ∧
  ∀ (p : Addr) (ts : List V) (qs : AL) (H' : Hp), H p = none → H' p = some (.tup ts) → Paired (PrA H') ts qs → Cn m qs → Same H H' → Q (.ref p) H'
theorem ok_pairs {f : Addr} {fd : FuncData} (F : Fun K "_law_pairs" "_law_pairs" sPairs f fd) (T : Txt K mg) (Cr : Cal P w K mg base CX0 1 "_law_rising" ["_law_rows_so"] (spRising K)) : FnOk P w K mg base CX0 2 f fd ["_law_numbers_so"] spPairs := by
  refine F.ok scPairs (fun vs H Q E h => ?_) (fun cdv A outer s H vs Q E hr h => ?_)
  · obtain ⟨d, m, rfl, _⟩ := h
    rfl
  · obtain ⟨d, m, rfl, hd, nd, h1000, q⟩ := h
    have hu := hu_of hr
    refine ⟨_, (Evl.pss_cut (ps_lock (ps_setLc (i := 1) (own := [("_law_own", 2)]) (g := gName 2) rfl scPairs.nd rfl rfl (sw_true rfl rfl rfl (by decide +kernel)) (pi_keys (pv 0)) (blkOk_by (N := ["_law_numbers_so", "_law_done", "_law_own"]) (sc := defScope sPairs) (by decide +kernel)) (fun _ _ _ _ _ => (pg_name (i := 2) scPairs.nd rfl (Or.inl rfl))) (fun _ _ _ _ _ => (pts_one (pt_cmpR op_gt (pe_dget hu (pv 0) (pv 2) (fun _ _ => rfl)) pe_int (nomark _)))) (fun _ _ _ _ _ => (pe_tup (pa_cons (pv 2) (pa_cons (pe_dget hu (pv 0) (pv 2) (fun _ _ => rfl)) pa_nil))))))
  (pss_one (ps_ret (pe_callTy c_tupL (by rfl) T.tuple (by decide +kernel) (pa_cons (pe_cal Cr hr pass0 (pa_cons (pv 1) pa_nil)) pa_nil))))), ?_⟩
    walk_at "in"
    refine ⟨fun σ' H' => ∃ (D : Addr) (xs : List V), σ' = [some (.ref d), some (.ref D), none] ∧ H D = none ∧ H' D = some (.lst xs) ∧ Paired (PrA H') xs (pos m) ∧ Same H H', ?_, ?_⟩
    · refine r_lock hd trivial fun od => ?_
      walk_at "go"
      refine ⟨d, od, rfl, Or.inl ⟨enc m, upd_same, ?_⟩⟩
      intro D hD
      have nDd : D ≠ d := fun z => by rw [z, upd_same] at hD; cases hD
      have hD0 : H D = none := by rw [upd_ne nDd] at hD; exact hD
      refine lc_it (walk_keys (kvs := enc m)) (fun i H' => ∃ xs, H' D = some (.lst xs) ∧ Paired (PrA H') xs (pos (m.take i)) ∧ H' d = some (.frz od (.dK (enc m))) ∧ Kp d H H') ?_ ?_ ?_ ?_
      · exact ⟨[], upd_same, .nil, by walk_at "hp", fun c o e n => by walk_at "hp"⟩
      · rintro i H' _ ⟨_, _, _, h, _⟩
        exact h
      · rintro i x _ H1 hi ⟨xs, hD1, hxs, hd1, kp1⟩ ⟨rfl, k, v, hkv, rfl⟩
        obtain ⟨p, hp, rfl, rfl⟩ := enc_at hkv
        walk_at "go"
        refine ⟨rfl, ?_⟩
        walk_at "go"
        have hg : DGet H1 d (.str p.1) (some (.int p.2)) := DGet_enc (r := some p.2) (Or.inr ⟨od, hd1⟩) (look_at nd hp)
        refine ⟨d, .int p.2, rfl, hg, ?_⟩
        walk_at "go"
        have ep := pos_take hp
        refine ite_d (fun c => ?_) (fun c => ?_)
        · rw [if_pos c] at ep
          walk_at "go"
          refine ⟨d, .int p.2, rfl, hg, ?_⟩
          walk_at "go"
          rename_i t ht
          have n1 : D ≠ t := ne_of_none hD1 ht
          have n2 : d ≠ t := ne_of_none hd1 ht
          have n3 : d ≠ D := Ne.symm nDd
          have k2 : Kp D H1 (upd (upd H1 t (.tup [V.str p.1, V.int p.2])) D (.lst (xs ++ [V.ref t]))) := fun c o e n => by walk_at "hp"
          refine ⟨xs, by walk_at "hp", szl (by have := Paired.len hxs; have h2 := List.length_filter_le (fun p : Str × Int => decide (0 < p.2)) (m.take i); have h3 : xs.length ≤ (m.take i).length := Nat.le_trans (Nat.le_of_eq this) h2; rw [List.length_take] at h3; omega), xs ++ [V.ref t], upd_same, ?_, by walk_at "hp", fun c o e n => ?_⟩
          · rw [ep]
            exact Paired.app (PrA.kpdAll hxs k2 hD1 (fun _ z => by cases z)) (.cons ⟨t, rfl, by walk_at "hp"⟩ .nil)
          · have n4 : c ≠ D := ne_of_none e hD0
            walk_at "hp"
        · rw [if_neg c, List.append_nil] at ep
          rw [ep]
          exact ⟨xs, hD1, hxs, hd1, kp1⟩
      · rintro H1 ⟨xs, hD1, hxs, hd1, kp1⟩
        walk_at "go"
        have k2 : Kp d H1 (upd H1 d (.dK (enc m))) := fun c o e n => by walk_at "hp"
        rw [enc_len, List.take_length] at hxs
        refine ⟨hd1, D, xs, rfl, hD0, by walk_at "hp", PrA.kpdAll hxs k2 hd1 (fun _ z => by cases z), fun c o e => ?_⟩
        by_cases n : c = d
        · subst n
          rw [hd] at e
          rw [← Option.some.inj e]
          exact upd_same
        · walk_at "hp"
    · rintro σ1 H1 ⟨D, xs, rfl, hD, hD1, hxs, s1⟩
      walk_at "go"
      refine ⟨D, xs, pos m, rfl, SqL.of hD1, hxs, by rw [Paired.len hxs]; have := List.length_filter_le (fun p : Str × Int => decide (0 < p.2)) m; exact Nat.le_trans this h1000, fun l ys qs H2 hl hl2 hys pm pw s2 => ?_⟩
      walk_at "go"
      rename_i t ht
      have s3 : Same H2 (upd H2 t (.tup ys)) := fun c o e => by walk_at "hp"
      exact q t ys qs _ (s1.free (s2.free ht)) upd_same (PrA.all hys s3) ⟨pm, pw⟩ ((s1.trans s2).trans s3)
end


/-- e.f, a property of an own class -/
structure OPr (P : Program) (w : World) (K : PySem.W.Frag) (mg : Str → Option Value) (base : Heap) (CX : CXT) (k : Nat) (C : Addr) (f : Str) (sp : Sp) : Prop where
  ex : ∃ (p g : Addr) (fd : FuncData), PropOf K C f p g ∧ FnOk P w K mg base CX k g fd ["self"] sp ∧ Binds K fd ["self"] []
theorem pe_propO {X : Cx} {CX : CXT} {k : Nat} {C : Addr} {f : Str} {sp : Sp} {E : XK} {e : Expr} {pos : Pos} {ta : TE} (O : OPr X.prog X.w X.K X.mg X.base CX k C f sp) (c : Cls X.K C) (hr : Room (k + 1) X.A) (hx : Passes CX X.nox E) (he : PE X e ta)
    (hab : attributeBase e f X.env (eval e X.env) = eval e X.env) : PE X (.Attribute e f pos) (tProp C sp [] E ta) := by
  obtain ⟨p, g, fd, hp, F, hb⟩ := O.ex
  exact pe_prop he c hp F hr hb .nil hx hab
theorem r_prop {C : Addr} {sp : Sp} {E : XK} {ta : TE} {σ : L2.St} {H : Hp} {Q : VK} (h : ta σ H fun x H1 => ∃ a dx fs, x = .ref a ∧ H1 a = some (.ins C dx fs) ∧ sp [.ref a] H1 Q E) : tProp C sp [] E ta σ H Q := h
def tJoin (ts : List TE) : TE := fun σ H Q => tJs ts Str.empty σ H fun out H1 => Q (.str out) H1
theorem pe_joinedK {X : Cx} {v1 v2 : Expr} {rest : List Expr} {ts : List TE} {pos : Pos} (h : PJ X (v1 :: v2 :: rest) ts) : PE X (.JoinedStr (v1 :: v2 :: rest) pos) (tJoin ts) := pe_joined h
theorem r_joined {ts : List TE} {σ : L2.St} {H : Hp} {Q : VK} (h : tJs ts Str.empty σ H fun out H1 => Q (.str out) H1) : tJoin ts σ H Q := h
theorem r_js {t : TE} {ts : List TE} {acc : Str} {σ : L2.St} {H : Hp} {Q : Str → Hp → Prop} (h : t σ H fun x H1 => ∃ y : Str, x = .str y ∧ (acc ++ y).length ≤ sizeLine ∧ tJs ts (acc ++ y) σ H1 Q) : tJs (t :: ts) acc σ H Q := h
/-- the place of an Opening as data -/
def plD (k : Str) (qs : AL) : PyData := .tuple [.str k, pd qs]
def PlA (H : Hp) (x : V) (k : Str) (qs : AL) : Prop := ∃ (t u : Addr) (ts : List V), x = .ref t ∧ H t = some (.tup [.str k, .ref u]) ∧ H u = some (.tup ts) ∧ Paired (PrA H) ts qs
theorem PlA.same {H H' : Hp} {x : V} {k : Str} {qs : AL} (h : PlA H x k qs) (s : Same H H') : PlA H' x k qs := by
  obtain ⟨t, u, ts, e, h1, h2, h3⟩ := h
  exact ⟨t, u, ts, e, s _ _ h1, s _ _ h2, Paired.mapP h3 fun _ _ z => z.same s⟩
theorem PlA.dp {K : PySem.W.Frag} {H : Hp} {x : V} {k : Str} {qs : AL} (h : PlA H x k qs) : Dp K H x (plD k qs) := by
  obtain ⟨t, u, ts, rfl, h1, h2, h3⟩ := h
  exact .tup (SqT.of h1) (.cons (.str _) (.cons (dp_pairs h2 h3) .nil))
theorem depth_pl (k : Str) (qs : AL) : (plD k qs).depth ≤ 64 := by
  show max 0 (max (PyData.depthAll (qs.map pd1) + 1) 0) + 1 ≤ 64
  have := depth_pd qs
  omega
theorem can_pl {k : Str} {qs : AL} (hk : KindS k) (h : ∀ p ∈ qs, KindS p.1) : SeqAt.shaped (plD k qs) = true := by
  unfold SeqAt.shaped
  have h1 : (plD k qs).canLay0 = true := by
    show (PyData.strOk k && ((pd qs).canLay0 && true)) = true
    rw [strOk_kind hk, can_pd h]
    rfl
  rw [h1, Bool.true_and]
  exact decide_eq_true (depth_pl k qs)
section
variable {P : Program} {w : World} {K : PySem.W.Frag} {mg : Str → Option Value} {base : Heap} {C CB CS CO : Addr}
abbrev sOpeningPlace : Stmt := inClass (top 24) 2
theorem scOpeningPlace : FnScope ["self"] ["self"] (defScope sOpeningPlace) := ⟨rfl, rfl, rfl, by decide +kernel, rfl, by decide +kernel, by decide +kernel⟩
def spOpPlace (CO : Addr) : Sp := fun vs H Q _ => ∃ (o : Addr) (k : Str) (qs : AL), vs = [.ref o] ∧ OpA CO H o k qs ∧ ∀ t H', H t = none → PlA H' (.ref t) k qs → Same H H' → Q (.ref t) H'
theorem ok_opPlace {f : Addr} {fd : FuncData} (F : Fun K "place" "Opening.place" sOpeningPlace f fd) (O : TxO K CO) : FnOk P w K mg base CX0 1 f fd ["self"] (spOpPlace CO) := by
  refine F.ok scOpeningPlace (fun vs H Q E h => ?_) (fun cdv A outer s H vs Q E hr h => ?_)
  · obtain ⟨o, k, qs, rfl, _⟩ := h
    rfl
  · obtain ⟨o, k, qs, rfl, ⟨dx, t, ts, h1, h2, h3⟩, q⟩ := h
    refine ⟨_, (pss_one (ps_ret (pe_tup (pa_cons (pe_fld (pv 0) rfl) (pa_cons (pe_fld (pv 0) rfl) pa_nil))))), ?_⟩
    walk_at "in"
    walk_at "go"
    refine ⟨_, rfl, o, CO, dx, _, _, rfl, h1, O.oc.cl, O.nk, rfl, ?_⟩
    walk_at "go"
    refine ⟨_, rfl, o, CO, dx, _, _, rfl, h1, O.oc.cl, O.np, rfl, ?_⟩
    walk_at "go"
    rename_i p hp
    have s1 : Same H (upd H p (.tup [V.str k, V.ref t])) := fun c o e => upd_at e (ne_of_none e hp)
    exact q p _ hp ⟨p, t, ts, rfl, upd_same, s1 _ _ h2, Paired.mapP h3 fun _ _ z => z.same s1⟩ s1
theorem OpA.ins {H : Hp} {o : Addr} {k : Str} {qs : AL} (h : OpA CO H o k qs) : ∃ dx t, H o = some (.ins CO dx [("kind", .str k), ("_pairs", .ref t)]) := by
  obtain ⟨dx, t, ts, h1, _, _⟩ := h
  exact ⟨dx, t, h1⟩
theorem look2 {m : Str} {v u : V} (h : (m == ("kind" : Str)) = false := by decide +kernel) (h2 : (m == ("_pairs" : Str)) = false := by decide +kernel) : List.lookup m [(("kind" : Str), v), ("_pairs", u)] = none := by
  rw [List.lookup_cons, h, List.lookup_cons, h2]
  rfl
/-- facts for isinstance of an Opening -/
structure TxOI (K : PySem.W.Frag) (mg : Str → Option Value) (C CO : Addr) : Prop where
  gO : mg "Opening" = some (.ref CO)
  ha : PySem.W.findIn K (.ref CO) "__class__" = some (some (.builtin "object.__class__"))
  hn : PySem.W.specialIn K (.builtin "object.__class__") "__get__" = some (some (.builtin "getset_descriptor.__get__"))
  ht : PySem.W.takesIn K (.builtin "object.__class__") = some true
  hm : PySem.W.mroIn K CO (.type "object") = some true
  kt : PySem.W.kitOne K (.type "tuple") (.ref CO) = some false
  ks : PySem.W.kitOne K (.type "str") (.ref CO) = some false
  kl : PySem.W.kitOne K (.ref C) (.ref CO) = some false
abbrev sOpeningEq : Stmt := inClass (top 24) 3
theorem scOpeningEq : FnScope ["self", "other"] ["self", "other"] (defScope sOpeningEq) := ⟨rfl, rfl, rfl, by decide +kernel, rfl, by decide +kernel, by decide +kernel⟩
def spOpEq (CO : Addr) : Sp := fun vs H Q _ => ∃ (a b : Addr) (k k' : Str) (qs qs' : AL), vs = [.ref a, .ref b] ∧ OpA CO H a k qs ∧ OpA CO H b k' qs' ∧ KindS k ∧ KindS k' ∧ (∀ p ∈ qs, KindS p.1) ∧ (∀ p ∈ qs', KindS p.1) ∧ ∀ H', Same H H' → Q (.bl ((plD k qs).eqv (plD k' qs'))) H'
theorem ok_opEq {f : Addr} {fd : FuncData} (F : Fun K "__eq__" "Opening.__eq__" sOpeningEq f fd) (T : Txt K mg) (O : TxO K CO) (S : TxOI K mg C CO) (Opl : OCal P w K mg base CX0 1 CO "place" ["self"] (spOpPlace CO)) : FnOk P w K mg base CX0 2 f fd ["self", "other"] (spOpEq CO) := by
  refine F.ok scOpeningEq (fun vs H Q E h => ?_) (fun cdv A outer s H vs Q E hr h => ?_)
  · obtain ⟨a, b, k, k', qs, qs', rfl, _⟩ := h
    rfl
  · obtain ⟨a, b, k, k', qs, qs', rfl, Oa, Ob, hk, hk', hq, hq', q⟩ := h
    refine ⟨_, (pss_one (ps_ret (pe_and (pe_callB call_isi (by rfl) T.isinstance (by decide +kernel) (pa_cons (pv 1) (pa_cons (pe_glob (v := .ref CO) (by rfl) S.gO rfl) pa_nil))) (pe_one (pe_cmpR (op_eqD (hu64 hr)) (pe_methO0 Opl O.oc.cl (hr.mono (by decide)) pass0 (pv 0)) (pe_methO0 Opl O.oc.cl (hr.mono (by decide)) pass0 (pv 1)) (nomark _)))))), ?_⟩
    obtain ⟨dx, t, h1⟩ := Oa.ins
    obtain ⟨dx2, t2, h2⟩ := Ob.ins
    walk_at "in"
    walk_at "go"
    refine ⟨.ref b, .ref CO, .ref CO, .ref CO, true, rfl, .own CO, .base (.ins h2 O.oc.cl S.ha S.hn S.ht S.hm), by unfold PySem.W.kitOne; rw [if_pos (beq_self_eq_true _)], true, rfl, iteT ?_⟩
    walk_at "go"
    refine r_meth0 ?_
    walk_at "go"
    refine ⟨a, dx, _, rfl, h1, look2, a, k, qs, rfl, Oa, fun t1 H1 _ p1 s1 => ?_⟩
    refine r_meth0 ?_
    walk_at "go"
    refine ⟨b, dx2, _, rfl, s1 _ _ h2, look2, b, k', qs', rfl, Ob.same s1, fun t2 H2 _ p2 s2 => ?_⟩
    exact ⟨plD k qs, plD k' qs', (p1.same s2).dp, p2.dp, can_pl hk hq, can_pl hk' hq', q _ fun c o e => s2 _ _ (s1 _ _ e)⟩
end


theorem part_fit {z : Str} (h : Fit z) : (Txt.partition z eqs).1.length ≤ 100000 ∧ Fit (Txt.partition z eqs).2.2 := by
  have l := h.le
  have b := h.bl
  rcases part_cases z with e | ⟨a, c, e, e2⟩
  · rw [e]
    exact ⟨l, ⟨Nat.zero_le _, Nat.zero_le _⟩⟩
  · rw [e]
    have e3 := congrArg List.length e2
    have e4 := congrArg (List.count 32) e2
    rw [List.length_append, ← len_cds, ← len_cds] at e3
    simp only [List.length_cons] at e3
    rw [← len_cds] at e3
    rw [List.count_append] at e4
    simp only [List.count_cons] at e4
    exact ⟨by show a.length ≤ _; omega, ⟨by show c.length ≤ _; omega, by show List.count 32 (cds c) ≤ _; omega⟩⟩
section
variable {P : Program} {w : World} {K : PySem.W.Frag} {mg : Str → Option Value} {base : Heap} {C CB CN : Addr}
abbrev sOwnReadLine : Stmt := top 23
theorem scOwnReadLine : FnScope ["line", "kind", "_", "rest"] ["line"] (defScope sOwnReadLine) := ⟨rfl, rfl, rfl, by decide +kernel, rfl, by decide +kernel, by decide +kernel⟩
/-- a Lot of just these -/
def LotA (C : Addr) (H : Hp) (x : Addr) (qs : AL) : Prop := ∃ m, LoA C H x m ∧ Cn m qs
def spReadLine (C : Addr) : Sp := fun vs H Q _ => ∃ z : Str, vs = [.str z] ∧ Fit z ∧
  (∀ r (p x : Addr) (H' : Hp), GoodL z r → H p = none → H' p = some (.tup [.str r.1, .ref x]) → LotA C H' x r.2 → Same H H' → Q (.ref p) H') ∧ (∀ H', BadL z → Same H H' → Q .non H')
theorem ok_readLine {f : Addr} {fd : FuncData} (F : Fun K "_read_line" "_read_line" sOwnReadLine f fd) (T : Txt K mg) (TB : TxBt K mg CN) (gC : mg "Lot" = some (.ref C)) (mN : PySem.W.exmOne K (.ref CN) (.ref CN) = some true)
    (Ck : Cal P w K mg base CX0 1 "is_kind" ["word"] spIsKind) (Co : CCal P w K mg base (CX P w) 4 C "of" ["cls", "text"] ["text"] (spLotOf C CN)) : FnOk P w K mg base CX0 5 f fd ["line"] (spReadLine C) := by
  refine F.ok scOwnReadLine (fun vs H Q E h => ?_) (fun cdv A outer s H vs Q E hr h => ?_)
  · obtain ⟨z, rfl, _⟩ := h
    rfl
  · obtain ⟨z, rfl, ft, q, qn⟩ := h
    have hsl := PySem.sizeLine_eq
    refine ⟨_, (pss_cons (ps_asg (pe_partition (pv 0) pe_str) (pg_tup rfl (pgs_cons (pg_name (i := 1) scOwnReadLine.nd rfl (Or.inl rfl)) (pgs_cons (pg_name (i := 2) scOwnReadLine.nd rfl (Or.inl rfl)) (pgs_cons (pg_name (i := 3) scOwnReadLine.nd rfl (Or.inl rfl)) pgs_nil)))))
  (pss_cons (ps_if (PW.pt (pw_or (pt_cmpR op_eq (pv 3) pe_str (nomark _)) (pw_or1 (pt_not (pt_val (pe_cal Ck (hr.mono (by decide)) pass0 (pa_cons (pv 1) pa_nil)))))))
  (pss_one (ps_ret pe_non))
  pss_nil)
  (pss_one (ps_try_only rfl rfl ⟨rfl, by decide, .inl TB.g⟩ takes0 (fun W pn xe tk _ => pss_one (ps_ret (pe_tup (pa_cons (pv 1) (pa_cons (pe_cmS Co hr (passTk tk) (pe_glob (v := .ref C) (by rfl) gC rfl) (pa_cons (pv 3) pa_nil)) pa_nil))))) (fun a oe cls d pn _ _ => pss_one (ps_ret pe_non)))))), ?_⟩
    walk_at "in"
    walk_at "go"
    refine ⟨z, eqs, rfl, rfl, by decide +kernel, by have := ft.le; omega, fun p hp => ?_⟩
    walk_at "go"
    obtain ⟨f1, f2⟩ := part_fit ft
    have s1 : Same H (upd H p (.tup [V.str (Txt.partition z eqs).1, V.str (Txt.partition z eqs).2.1, V.str (Txt.partition z eqs).2.2])) := fun c o e => upd_at e (ne_of_none e hp)
    obtain ⟨H1, e1⟩ : ∃ H1, H1 = upd H p (.tup [V.str (Txt.partition z eqs).1, V.str (Txt.partition z eqs).2.1, V.str (Txt.partition z eqs).2.2]) := ⟨_, rfl⟩
    rw [← e1] at s1 ⊢
    clear e1 hp
    refine ite_d (fun c => ?_) fun c => ?_
    · rw [if_pos rfl]
      walk_at "go"
      exact qn _ (.inl (by injection c)) s1
    · have c' : (Txt.partition z eqs).2.2 ≠ dash := fun e => c (by rw [e]; rfl)
      walk_at "go"
      refine ⟨_, rfl, f1, fun b H2 hb s2 => ?_⟩
      have s12 : Same H H2 := fun c o e => s2 _ _ (s1 _ _ e)
      cases b with
      | false =>
        refine ⟨_, rfl, iteT ?_⟩
        walk_at "go"
        exact qn _ (.inr (.inl fun h => absurd (hb.mpr h) (by decide))) s12
      | true =>
        refine ⟨_, rfl, iteF ?_⟩
        walk_at "go"
        refine r_cmS (r_c ⟨rfl, r_cons (r_var rfl (r_nil ⟨_, rfl, f2, fun qs x H3 rd hx lq s3 => ?_, fun H3 bad s3 => ?_⟩))⟩)
        · have s13 : Same H H3 := fun c o e => s3 _ _ (s12 _ _ e)
          walk_at "go"
          rename_i u hu
          have s4 : Same H3 (upd H3 u (.tup [V.str (Txt.partition z eqs).1, V.ref x])) := fun c o e => upd_at e (ne_of_none e hu)
          obtain ⟨m, Ln, cn⟩ := lq
          rcases rd.ex with ⟨e, _⟩ | ⟨_, okw, _⟩
          · exact absurd e c'
          · exact q (_, qs) u x _ ⟨rfl, hb.mp rfl, c', okw, rd⟩ (s13.free hu) upd_same ⟨m, Ln.lo.same s4, cn⟩ fun c o e => s4 _ _ (s13 _ _ e)
        · have s13 : Same H H3 := fun c o e => s3 _ _ (s12 _ _ e)
          refine ⟨true, mN, fun _ a ha => ?_, fun z => nomatch z⟩
          walk_at "go"
          exact qn _ (.inr (.inr bad.2)) s13
end


theorem r_fmtI {σ : L2.St} {H : Hp} {Q : VK} {i : Nat} {n : Int} (e : σ[i]? = some (some (.int n))) (h : n.natAbs.log2 < 1920) (q : Q (.str (toString n)) H) : tFmt (tVar i) σ H Q := r_var e (.inr ⟨n, rfl, h, q⟩)
theorem r_fmtT {σ : L2.St} {H : Hp} {Q : VK} {i : Nat} {z : Str} (e : σ[i]? = some (some (.str z))) (h : z.length ≤ sizeLine) (q : Q (.str z) H) : tFmt (tVar i) σ H Q := r_var e (.inl ⟨z, rfl, h, q⟩)
/-- one word of a Lot's text -/
def wd (p : Str × Int) : Str := ((Str.empty ++ (toString p.2 : String)) ++ " ") ++ p.1
def txt (qs : AL) : Str := Txt.join (Str.ofString " ") (qs.map wd)
theorem num_len {n : Int} (h : n.natAbs < 2 ^ 300) : n.natAbs.log2 < 300 := by
  by_cases z : n.natAbs = 0
  · rw [z]; decide
  · exact (Nat.log2_lt z).mpr h
theorem num_len2 {n : Int} (h : n.natAbs < 2 ^ 300) : ((toString n : String) : Str).length ≤ 301 := by
  show (Str.ofString (toString n)).length ≤ 301
  have e := int_text_length_le (k := 300) (by decide) (num_len h)
  rw [ofString_length]
  exact e
theorem wd_len {p : Str × Int} (h : p.2.natAbs < 2 ^ 300) (hk : KindS p.1) : (wd p).length ≤ 310 := by
  unfold wd
  rw [Str.length_append, Str.length_append, Str.length_append]
  have h1 := num_len2 h
  have h2 := hk.2.1
  rw [← len_cds] at h2
  have h3 : Str.empty.length = 0 := rfl
  have h4 : (Str.ofString " ").length = 1 := by decide +kernel
  omega
theorem sum_bound {B : Nat} : ∀ (ys : List Str), (∀ s ∈ ys, s.length ≤ B) → (ys.map (·.length)).sum ≤ ys.length * B
  | [], _ => Nat.zero_le _
  | y :: r, h => by
    rw [List.map_cons, List.sum_cons, List.length_cons, Nat.succ_mul]
    have h1 := sum_bound r fun s hs => h s (List.mem_cons_of_mem _ hs)
    have h2 := h y List.mem_cons_self
    omega
theorem txt_len {qs : AL} (h : ∀ p ∈ qs, p.2.natAbs < 2 ^ 300) (hk : ∀ p ∈ qs, KindS p.1) (l : qs.length ≤ 30) : (txt qs).length ≤ 10000 := by
  unfold txt
  rw [TL.join_eq]
  have h1 := StrLaws.join_length_le (Str.ofString " ") (qs.map wd)
  have h2 := sum_bound (B := 310) (qs.map wd) fun s hs => by
    obtain ⟨p, hp, rfl⟩ := List.mem_map.mp hs
    exact wd_len (h p hp) (hk p hp)
  have h4 : (Str.ofString " ").length = 1 := by decide +kernel
  rw [List.length_map] at h1 h2
  rw [h4] at h1
  omega
section
variable {P : Program} {w : World} {K : PySem.W.Frag} {mg : Str → Option Value} {base : Heap} {C CB CS CO : Addr}
abbrev sLotText : Stmt := inClass (top 17) 22
theorem scLotText : FnScope ["self", "kind", "many"] ["self"] (defScope sLotText) := ⟨rfl, rfl, rfl, by decide +kernel, rfl, by decide +kernel, by decide +kernel⟩
def spLotText (C : Addr) : Sp := fun vs H Q _ => ∃ (x : Addr) (m : AL), vs = [.ref x] ∧ LoA C H x m ∧ m ≠ [] ∧ (∀ p ∈ m, p.2.natAbs < 2 ^ 300) ∧ (∀ p ∈ m, KindS p.1) ∧ ∀ (qs : AL) (H' : Hp), Cn m qs → Same H H' → Q (.str (txt qs)) H'
theorem ok_lotText {f : Addr} {fd : FuncData} (F : Fun K "text" "Lot.text" sLotText f fd) (T : Txt K mg) (L : TxL K C) (Op : OCal P w K mg base CX0 2 C "pairs" ["self"] (spLotPairs C)) (Ol : OCal P w K mg base CX0 1 C "__len__" ["self"] (spLotLen C)) : FnOk P w K mg base CX0 3 f fd ["self"] (spLotText C) := by
  refine F.ok scLotText (fun vs H Q E h => ?_) (fun cdv A outer s H vs Q E hr h => ?_)
  · obtain ⟨x, m, rfl, _⟩ := h
    rfl
  · obtain ⟨x, m, rfl, Lx, ne, nb, nk, q⟩ := h
    obtain ⟨⟨d, dx, h1, h2⟩, nd, mp, ml⟩ := id Lx
    refine ⟨_, (pss_cons (ps_if (pt_cmpR op_eq (pe_callB (c_lenO Ol (hr.mono (by decide)) pass0) (by rfl) T.len (by decide +kernel) (pa_cons (pv 0) pa_nil)) pe_int (nomark _))
  pss_never
  pss_nil)
  (pss_one (ps_ret (pe_joinR pe_str (pe_lc (own := [("kind", 1), ("many", 2)]) (g := gTup _ 2 (gCons (gName 1) (gCons (gName 2) gNil))) (tt := tYes) rfl scLotText.nd (pi_tup (pe_methO0 Op L.oc.cl (hr.mono (by decide)) pass0 (pv 0))) (blkOk_by (N := ["self", "kind", "many"]) (sc := defScope sLotText) (by decide +kernel)) (fun _ _ _ _ _ => (pg_tup rfl (pgs_cons (pg_name (i := 1) scLotText.nd rfl (Or.inl rfl)) (pgs_cons (pg_name (i := 2) scLotText.nd rfl (Or.inl rfl)) pgs_nil)))) (fun _ _ _ _ _ => pts_nil) (fun _ _ _ _ _ => (pe_joinedK (.cons (pe_fmt (pv 2)) (.cons pe_str (.cons (pe_fmt (pv 1)) .nil)))))))))), ?_⟩
    walk_at "in"
    walk_at "go"
    refine ⟨x, dx, _, rfl, h1, x, m, rfl, Lx, _, rfl, ⟨by omega, by omega⟩, ?_⟩
    walk_at "go"
    have l0 : m.length ≠ 0 := fun z => ne (List.eq_nil_of_length_eq_zero z)
    refine ite_dF (fun z => by injection z with z; omega) ?_
    walk_at "go"
    refine r_meth0 ?_
    walk_at "go"
    refine ⟨x, dx, _, rfl, h1, look1, x, m, rfl, Lx, fun p ts qs H1 _ hp tp cn s1 => ?_⟩
    have lq := lq_of cn
    have lt := Paired.len tp
    have qb : ∀ p ∈ qs, p.2.natAbs < 2 ^ 300 := fun p hp => nb p ((cn.mem mp p).mp hp)
    have qk : ∀ p ∈ qs, KindS p.1 := fun p hp => nk p ((cn.mem mp p).mp hp)
    walk_at "go"
    intro D hD
    refine lc_it (walk_tup (xs := ts)) (fun i H' => H' D = some (.lst (((qs.take i).map wd).map V.str)) ∧ Same H1 H') ?_ ?_ ?_ ?_
    · exact ⟨upd_same, fun c o e => upd_at e (ne_of_none e hD)⟩
    · rintro i H' _ ⟨_, s2⟩
      exact SqT.of (s2 _ _ hp)
    · rintro i x' _ H2 hi ⟨hD2, s2⟩ ⟨rfl, hx⟩
      obtain ⟨r, hr1, t, rfl, ht⟩ := Paired.at tp hx
      have ht2 := s2 _ _ ht
      have hrm := List.mem_of_getElem? hr1
      have k8 := (qk r hrm).2.1
      rw [← len_cds] at k8
      have nl := num_len2 (qb r hrm)
      have n4 : (Str.ofString " ").length = 1 := by decide +kernel
      have n5 : Str.empty.length = 0 := rfl
      have hsl := PySem.sizeLine_eq
      walk_at "go"
      refine ⟨rfl, ?_⟩
      walk_at "go"
      refine iteT (r_joined ?_)
      refine r_js (r_fmtI rfl (by have := num_len (qb r hrm); omega) ⟨_, rfl, by rw [Str.length_append]; omega, ?_⟩)
      refine r_js (r_c ⟨_, rfl, by rw [Str.length_append, Str.length_append]; omega, ?_⟩)
      refine r_js (r_fmtT rfl (by omega) ⟨_, rfl, by rw [Str.length_append, Str.length_append, Str.length_append]; omega, ?_⟩)
      refine ⟨_, hD2, szl (by rw [List.length_map, List.length_map, List.length_take]; omega), ?_, fun c o e => upd_at (s2 _ _ e) (ne_of_none e hD)⟩
      rw [List.take_add_one, hr1, List.map_append, List.map_append]
      exact upd_same
    rintro H2 ⟨hD2, s2⟩
    rw [Paired.len tp, List.take_length] at hD2
    refine r_join (ys := qs.map wd) (SqL.of hD2) ?_ ?_
    · have h2 := sum_bound (B := 310) (qs.map wd) fun s hs => by
        obtain ⟨p, hp, rfl⟩ := List.mem_map.mp hs
        exact wd_len (qb p hp) (qk p hp)
      have h4 : (Str.ofString " ").length = 1 := by decide +kernel
      rw [List.length_map] at h2 ⊢
      rw [h4]
      omega
    exact q qs H2 cn fun c o e => s2 _ _ (s1 _ _ e)
abbrev sOpeningText : Stmt := inClass (top 24) 8
theorem scOpeningText : FnScope ["self"] ["self"] (defScope sOpeningText) := ⟨rfl, rfl, rfl, by decide +kernel, rfl, by decide +kernel, by decide +kernel⟩
def otx (k : Str) (qs : AL) : Str := ((Str.empty ++ k) ++ " = ") ++ txt qs
def spOpText (CO : Addr) : Sp := fun vs H Q _ => ∃ (o : Addr) (k : Str) (m qs : AL), vs = [.ref o] ∧ OpA CO H o k qs ∧ Cn m qs ∧ qs ≠ [] ∧ (keys m).Nodup ∧ (∀ j, 0 ≤ get m j) ∧ qs.length ≤ 30 ∧ (∀ p ∈ qs, p.2.natAbs < 2 ^ 300) ∧ (∀ p ∈ qs, KindS p.1) ∧ KindS k ∧ ∀ (H' : Hp), Same H H' → Q (.str (otx k qs)) H'
theorem ok_opText {f : Addr} {fd : FuncData} (F : Fun K "text" "Opening.text" sOpeningText f fd) (T : Txt K mg) (L : TxL K C) (O : TxO K CO) (Ot : OCal P w K mg base CX0 3 C "text" ["self"] (spLotText C)) (Ocn : OPr P w K mg base CX0 4 CO "contents" (spOpContents C CO)) : FnOk P w K mg base CX0 6 f fd ["self"] (spOpText CO) := by
  refine F.ok scOpeningText (fun vs H Q E h => ?_) (fun cdv A outer s H vs Q E hr h => ?_)
  · obtain ⟨o, k, m, qs, rfl, _⟩ := h
    rfl
  · obtain ⟨o, k, m, qs, rfl, Oo, cn, ne, nd, m0, l30, qb, qk, hk, q⟩ := h
    obtain ⟨dx, t, h1⟩ := Oo.ins
    refine ⟨_, (pss_one (ps_ret (pe_joinedK (.cons (pe_fmt (pe_fld (pv 0) rfl)) (.cons pe_str (.cons (pe_fmt (pe_methO0 Ot L.oc.cl (hr.mono (by decide)) pass0 (pe_propO Ocn O.oc.cl (hr.mono (by decide)) pass0 (pv 0) rfl))) .nil)))))), ?_⟩
    have k8 := hk.2.1
    rw [← len_cds] at k8
    have n4 : (Str.ofString " = ").length = 3 := by decide +kernel
    have n5 : Str.empty.length = 0 := rfl
    have hsl := PySem.sizeLine_eq
    have tl := txt_len qb qk l30
    walk_at "in"
    walk_at "go"
    have qp : ∀ p ∈ qs, get m p.1 = p.2 ∧ 0 < p.2 := fun p hp => (mem_pos nd).mp (cn.1.mem_iff.mp hp)
    refine r_joined (r_js ⟨_, rfl, o, CO, dx, _, _, rfl, h1, O.oc.cl, O.nk, rfl, .inl ⟨k, rfl, by omega, _, rfl, by rw [Str.length_append]; omega, ?_⟩⟩)
    refine r_js (r_c ⟨_, rfl, by rw [Str.length_append, Str.length_append]; omega, ?_⟩)
    refine r_js ?_
    refine r_meth0 (r_prop ?_)
    walk_at "go"
    refine ⟨o, dx, _, rfl, h1, o, k, qs, rfl, Oo, l30, fun z hz => Int.le_of_lt (qp z hz).2, fun x mx H1 _ Lxn gx s1 => ?_⟩
    have Lx := Lxn.lo
    obtain ⟨⟨d, dxx, hx1, hx2⟩, ndx, mpx, _⟩ := id Lx
    have gx' : ∀ j, get mx j = get m j := fun j => by rw [gx j, tot_perm cn.1, tot_pos nd m0]
    have mq : ∀ p ∈ mx, p ∈ qs := fun p hp => by
      have e1 : get mx p.1 = p.2 := by unfold get; rw [(look_mem ndx).mpr (show (p.1, p.2) ∈ mx from hp)]; rfl
      refine cn.1.mem_iff.mpr ((mem_pos nd).mpr ⟨by rw [← gx' p.1, e1], mpx p hp⟩)
    have nex : mx ≠ [] := fun z => by
      obtain ⟨p, r, e⟩ := List.exists_cons_of_ne_nil ne
      have hp : p ∈ qs := by rw [e]; exact List.mem_cons_self
      have := qp p hp
      rw [← gx' p.1, z] at this
      have e0 : get ([] : AL) p.1 = 0 := rfl
      omega
    refine ⟨x, dxx, _, rfl, hx1, look1, x, mx, rfl, Lx, nex, fun p hp => qb p (mq p hp), fun p hp => qk p (mq p hp), fun qx H2 cx s2 => ?_⟩
    have eq : qx = qs := cn_unique ndx nd cx cn fun j _ => gx' j
    subst eq
    refine .inl ⟨_, rfl, by omega, _, rfl, by rw [Str.length_append, Str.length_append, Str.length_append]; omega, ?_⟩
    exact q H2 fun c o e => s2 _ _ (s1 _ _ e)
end


section
variable {P : Program} {w : World} {K : PySem.W.Frag} {mg : Str → Option Value} {base : Heap} {C CB CS CO CH CR : Addr}
abbrev sOpeningInitX : Stmt := inClass (top 24) 0
theorem scOpeningInitX : FnScope ["self", "kind", "contents"] ["self", "kind", "contents"] (defScope sOpeningInitX) := ⟨rfl, rfl, rfl, by decide +kernel, rfl, by decide +kernel, by decide +kernel⟩
def spOpInitX (C CO CH CR : Addr) : Sp := fun vs H Q E => ∃ (p dx x : Addr) (k : Str) (m : AL), vs = [.ref p, .str k, .ref x] ∧ H p = some (.ins CO dx []) ∧ LoA C H x m ∧
  ((m = [] ∧ ∀ (d : Addr) (H' : Hp), H d = none → Same H H' → H' d = some (.xd [("kind", .str k)]) → E (.ref CH) (some d) H') ∨
   (m ≠ [] ∧ 0 < get m k ∧ ∀ (d t : Addr) (H' : Hp), H d = none → Same H H' → H' t = some (.tup [.str k]) → H' d = some (.xd [("ring", .ref t)]) → E (.ref CR) (some d) H') ∨
   (m ≠ [] ∧ get m k = 0 ∧ ∀ (qs : AL) (H' : Hp), OpA CO H' p k qs → Cn m qs → (∀ c o, H c = some o → c ≠ p → H' c = some o) → Q .non H'))
theorem ok_opInitX {f : Addr} {fd : FuncData} (F : Fun K "__init__" "Opening.__init__" sOpeningInitX f fd) (T : Txt K mg) (L : TxL K C) (O : TxO K CO) (OH : E1 P w K mg base CH "Hollow" "kind") (OR : E1 P w K mg base CR "Ringed" "ring") (Ol : OCal P w K mg base CX0 1 C "__len__" ["self"] (spLotLen C)) (Oc : OCal P w K mg base CX0 1 C "__contains__" ["self", "x"] (spLotContains C)) (Op : OCal P w K mg base CX0 2 C "pairs" ["self"] (spLotPairs C)) : FnOk P w K mg base (CX P w) 3 f fd ["self", "kind", "contents"] (spOpInitX C CO CH CR) := by
  refine F.okX scOpeningInitX (fun vs H Q E h => ?_) (fun cdv A outer s H vs Q E hr h => ?_)
  · obtain ⟨p, dx, x, k, m, rfl, _⟩ := h
    rfl
  · obtain ⟨p, dx, x, k, m, rfl, hp, Lx, q⟩ := h
    obtain ⟨⟨d, dx1, h1, h2⟩, nd, mp, ml⟩ := id Lx
    obtain ⟨fH, fdH, iH, tH, FH, _, _, bH⟩ := OH.ex
    obtain ⟨fR, fdR, iR, tR, FR, _, _, bR⟩ := OR.ex
    refine ⟨_, (pss_cons (ps_if (pt_cmpR op_eq (pe_callB (c_lenO Ol (hr.mono (by decide)) pass0) (by rfl) T.len (by decide +kernel) (pa_cons (pv 2) pa_nil)) pe_int (nomark _))
  (pss_one (ps_raise rfl (takes_of rfl rfl rfl rfl) (pmk_oex OH.T iH tH FH (hr.mono (by decide)) bH .nil pass0 (by rfl) OH.gC (pa_cons (pv 1) pa_nil))))
  pss_nil)
  (pss_cons (ps_if (pt_cmpR (op_inO Oc (hr.mono (by decide)) pass0) (pv 1) (pv 2) (by rfl))
  (pss_one (ps_raise rfl (takes_of rfl rfl rfl rfl) (pmk_oex OR.T iR tR FR (hr.mono (by decide)) bR .nil pass0 (by rfl) OR.gC (pa_cons (pe_tup (pa_cons (pv 1) pa_nil)) pa_nil))))
  pss_nil)
  (pss_cons (ps_fld (pv 0) (pv 1) rfl)
  (pss_one (ps_fld (pv 0) (pe_methO0 Op L.oc.cl (hr.mono (by decide)) pass0 (pv 2)) rfl))))), ?_⟩
    walk_at "in"
    walk_at "go"
    refine ⟨x, dx1, _, rfl, h1, x, m, rfl, Lx, _, rfl, ⟨by omega, by omega⟩, ?_⟩
    walk_at "go"
    rcases q with ⟨rfl, q⟩ | ⟨ne, g0, q⟩ | ⟨ne, g0, q⟩
    · refine ite_dT rfl ?_
      exact r_cons (r_var rfl (r_nil ⟨by simp, fun a ha => end1X (Q := E) ha fun d' H' hd' s' hx => q d' H' hd' s' hx⟩))
    · have l0 : m.length ≠ 0 := fun z => ne (List.eq_nil_of_length_eq_zero z)
      refine ite_dF (fun z => by injection z with z; omega) ?_
      walk_at "go"
      refine ⟨x, dx1, _, rfl, h1, x, k, m, rfl, Lx, _, rfl, ?_⟩
      rw [decide_eq_true g0]
      refine ⟨_, rfl, ?_⟩
      refine iteT ?_
      refine r_cons ?_
      walk_at "go"
      rename_i t ht
      have s1 : Same H (upd H t (.tup [V.str k])) := fun c o e => upd_at e (ne_of_none e ht)
      refine ⟨by simp, fun a ha => end1X (Q := E) ha fun d' H' hd' s' hx => q d' t H' (s1.free hd') (fun c o e => s' _ _ (s1 _ _ e)) (s' _ _ upd_same) hx⟩
    · have l0 : m.length ≠ 0 := fun z => ne (List.eq_nil_of_length_eq_zero z)
      refine ite_dF (fun z => by injection z with z; omega) ?_
      walk_at "go"
      refine ⟨x, dx1, _, rfl, h1, x, k, m, rfl, Lx, _, rfl, ?_⟩
      rw [g0]
      refine ⟨_, rfl, ?_⟩
      refine iteF ?_
      walk_at "go"
      refine ⟨.str k, rfl, V.ref p, rfl, p, CO, dx, [], rfl, hp, O.oc.cl, O.nk, by show 0 < 1000; decide, ?_⟩
      show tMeth C "pairs" (spLotPairs C) [] E0 (tVar 2) tNil _ _ _
      refine r_meth0 ?_
      walk_at "go"
      have npx : x ≠ p := fun z => by
        rw [z, hp] at h1
        cases h1
      have npd : d ≠ p := fun z => by
        rw [z, hp] at h2
        cases h2
      have Lx' : LoA C (upd H p (.ins CO dx (putF "kind" (.str k) []))) x m := ⟨⟨d, dx1, by rw [upd_ne npx]; exact h1, by rw [upd_ne npd]; exact h2⟩, nd, mp, ml⟩
      refine ⟨x, dx1, _, rfl, by rw [upd_ne npx]; exact h1, look1, x, m, rfl, Lx', fun t ts qs H1 ht ht1 hts cn s1 => ?_⟩
      have hp1 := s1 _ _ upd_same
      refine ⟨V.ref p, rfl, p, CO, dx, _, rfl, hp1, O.oc.cl, O.np, by show 1 < 1000; decide, ?_⟩
      have npt : t ≠ p := fun z => by
        rw [z, hp1] at ht1
        cases ht1
      have k2 : Kp p H1 (upd H1 p (.ins CO dx (putF "_pairs" (.ref t) (putF "kind" (.str k) [])))) := fun c o e n => by rw [upd_ne n]; exact e
      refine q qs _ ⟨dx, t, ts, ?_, by rw [upd_ne npt]; exact ht1, PrA.kpdAll hts k2 hp1 (fun _ z => by cases z)⟩ cn fun c o e n => ?_
      · exact upd_same
      · rw [upd_ne n]
        exact s1 _ _ (by rw [upd_ne n]; exact e)
end


section
variable {P : Program} {w : World} {K : PySem.W.Frag} {mg : Str → Option Value} {base : Heap} {C CO : Addr}
abbrev sOwnPartsOf : Stmt := top 19
theorem scOwnPartsOf : FnScope ["openings", "found", "opening", "part"] ["openings"] (defScope sOwnPartsOf) := ⟨rfl, rfl, rfl, by decide +kernel, rfl, by decide +kernel, by decide +kernel⟩
/-- an Opening as a value -/
def OpV (CO : Addr) (H : Hp) (v : V) (r : Row) : Prop := ∃ o, v = .ref o ∧ OpA CO H o r.1 r.2
theorem OpV.same {H H' : Hp} {v : V} {r : Row} (h : OpV CO H v r) (s : Same H H') : OpV CO H' v r := let ⟨o, e, h⟩ := h; ⟨o, e, h.same s⟩
theorem OpV.all {H H' : Hp} {vs : List V} {rs : List Row} (h : Paired (OpV CO H) vs rs) (s : Same H H') : Paired (OpV CO H') vs rs := Paired.mapP h fun _ _ z => z.same s
def spPartsOf (CO : Addr) : Sp := fun vs H Q _ => ∃ (l : Addr) (os : List V) (rows : List Row), vs = [.ref l] ∧ H l = some (.lst os) ∧ Paired (OpV CO H) os rows ∧ rows.length ≤ 63 ∧ (∀ r ∈ rows, RowOk r) ∧ ∀ d H', H d = none → PartsA H' d rows → Same H H' → Q (.ref d) H'
theorem keys_cn {m qs : AL} (cn : Cn m qs) (mp : ∀ p ∈ m, 0 < p.2) (k : Str) : k ∈ keys m ↔ k ∈ keys qs := by
  unfold keys
  rw [List.mem_map, List.mem_map]
  exact ⟨fun ⟨p, h, e⟩ => ⟨p, (cn.mem mp p).mpr h, e⟩, fun ⟨p, h, e⟩ => ⟨p, (cn.mem mp p).mp h, e⟩⟩
theorem keysP {m qs : AL} (cn : My.Cn m qs) (mp : ∀ p ∈ m, 0 < p.2) : (keys qs).Perm (keys m) := by
  have := cn.1
  rw [pos_all mp] at this
  exact this.map _
theorem ok_partsOf {f : Addr} {fd : FuncData} (F : Fun K "_parts_of" "_parts_of" sOwnPartsOf f fd) (T : Txt K mg) (L : TxL K C) (O : TxO K CO) (Ocn : OPr P w K mg base CX0 4 CO "contents" (spOpContents C CO)) (Ok : OCal P w K mg base CX0 1 C "kinds" ["self"] (spLotKinds C)) : FnOk P w K mg base CX0 6 f fd ["openings"] (spPartsOf CO) := by
  refine F.ok scOwnPartsOf (fun vs H Q E h => ?_) (fun cdv A outer s H vs Q E hr h => ?_)
  · obtain ⟨l, os, rows, rfl, _⟩ := h
    rfl
  · obtain ⟨l, os, rows, rfl, hl, hos, lr, ok, q⟩ := h
    refine ⟨_, (pss_cons (ps_set (i := 1) scOwnPartsOf.nd rfl (Or.inl rfl) pe_dnewK)
  (pss_cons (ps_for PassesOwn.never rfl (pi_list (pv 0)) (pg_name (i := 2) scOwnPartsOf.nd rfl (Or.inl rfl))
  (pss_one (ps_for PassesOwn.never rfl (pi_list (pe_methO0 Ok L.oc.cl (hr.mono (by decide)) pass0 (pe_propO Ocn O.oc.cl (hr.mono (by decide)) pass0 (pv 2) rfl))) (pg_name (i := 3) scOwnPartsOf.nd rfl (Or.inl rfl))
  (pss_one (ps_expr (pe_bm PySem.F.plainAttrs_list PySem.F.slot_list_append PySem.F.type_list_append mt_append (pe_dsetd (pv 1) (pe_fld (pv 2) rfl) (pe_lst pa_nil) ⟨rfl, rfl, rfl, rfl⟩) (pa_cons (pv 3) pa_nil)))))))
  (pss_one (ps_ret (pv 1))))), ?_⟩
    walk_at "in"
    walk_at "go"
    rename_i d hd
    have nld : l ≠ d := ne_of_none hl hd
    have lo := Paired.len hos
    have s0 : Same H (upd H d (.dK [])) := fun c o e => upd_at e (ne_of_none e hd)
    refine for_it (walk_list (xs := os)) (fun i σ H' => ∃ (x2 x3 : Option V) (m : GL Addr) (ms : GL (List Str)) (es : List (Str × Str)), σ = [some (.ref l), some (.ref d), x2, x3] ∧ H' d = some (.dK (genc V.ref m)) ∧ PtsH H' m ms ∧ EdOk es ms ∧ (∀ k p, (k, p) ∈ es ↔ Edge (rows.take i) k p) ∧ es.length ≤ 30 * i ∧ es.length ≤ esum (rows.take i) ∧ (es.map (·.2)).Perm ((rows.take i).map fun r => keys r.2).flatten ∧ (∀ k a, glook m k = some a → H a = none) ∧ Same H H') ?_ ?_ ?_ ?_
    · exact ⟨none, none, [], [], [], rfl, upd_same, PtsH.nil, EdOk.nil, fun k p => ⟨fun h => (nomatch h), fun ⟨r, h, _⟩ => (by rw [List.take_zero] at h; cases h)⟩, by simp, by simp, by rw [List.take_zero]; exact List.Perm.refl _, fun _ _ h => (by cases h), s0⟩
    · rintro i σ H1 _ ⟨_, _, _, _, _, _, _, _, _, _, _, _, _, _, s1⟩
      exact SqL.of (s1 _ _ hl)
    · rintro i x _ _ H1 hi ⟨x2, x3, m, ms, es, rfl, hm, pts, edk, hed, les, lse, pfl, new, s1⟩ ⟨rfl, hx⟩
      obtain ⟨r, hr1, o, rfl, hop⟩ := Paired.at hos hx
      have hrm := List.mem_of_getElem? hr1
      have rok := ok r hrm
      have op1 := hop.same s1
      obtain ⟨dx, t, ts, e1, e2, e3⟩ := id op1
      walk_at "go"
      refine r_meth0 (r_prop (r_var rfl ⟨o, dx, _, rfl, e1, o, r.1, r.2, rfl, op1, by have := rok.ln; omega, fun z hz => Int.le_of_lt (rok.pos z hz).1, fun x m' H2 hx Lx hg s2 => ?_⟩))
      have cn : My.Cn m' r.2 := cn_tot Lx.lo.nd rok.nd (fun p hp => (rok.pos p hp).1) (up_ple rok.up) hg
      obtain ⟨⟨dl, dxl, hxl, _⟩, _, mp', _⟩ := id Lx.lo
      refine ⟨x, dxl, _, rfl, hxl, look1, x, m', rfl, Lx.lo, fun l2 ys H3 hl2 hl3 pm _ s3 => ?_⟩
      have s13 : Same H1 H3 := fun c o e => s3 _ _ (s2 _ _ e)
      have yk : ∀ k, k ∈ ys ↔ k ∈ keys r.2 := fun k => by rw [pm.mem_iff, keys_cn cn mp']
      have nl2 : ∀ k, glook m k ≠ some l2 := fun k e => by
        obtain ⟨ps, _, e5⟩ := pts.both e
        have := s2 _ _ e5
        rw [hl2] at this
        cases this
      have ly : ys.length ≤ 30 := by
        have h1 := pm.length_eq
        have h2 := cn.len mp'
        have h3 : (keys m').length = m'.length := List.length_map _
        have := rok.ln
        omega
      have ndl2 : d ≠ l2 := ne_of_none (s2 _ _ hm) hl2
      have s02 : Same H H2 := fun c o e => s2 _ _ (s1 _ _ e)
      have hl2' : H l2 = none := s02.free hl2
      refine ⟨l2, rfl, ⟨_, SqL.of hl3⟩, for_it (walk_list (xs := ys.map V.str)) (fun j σ H' => ∃ (x3 : Option V) (m : GL Addr) (ms : GL (List Str)) (es : List (Str × Str)), σ = [some (.ref l), some (.ref d), some (.ref o), x3] ∧ H' d = some (.dK (genc V.ref m)) ∧ PtsH H' m ms ∧ EdOk es ms ∧ (∀ k p, (k, p) ∈ es ↔ Edge (rows.take i) k p ∨ (r.1 = k ∧ p ∈ ys.take j)) ∧ es.length ≤ 30 * i + j ∧ es.length ≤ esum (rows.take i) + j ∧ (es.map (·.2)).Perm (((rows.take i).map fun r => keys r.2).flatten ++ ys.take j) ∧ (∀ k a, glook m k = some a → H a = none) ∧ (∀ k, glook m k ≠ some l2) ∧ H' l2 = some (.lst (ys.map V.str)) ∧ Same H H') ?_ ?_ ?_ ?_⟩
      · exact ⟨_, m, ms, es, rfl, s13 _ _ hm, pts.same s13, edk, fun k p => by rw [hed, List.take_zero]; exact ⟨.inl, fun z => z.elim id fun z => (nomatch z.2)⟩, by omega, by omega, by rw [List.take_zero, List.append_nil]; exact pfl, new, nl2, hl3, fun c o e => s13 _ _ (s1 _ _ e)⟩
      · rintro j σ H' _ ⟨_, _, _, _, _, _, _, _, _, _, _, _, _, _, h, _⟩
        exact SqL.of h
      · rintro j y _ _ H4 hj ⟨x3', m, ms, es, rfl, hm, pts, edk, hed, les, lse, pfl2, new, nl2, h42, s4⟩ ⟨rfl, hy⟩
        rw [List.length_map] at hj
        rw [List.getElem?_map] at hy
        obtain ⟨p, hp, rfl⟩ := Option.map_eq_some_iff.mp hy
        obtain ⟨dx4, t4, ts4, e41, _, _⟩ := hop.same s4
        have tkp : ∀ k q, (k, q) ∈ es ++ [(r.1, p)] ↔ Edge (rows.take i) k q ∨ (r.1 = k ∧ q ∈ ys.take (j + 1)) := fun k q => by
          rw [List.mem_append, List.mem_singleton, hed, List.take_add_one, hp, List.mem_append]
          constructor
          · rintro ((z | z) | z)
            · exact .inl z
            · exact .inr ⟨z.1, .inl z.2⟩
            · exact .inr ⟨(Prod.mk.inj z).1.symm, .inr (by rw [(Prod.mk.inj z).2]; exact List.mem_singleton_self _)⟩
          · rintro (z | ⟨z, w | w⟩)
            · exact .inl (.inl z)
            · exact .inl (.inr ⟨z, w⟩)
            · exact .inr (by rw [List.mem_singleton.mp w, z])
        have pf3 : ((es ++ [(r.1, p)]).map (·.2)).Perm (((rows.take i).map fun r => keys r.2).flatten ++ ys.take (j + 1)) := by
          rw [List.map_append, List.take_add_one, hp, ← List.append_assoc]
          exact List.Perm.append_right _ pfl2
        walk_at "go"
        refine r_dsetd (r_var rfl ⟨d, rfl, Or.inl ⟨_, Or.inl hm⟩, ?_⟩)
        refine ⟨_, rfl, o, CO, dx4, _, _, rfl, e41, O.oc.cl, O.nk, rfl, ?_⟩
        walk_at "go"
        rename_i l0 hl0
        have nl0d : d ≠ l0 := ne_of_none hm hl0
        have nl02 : l2 ≠ l0 := ne_of_none h42 hl0
        have lms : ms.length ≤ 3000 := by have := edk.lm; omega
        have lm := pts.len
        have hl0' : H l0 = none := s4.free hl0
        refine ⟨_, Sum.inr r.1, upd_at hm nl0d, rfl, szl (by rw [genc_len]; omega), fun v hv => ?_, fun hv => ?_⟩
        · rw [genc_look] at hv
          obtain ⟨a, ha, rfl⟩ := Option.map_eq_some_iff.mp hv
          obtain ⟨ps, hps, hla⟩ := pts.both ha
          have nal0 : a ≠ l0 := ne_of_none hla hl0
          have nad : d ≠ a := fun z => by rw [z, hla] at hm; cases hm
          have nal2 : l2 ≠ a := fun z => nl2 r.1 (by rw [z]; exact ha)
          have lps := edk.ln _ _ hps
          have hla5 : upd H4 l0 (.lst []) a = some (.lst (ps.map V.str)) := upd_at hla nal0
          refine ⟨.inl ⟨rfl, _, SqL.of hla5⟩, ?_⟩
          walk_at "ps"
          walk_at "ps"
          walk_at "ps"
          refine ⟨a, _, .str p, rfl, rfl, hla5, szl (by rw [List.length_map]; omega), ?_⟩
          refine ⟨_, m, gput ms r.1 (ps ++ [p]), es ++ [(r.1, p)], rfl, upd_at (upd_at hm nl0d) nad, pts.grow ha hps (by rw [List.map_append]; exact upd_same) (fun c o e n => upd_at (upd_at e (ne_of_none e hl0)) n), edk.grow pts.nd (.inl hps), tkp, by rw [List.length_append]; simp; omega, by rw [List.length_append]; simp; omega, pf3, new, nl2, upd_at (upd_at h42 nl02) nal2, fun c o e => upd_at (upd_at (s4 _ _ e) (ne_of_none (s4 _ _ e) hl0)) (ne_of_none e (new _ _ ha))⟩
        · rw [genc_look] at hv
          have hn : glook m r.1 = none := by
            cases z : glook m r.1 with
            | none => rfl
            | some a => rw [z] at hv; cases hv
          have hn2 : glook ms r.1 = none := glook_none.mpr (by rw [← pts.ke]; exact glook_none.mp hn)
          have h0 : upd (upd H4 l0 (.lst [])) d (.dK (putK (genc V.ref m) (Sum.inr r.1) (V.ref l0))) l0 = some (.lst []) := upd_at upd_same nl0d.symm
          refine ⟨.inl ⟨rfl, _, SqL.of h0⟩, ?_⟩
          walk_at "ps"
          walk_at "ps"
          walk_at "ps"
          refine ⟨l0, _, .str p, rfl, rfl, h0, szl (by simp), ?_⟩
          refine ⟨_, gput m r.1 l0, gput ms r.1 ([] ++ [p]), es ++ [(r.1, p)], rfl, ?_, ?_, edk.grow pts.nd (.inr ⟨hn2, rfl⟩), tkp, by rw [List.length_append]; simp; omega, by rw [List.length_append]; simp; omega, pf3, fun k a e => ?_, fun k e => ?_, ?_, fun c o e => ?_⟩
          · rw [genc_put]
            exact upd_at upd_same nl0d
          · refine pts.more hn hl0 upd_same fun c o ys e eo => ?_
            subst eo
            exact upd_at (upd_at (upd_at e (ne_of_none e hl0)) fun z => by rw [z, hm] at e; cases e) (ne_of_none e hl0)
          · rw [glook_put] at e
            by_cases c : k = r.1
            · rw [if_pos c] at e
              rw [← Option.some.inj e]
              exact hl0'
            · rw [if_neg c] at e
              exact new k a e
          · rw [glook_put] at e
            by_cases c : k = r.1
            · rw [if_pos c] at e
              exact nl02 (Option.some.inj e).symm
            · rw [if_neg c] at e
              exact nl2 k e
          · exact upd_at (upd_at (upd_at h42 nl02) ndl2.symm) nl02
          · exact upd_at (upd_at (upd_at (s4 _ _ e) (ne_of_none (s4 _ _ e) hl0)) (ne_of_none e hd)) (ne_of_none (s4 _ _ e) hl0)
      · rintro σ H4 ⟨x3', m, ms, es, rfl, hm, pts, edk, hed, les, lse, pfl2, new, nl2, h42, s4⟩
        rw [List.length_map, List.take_length] at hed
        rw [List.length_map] at les lse
        have lyr : ys.length = r.2.length := by
          rw [pm.length_eq, cn.len mp']
          exact List.length_map _
        rw [List.length_map, List.take_length] at pfl2
        have pf4 : (es.map (·.2)).Perm ((rows.take (i + 1)).map fun r => keys r.2).flatten := by
          rw [List.take_add_one, hr1, List.map_append, List.flatten_append]
          show (es.map (·.2)).Perm (_ ++ ([keys r.2]).flatten)
          rw [List.flatten_cons, List.flatten_nil, List.append_nil]
          exact pfl2.trans (List.Perm.append_left _ (pm.trans (keysP cn mp').symm))
        exact ⟨_, _, m, ms, es, rfl, hm, pts, edk, fun k p => by rw [hed, Edge.take hr1, yk], by omega, by rw [esum_take hr1]; omega, pf4, new, s4⟩
    · rintro σ H1 ⟨x2, x3, m, ms, es, rfl, hm, pts, edk, hed, les, lse, pfl, new, s1⟩
      walk_at "go"
      rw [Paired.len hos, List.take_length] at hed lse pfl
      have := Paired.len hos
      exact q d H1 hd ⟨m, ms, es, hm, pts, edk, hed, by omega, lse, pfl⟩ s1
end


section
variable {P : Program} {w : World} {K : PySem.W.Frag} {mg : Str → Option Value} {base : Heap} {C CO : Addr}
abbrev sOwnHolding : Stmt := top 20
theorem scOwnHolding : FnScope ["parts", "kind", "found", "waiting", "holder", "part"] ["parts", "kind"] (defScope sOwnHolding) := ⟨rfl, rfl, rfl, by decide +kernel, rfl, by decide +kernel, by decide +kernel⟩
/-- found as it grows: each kind behind one that holds it -/
inductive Bld (es : List (Str × Str)) (k : Str) : GL Str → Prop
  | nil : Bld es k []
  | snoc {hs : GL Str} {p h : Str} : Bld es k hs → p ∉ gkeys hs → (h, p) ∈ es → (h = k ∨ h ∈ gkeys hs) → Bld es k (hs ++ [(p, h)])
/-- the kinds within k, each with one that holds it -/
structure HoldOk (es : List (Str × Str)) (k : Str) (hs : GL Str) : Prop where
  nd : (gkeys hs).Nodup
  ks : ∀ p, p ∈ gkeys hs ↔ Rch es k p
  by_ : ∀ p h, glook hs p = some h → (h, p) ∈ es ∧ (h = k ∨ h ∈ gkeys hs)
  bl : Bld es k hs
def spHolding : Sp := fun vs H Q _ => ∃ (dp : Addr) (k : Str) (m : GL Addr) (ms : GL (List Str)) (es : List (Str × Str)), vs = [.ref dp, .str k] ∧ Rd H dp (.dK (genc V.ref m)) ∧ PtsH H m ms ∧ EdOk es ms ∧ es.length ≤ 3000 ∧
  ∀ (d : Addr) (hs : GL Str) (H' : Hp), H d = none → H' d = some (.dK (genc V.str hs)) → HoldOk es k hs → Same H H' → Q (.ref d) H'
theorem ok_holding {f : Addr} {fd : FuncData} (F : Fun K "_holding" "_holding" sOwnHolding f fd) (T : Txt K mg) : FnOk P w K mg base CX0 1 f fd ["parts", "kind"] spHolding := by
  refine F.ok scOwnHolding (fun vs H Q E h => ?_) (fun cdv A outer s H vs Q E hr h => ?_)
  · obtain ⟨dp, k, m, ms, es, rfl, _⟩ := h
    rfl
  · obtain ⟨dp, k, m, ms, es, rfl, hd, pts, edk, les, q⟩ := h
    have hu := hu_of hr
    refine ⟨_, (pss_cons (ps_set (i := 2) scOwnHolding.nd rfl (Or.inl rfl) pe_dnewK)
  (pss_cons (ps_set (i := 3) scOwnHolding.nd rfl (Or.inl rfl) (pe_lst (pa_cons (pv 1) pa_nil)))
  (pss_cons (ps_while PassesOwn.never (pt_truth (pv 3) (by intro _; rfl))
  (pss_cons (ps_set (i := 4) scOwnHolding.nd rfl (Or.inl rfl) (pe_bm0 PySem.F.plainAttrs_list PySem.F.slot_list_pop PySem.F.type_list_pop mt_pop (pv 3)))
  (pss_one (ps_for PassesOwn.never rfl (pi_seq (pe_dget2 hu (pv 0) (pv 4) (pe_tup pa_nil) ⟨rfl, rfl, rfl, rfl⟩)) (pg_name (i := 5) scOwnHolding.nd rfl (Or.inl rfl))
  (pss_one (ps_if (pt_cmp (pc_dnotin hu (pv 5) (pv 2)))
  (pss_cons (ps_dput hu (pv 2) (pv 5) (pv 4) rfl)
  (pss_one (ps_expr (pe_bm PySem.F.plainAttrs_list PySem.F.slot_list_append PySem.F.type_list_append mt_append (pv 3) (pa_cons (pv 5) pa_nil)))))
  pss_nil))))))
  (pss_one (ps_ret (pv 2)))))), ?_⟩
    walk_at "in"
    walk_at "go"
    rename_i d hdn lw hlw
    have s0 : Same H (upd (upd H d (.dK [])) lw (.lst [V.str k])) := fun c o e => upd_at (upd_at e (ne_of_none e hdn)) (ne_of_none (upd_at e (ne_of_none e hdn)) hlw)
    have hd0 : upd (upd H d (.dK [])) lw (.lst [V.str k]) d = some (.dK []) := upd_at upd_same (ne_of_none upd_same hlw)
    have hl0 : upd (upd H d (.dK [])) lw (.lst [V.str k]) lw = some (.lst [V.str k]) := upd_same
    have hlwn : H lw = none := by
      have nd : lw ≠ d := fun z => by rw [z, upd_same] at hlw; cases hlw
      rw [upd_ne nd] at hlw
      exact hlw
    generalize upd (upd H d (.dK [])) lw (.lst [V.str k]) = G at s0 hd0 hl0 ⊢
    clear hlw
    refine while_m (m0 := 1 + 2 * es.length) (fun n σ H' => ∃ (x4 x5 : Option V) (hs : GL Str) (wl : List Str), σ = [some (.ref dp), some (.str k), some (.ref d), some (.ref lw), x4, x5] ∧ H' d = some (.dK (genc V.str hs)) ∧ H' lw = some (.lst (wl.map V.str)) ∧ Same H H' ∧ (gkeys hs).Nodup ∧ (∀ p ∈ gkeys hs, Rch es k p) ∧ (∀ x ∈ wl, x = k ∨ x ∈ gkeys hs) ∧ ((∀ p h, glook hs p = some h → (h, p) ∈ es ∧ (h = k ∨ h ∈ gkeys hs)) ∧ Bld es k hs) ∧ (∀ h, h = k ∨ h ∈ gkeys hs → h ∈ wl ∨ ∀ p, (h, p) ∈ es → p ∈ gkeys hs) ∧ n = wl.length + 2 * (es.length - hs.length) ∧ n ≤ 1 + 2 * es.length) ?_ ?_ ?_
    · exact ⟨_, _, [], [k], rfl, hd0, hl0, s0, List.nodup_nil, fun _ h => (nomatch h), fun x hx => .inl (List.mem_singleton.mp hx), ⟨fun _ _ h => (by cases h), .nil⟩, fun h z => .inl (z.elim (fun z => by rw [z]; exact List.mem_singleton_self _) fun z => (nomatch z)), rfl, Nat.le_refl _⟩
    · rintro n σ H1 ⟨x4, x5, hs, wl, rfl, hd1, hl1, s1, nd, rc, wk, ⟨by_, bl⟩, cl, rfl, ln0⟩
      have lhs : ∀ {hs : GL Str}, (gkeys hs).Nodup → (∀ p ∈ gkeys hs, Rch es k p) → hs.length ≤ es.length := fun nd rc => by
        have e : es.length = (es.map (·.2)).length := (List.length_map _).symm
        rw [e]
        refine glook_len nd fun p hp => ?_
        cases rc p hp with
        | one h => exact List.mem_map.mpr ⟨_, h, rfl⟩
        | step _ h => exact List.mem_map.mpr ⟨_, h, rfl⟩
      refine r_var rfl ⟨_, .inl ⟨_, SqL.of hl1, rfl⟩, ?_⟩
      by_cases we : wl = []
      · subst we
        refine iteF ?_
        walk_at "go"
        have all : ∀ p, Rch es k p → p ∈ gkeys hs := fun p r => by
          induction r with
          | one h => exact (cl k (.inl rfl)).elim (fun z => nomatch z) fun z => z _ h
          | step _ h ih => exact (cl _ (.inr ih)).elim (fun z => nomatch z) fun z => z _ h
        exact q d hs H1 hdn hd1 ⟨nd, fun p => ⟨rc p, all p⟩, by_, bl⟩ s1
      obtain ⟨wl1, h, rfl⟩ : ∃ wl1 h, wl = wl1 ++ [h] := ⟨wl.dropLast, wl.getLast we, (List.dropLast_concat_getLast we).symm⟩
      have hT : (!((wl1 ++ [h]).map V.str).isEmpty) = true := by simp
      rw [hT]
      refine iteT ?_
      walk_at "ps"
      walk_at "ps"
      refine r_var rfl ⟨.inl ⟨rfl, _, SqL.of hl1⟩, lw, _, .str h, rfl, rfl, hl1, ?_, ?_⟩
      · simp
      rw [List.length_append, List.length_singleton] at ln0
      have eD : ((wl1 ++ [h]).map V.str).dropLast = wl1.map V.str := by simp
      rw [eD]
      have ndl : d ≠ lw := fun z => by rw [z, hl1] at hd1; cases hd1
      have hd2 : upd H1 lw (.lst (wl1.map V.str)) d = some (.dK (genc V.str hs)) := upd_at hd1 ndl
      have hl2 : upd H1 lw (.lst (wl1.map V.str)) lw = some (.lst (wl1.map V.str)) := upd_same
      have s2 : Same H (upd H1 lw (.lst (wl1.map V.str))) := fun c o e => upd_at (s1 _ _ e) (ne_of_none e hlwn)
      generalize upd H1 lw (.lst (wl1.map V.str)) = H2 at hd2 hl2 s2 ⊢
      walk_at "ps"
      walk_at "ps"
      have rd2 : Rd H2 dp (.dK (genc V.ref m)) := hd.elim (fun z => .inl (s2 _ _ z)) fun ⟨o, z⟩ => .inr ⟨o, s2 _ _ z⟩
      unfold iSeq
      refine r_dget2 (r_var rfl ⟨dp, rfl, .inl ⟨_, rd2⟩, r_var rfl ?_⟩)
      walk_at "go"
      rename_i t ht
      have rd3 : Rd (upd H2 t (.tup [])) dp (.dK (genc V.ref m)) := Rd_upd rd2 ht
      have hd3 : upd H2 t (.tup []) d = some (.dK (genc V.str hs)) := upd_at hd2 (ne_of_none hd2 ht)
      have hl3 : upd H2 t (.tup []) lw = some (.lst (wl1.map V.str)) := upd_at hl2 (ne_of_none hl2 ht)
      have s3 : Same H (upd H2 t (.tup [])) := fun c o e => upd_at (s2 _ _ e) (ne_of_none (s2 _ _ e) ht)
      have ht3 : upd H2 t (.tup []) t = some (.tup []) := upd_same
      have htd : t ≠ d := (ne_of_none hd2 ht).symm
      have htl : t ≠ lw := (ne_of_none hl2 ht).symm
      generalize upd H2 t (.tup []) = H3 at rd3 hd3 hl3 s3 ht3 ⊢
      refine ⟨_, DGet_genc rd3 h, ?_⟩
      obtain ⟨a, ps, ea, sq, nad, nal, ed, lps⟩ : ∃ (a : Addr) (ps : List Str), ((glook m h).map V.ref).getD (.ref t) = .ref a ∧ SqA K H3 a (ps.map V.str) ∧ a ≠ d ∧ a ≠ lw ∧ (∀ p, (h, p) ∈ es ↔ p ∈ ps) ∧ ps.length ≤ 3000 := by
        cases e : glook m h with
        | some a =>
          obtain ⟨ps, e1, e2⟩ := pts.both e
          have e3 := s3 _ _ e2
          refine ⟨a, ps, rfl, .inl (SqL.of e3), (fun z => by rw [z, hd3] at e3; cases e3), ne_of_none e2 hlwn, fun p => ?_, by have := edk.ln _ _ e1; omega⟩
          rw [← edk.ed h p, e1]
          exact ⟨fun ⟨qs, z, hq⟩ => by rw [Option.some.inj z]; exact hq, fun hq => ⟨ps, rfl, hq⟩⟩
        | none =>
          have e1 : glook ms h = none := glook_none.mpr (by rw [← pts.ke]; exact glook_none.mp e)
          refine ⟨t, [], rfl, .inr (SqT.of ht3), htd, htl, fun p => ?_, Nat.zero_le _⟩
          rw [← edk.ed h p, e1]
          exact ⟨fun ⟨qs, z, _⟩ => (by cases z), fun hq => (nomatch hq)⟩
      have lh0 := lhs nd rc
      have wk1 : ∀ x ∈ wl1, x = k ∨ x ∈ gkeys hs := fun x hx => wk x (List.mem_append_left _ hx)
      have wkh : h = k ∨ h ∈ gkeys hs := wk h (List.mem_append_right _ (List.mem_singleton_self _))
      refine ⟨a, ps.map V.str, ea, ?_⟩
      refine r_seqA sq fun J G w hG => ?_
      refine for_it w (fun j σ H' => ∃ (x5 : Option V) (hs' : GL Str) (wl : List Str), σ = [some (.ref dp), some (.str k), some (.ref d), some (.ref lw), some (.str h), x5] ∧ H' d = some (.dK (genc V.str hs')) ∧ H' lw = some (.lst (wl.map V.str)) ∧ Same H H' ∧ (∀ o, H3 a = some o → H' a = some o) ∧ (gkeys hs').Nodup ∧ (∀ p ∈ gkeys hs', Rch es k p) ∧ (∀ x ∈ wl, x = k ∨ x ∈ gkeys hs') ∧ ((∀ p h, glook hs' p = some h → (h, p) ∈ es ∧ (h = k ∨ h ∈ gkeys hs')) ∧ Bld es k hs') ∧ (∀ x ∈ gkeys hs, x ∈ gkeys hs') ∧ (∀ g, g = k ∨ g ∈ gkeys hs' → g ∈ wl ∨ (∀ p, (g, p) ∈ es → p ∈ gkeys hs') ∨ (g = h ∧ ∀ p ∈ ps.take j, p ∈ gkeys hs')) ∧ wl.length + 2 * (es.length - hs'.length) ≤ wl1.length + 2 * (es.length - hs.length) ∧ wl.length ≤ wl1.length + j) ?_ ?_ ?_ ?_
      · refine ⟨_, hs, wl1, rfl, hd3, hl3, s3, fun _ e => e, nd, rc, wk1, ⟨by_, bl⟩, fun _ z => z, fun g hg => ?_, Nat.le_refl _, Nat.le_refl _⟩
        rcases cl g hg with z | z
        · rcases List.mem_append.mp z with z | z
          · exact .inl z
          · exact .inr (.inr ⟨List.mem_singleton.mp z, fun p hp => by rw [List.take_zero] at hp; cases hp⟩)
        · exact .inr (.inl z)
      · rintro j σ H' _ ⟨_, _, _, _, _, _, _, kp, _⟩
        exact hG H' kp
      · rintro j y _ _ H4 hj ⟨x5', hs', wl, rfl, hd4, hl4, s4, kp4, nd4, rc4, wk4, ⟨by4, bl4⟩, inc, cl4, me4, lw4⟩ ⟨rfl, hy⟩
        rw [List.length_map] at hj
        rw [List.getElem?_map] at hy
        obtain ⟨p, hp, rfl⟩ := Option.map_eq_some_iff.mp hy
        have hpm : p ∈ ps := List.mem_of_getElem? hp
        have tk : ps.take (j + 1) = ps.take j ++ [p] := by rw [List.take_add_one, hp]; rfl
        have wkh4 : h = k ∨ h ∈ gkeys hs' := wkh.imp id (inc h)
        have lh4 := lhs nd4 rc4
        walk_at "go"
        refine r_dnin (r_var rfl (r_var rfl ⟨d, _, rfl, DGet_genc (.inl hd4) p, ?_⟩))
        refine ⟨_, rfl, ?_⟩
        rw [Option.isSome_map]
        cases e : glook hs' p with
        | some g =>
          refine iteF ?_
          walk_at "go"
          have pk : p ∈ gkeys hs' := gkeys_some.mpr ⟨g, e⟩
          refine ⟨_, hs', wl, rfl, hd4, hl4, s4, kp4, nd4, rc4, wk4, ⟨by4, bl4⟩, inc, fun g hg => ?_, me4, by omega⟩
          rcases cl4 g hg with z | z | ⟨z, z2⟩
          · exact .inl z
          · exact .inr (.inl z)
          · refine .inr (.inr ⟨z, fun p' hp' => ?_⟩)
            rw [tk] at hp'
            exact (List.mem_append.mp hp').elim (z2 p') fun w => by rw [List.mem_singleton.mp w]; exact pk
        | none =>
          refine iteT ?_
          walk_at "go"
          have pk := glook_none.mp e
          refine ⟨d, _, rfl, DPut_genc hd4 p h (szl (by omega)), ?_⟩
          have ndl4 : d ≠ lw := fun z => by rw [z, hl4] at hd4; cases hd4
          have hl5 : upd H4 d (.dK (genc V.str (gput hs' p h))) lw = some (.lst (wl.map V.str)) := upd_at hl4 ndl4.symm
          walk_at "ps"
          walk_at "ps"
          refine r_var rfl ⟨.inl ⟨rfl, _, SqL.of hl5⟩, ?_⟩
          walk_at "ps"
          walk_at "ps"
          walk_at "ps"
          refine ⟨lw, _, .str p, rfl, rfl, hl5, szl (by rw [List.length_map]; omega), ?_⟩
          have e2 : gput hs' p h = hs' ++ [(p, h)] := gput_new pk
          have ke2 : gkeys (gput hs' p h) = gkeys hs' ++ [p] := by rw [gkeys_put, if_neg pk]
          have lg : (gput hs' p h).length = hs'.length + 1 := by rw [e2, List.length_append]; rfl
          have rp : Rch es k p := by
            have hpe := (ed p).mpr hpm
            rcases wkh4 with z | z
            · rw [z] at hpe; exact .one hpe
            · exact .step (rc4 h z) hpe
          have nd5 := gput_nodup (n := h) (k := p) nd4
          have rc5 : ∀ p' ∈ gkeys (gput hs' p h), Rch es k p' := fun p' hp' => by
            rw [ke2] at hp'
            exact (List.mem_append.mp hp').elim (rc4 p') fun w => by rw [List.mem_singleton.mp w]; exact rp
          have lh5 := lhs nd5 rc5
          have up : ∀ x, x ∈ gkeys hs' → x ∈ gkeys (gput hs' p h) := fun x hx => by rw [ke2]; exact List.mem_append_left _ hx
          have pin : p ∈ gkeys (gput hs' p h) := by rw [ke2]; exact List.mem_append_right _ (List.mem_singleton_self _)
          refine ⟨_, gput hs' p h, wl ++ [p], rfl, upd_at upd_same ndl4, by rw [List.map_append]; exact upd_same, fun c o e => upd_at (upd_at (s4 _ _ e) (ne_of_none e hdn)) (ne_of_none e hlwn), fun o e => upd_at (upd_at (kp4 o e) nad) nal, nd5, rc5, fun x hx => ?_, ⟨fun p' h' e' => ?_, by rw [e2]; exact .snoc bl4 pk ((ed p).mpr hpm) wkh4⟩, fun x hx => up x (inc x hx), fun g hg => ?_, ?_, by rw [List.length_append, List.length_singleton]; omega⟩
          · rcases List.mem_append.mp hx with z | z
            · exact (wk4 x z).imp id (up x)
            · exact .inr (by rw [List.mem_singleton.mp z]; exact pin)
          · rw [glook_put] at e'
            by_cases c : p' = p
            · rw [if_pos c] at e'
              rw [← Option.some.inj e', c]
              exact ⟨(ed p).mpr hpm, wkh4.imp id (up h)⟩
            · rw [if_neg c] at e'
              exact ⟨(by4 p' h' e').1, (by4 p' h' e').2.imp id (up h')⟩
          · rw [ke2] at hg
            have hg' : g = p ∨ (g = k ∨ g ∈ gkeys hs') := by
              rcases hg with z | z
              · exact .inr (.inl z)
              · rcases List.mem_append.mp z with z | z
                · exact .inr (.inr z)
                · exact .inl (List.mem_singleton.mp z)
            rcases hg' with z | z
            · exact .inl (by rw [z]; exact List.mem_append_right _ (List.mem_singleton_self _))
            · rcases cl4 g z with y | y | ⟨y, y2⟩
              · exact .inl (List.mem_append_left _ y)
              · exact .inr (.inl fun p' hp' => up p' (y p' hp'))
              · refine .inr (.inr ⟨y, fun p' hp' => ?_⟩)
                rw [tk] at hp'
                exact (List.mem_append.mp hp').elim (fun w => up p' (y2 p' w)) fun w => by rw [List.mem_singleton.mp w]; exact pin
          · rw [List.length_append, List.length_singleton, lg]
            omega
      · rintro σ H4 ⟨x5', hs', wl, rfl, hd4, hl4, s4, kp4, nd4, rc4, wk4, by4, inc, cl4, me4, lw4⟩
        rw [List.length_map, List.take_length] at cl4
        refine ⟨_, ?_, _, _, hs', wl, rfl, hd4, hl4, s4, nd4, rc4, wk4, by4, fun g hg => ?_, rfl, by omega⟩
        · rw [List.length_append, List.length_singleton]
          omega
        · rcases cl4 g hg with z | z | ⟨z, z2⟩
          · exact .inl z
          · exact .inr z
          · exact .inr fun p hp => z2 p ((ed p).mp (by rw [← z]; exact hp))
    · rintro σ H1 Q1 Q2 hq ⟨x, e, z, t, q⟩
      exact ⟨x, e, z, t, hq _ _ q⟩
end


section
variable {P : Program} {w : World} {K : PySem.W.Frag} {mg : Str → Option Value} {base : Heap} {C CO : Addr}
theorem Bld.nd {es : List (Str × Str)} {k : Str} {hs : GL Str} (h : Bld es k hs) : (gkeys hs).Nodup := by
  induction h with
  | nil => exact List.nodup_nil
  | snoc h n _ _ ih =>
    rw [← gput_new n]
    exact gput_nodup ih
/-- whoever holds p stands before p -/
theorem Bld.rank {es : List (Str × Str)} {k : Str} {hs : GL Str} (h : Bld es k hs) : ∃ f : Str → Nat, (∀ p, f p < hs.length ∨ p ∉ gkeys hs) ∧ ∀ p q, glook hs p = some q → (q, p) ∈ es ∧ (q = k ∨ (q ∈ gkeys hs ∧ f q < f p)) := by
  induction h with
  | nil => exact ⟨fun _ => 0, fun p => .inr (fun z => nomatch z), fun _ _ z => (by cases z)⟩
  | @snoc hs p h b n e o ih =>
    obtain ⟨f, f1, f2⟩ := ih
    refine ⟨fun x => if x = p then hs.length else f x, fun x => ?_, fun x q hq => ?_⟩
    · by_cases c : x = p
      · exact .inl (by show (if x = p then hs.length else f x) < _; rw [if_pos c, List.length_append, List.length_singleton]; omega)
      · show (if x = p then hs.length else f x) < _ ∨ _
        rw [if_neg c, List.length_append, List.length_singleton]
        rcases f1 x with z | z
        · exact .inl (by omega)
        · refine .inr fun y => ?_
          unfold gkeys at y
          rw [List.map_append] at y
          rcases List.mem_append.mp y with y | y
          · exact z y
          · exact c (List.mem_singleton.mp y)
    · rw [← gput_new n, glook_put] at hq
      have up : ∀ y, y ∈ gkeys hs → y ∈ gkeys (hs ++ [(p, h)]) := fun y hy => by
        unfold gkeys
        rw [List.map_append]
        exact List.mem_append_left _ hy
      have nep : ∀ y, y ∈ gkeys hs → y ≠ p := fun y hy z => n (by rw [← z]; exact hy)
      by_cases c : x = p
      · rw [if_pos c] at hq
        rw [← Option.some.inj hq, c]
        refine ⟨e, o.imp id fun z => ⟨up _ z, ?_⟩⟩
        show (if h = p then hs.length else f h) < (if p = p then hs.length else f p)
        rw [if_pos rfl, if_neg (nep h z)]
        exact (f1 h).elim id fun y => absurd z y
      · rw [if_neg c] at hq
        refine ⟨(f2 x q hq).1, (f2 x q hq).2.imp id fun z => ⟨up _ z.1, ?_⟩⟩
        show (if q = p then hs.length else f q) < (if x = p then hs.length else f x)
        rw [if_neg c, if_neg (nep q z.1)]
        exact z.2
/-- each kind of the ring holds the next one, and the last one the first -/
def RingOf (rows : List Row) (xs : List Str) : Prop := xs ≠ [] ∧ ∀ (i : Nat) (x y : Str), xs[i]? = some y → xs[if i = 0 then xs.length - 1 else i - 1]? = some x → Edge rows x y
/-- no kind lies within itself -/
def NoRing (rows : List Row) : Prop := ∀ es : List (Str × Str), (∀ k p, (k, p) ∈ es ↔ Edge rows k p) → ∀ k, ¬ Rch es k k
open Classical in
theorem NoRing.ranked {rows : List Row} {es : List (Str × Str)} (he : ∀ k p, (k, p) ∈ es ↔ Edge rows k p) (h : ∀ k, ¬ Rch es k k) : Ranked rows := by
  refine ⟨fun p => ((es.map (·.1)).filter fun q => decide (Rch es q p)).length, fun k p e => ?_⟩
  have ekp : (k, p) ∈ es := (he k p).mpr e
  have hk : k ∈ es.map (·.1) := List.mem_map.mpr ⟨_, ekp, rfl⟩
  generalize es.map (·.1) = L at hk
  have mono : ∀ L : List Str, (L.filter fun q => decide (Rch es q k)).length ≤ (L.filter fun q => decide (Rch es q p)).length := fun L => by
    induction L with
    | nil => exact Nat.le_refl _
    | cons a L ih =>
      by_cases c : Rch es a k
      · rw [List.filter_cons_of_pos (by simpa using c), List.filter_cons_of_pos (by simpa using Rch.step c ekp)]
        exact Nat.succ_le_succ ih
      · rw [List.filter_cons_of_neg (by simpa using c)]
        by_cases c2 : Rch es a p
        · rw [List.filter_cons_of_pos (by simpa using c2)]
          exact Nat.le_succ_of_le ih
        · rw [List.filter_cons_of_neg (by simpa using c2)]
          exact ih
  show (L.filter fun q => decide (Rch es q k)).length < (L.filter fun q => decide (Rch es q p)).length
  induction L with
  | nil => cases hk
  | cons a L ih =>
    by_cases c : a = k
    · rw [c, List.filter_cons_of_neg (by simpa using h k), List.filter_cons_of_pos (by simpa using Rch.one ekp)]
      exact Nat.lt_succ_of_le (mono L)
    · have ih2 := ih ((List.mem_cons.mp hk).elim (fun z => absurd z.symm c) id)
      by_cases c1 : Rch es a k
      · rw [List.filter_cons_of_pos (by simpa using c1), List.filter_cons_of_pos (by simpa using Rch.step c1 ekp)]
        exact Nat.succ_lt_succ ih2
      · rw [List.filter_cons_of_neg (by simpa using c1)]
        by_cases c2 : Rch es a p
        · rw [List.filter_cons_of_pos (by simpa using c2)]
          exact Nat.lt_succ_of_lt ih2
        · rw [List.filter_cons_of_neg (by simpa using c2)]
          exact ih2
end


section
variable {P : Program} {w : World} {K : PySem.W.Frag} {mg : Str → Option Value} {base : Heap} {C CO : Addr}
abbrev sOwnRing : Stmt := top 21
theorem scOwnRing : FnScope ["parts", "kind", "holding", "ring"] ["parts"] (defScope sOwnRing) := ⟨rfl, rfl, rfl, by decide +kernel, rfl, by decide +kernel, by decide +kernel⟩
theorem at_last (L : List Str) (x : Str) (h : L.length ≤ 3000) : atI ((L ++ [x]).map V.str) (-1) = some (.str x) := by
  have e : ((L ++ [x]).map V.str).length = L.length + 1 := by simp
  have e2 : ixN (L.length + 1) (-1) = some L.length := by
    unfold ixN
    rw [if_neg (by decide)]
    rw [if_pos (by omega)]
    congr 1
    omega
  unfold atI
  rw [e, e2]
  simp
/-- each one of L holds the one before it, and the first one k -/
def Chn (es : List (Str × Str)) (k : Str) (L : List Str) : Prop := ∀ (i : Nat) (a b : Str), (k :: L)[i]? = some a → L[i]? = some b → (b, a) ∈ es
theorem Chn.one {es : List (Str × Str)} {k q : Str} (h : (q, k) ∈ es) : Chn es k [q] := fun i a b e1 e2 => by
  cases i with
  | zero =>
    rw [← Option.some.inj e1, ← Option.some.inj e2]
    exact h
  | succ i => cases e2
theorem Chn.more {es : List (Str × Str)} {k x y : Str} {L : List Str} (h : Chn es k (L ++ [x])) (e : (y, x) ∈ es) : Chn es k (L ++ [x] ++ [y]) := fun i a b e1 e2 => by
  have l2 : (L ++ [x]).length = L.length + 1 := by simp
  by_cases c : i < L.length + 1
  · refine h i a b ?_ ?_
    · cases i with
      | zero => exact e1
      | succ i =>
        have e1' : ((L ++ [x]) ++ [y])[i]? = some a := e1
        rw [List.getElem?_append_left (by omega)] at e1'
        exact e1'
    · rw [List.getElem?_append_left (by omega)] at e2
      exact e2
  · have hi : i = L.length + 1 := by
      obtain ⟨li, _⟩ := List.getElem?_eq_some_iff.mp e2
      rw [List.length_append, l2, List.length_singleton] at li
      omega
    subst hi
    have e1' : ((L ++ [x]) ++ [y])[L.length]? = some a := e1
    rw [List.getElem?_append_left (by omega), List.getElem?_append_right (Nat.le_refl _), Nat.sub_self] at e1'
    rw [List.getElem?_append_right (by omega), l2, Nat.sub_self] at e2
    rw [← Option.some.inj e1', ← Option.some.inj e2]
    exact e
theorem Chn.ring {es : List (Str × Str)} {k : Str} {L : List Str} {rows : List Row} (hed : ∀ k p, (k, p) ∈ es ↔ Edge rows k p) (h : Chn es k (L ++ [k])) : RingOf rows (L ++ [k]).reverse := by
  refine ⟨by simp, fun i x y e1 e2 => (hed x y).mp ?_⟩
  have l2 : (L ++ [k]).length = L.length + 1 := by simp
  obtain ⟨li, _⟩ := List.getElem?_eq_some_iff.mp e1
  rw [List.length_reverse, l2] at li
  rw [List.getElem?_reverse (by omega), l2] at e1
  by_cases c : i = 0
  · rw [if_pos c, List.length_reverse, List.getElem?_reverse (by omega), l2] at e2
    have e2' : (L ++ [k])[0]? = some x := by
      rw [← e2]
      congr 1
      omega
    have e1' : y = k := by
      have e3 : L.length + 1 - 1 - i = L.length := by omega
      rw [e3, List.getElem?_append_right (Nat.le_refl _), Nat.sub_self] at e1
      exact (Option.some.inj e1).symm
    rw [e1']
    exact h 0 k x rfl e2'
  · rw [if_neg c, List.getElem?_reverse (by omega), l2] at e2
    have e3 : L.length + 1 - 1 - (i - 1) = (L.length + 1 - 1 - i) + 1 := by omega
    rw [e3] at e2
    exact h _ y x (show (k :: (L ++ [k]))[(L.length + 1 - 1 - i) + 1]? = some y from e1) e2
/-- _ring: none where no kind lies within itself, else one -/
def spRing : Sp := fun vs H Q _ => ∃ (dp : Addr) (rows : List Row), vs = [.ref dp] ∧ PartsA H dp rows ∧ ((∀ H', Ranked rows → Same H H' → Q .non H') ∧ ∀ t xs H', RingOf rows xs → xs.length ≤ 3001 → H' t = some (.tup (xs.map V.str)) → Same H H' → Q (.ref t) H')
theorem ok_ring {f : Addr} {fd : FuncData} (F : Fun K "_ring" "_ring" sOwnRing f fd) (T : Txt K mg) (Ch : Cal P w K mg base CX0 1 "_holding" ["parts", "kind"] spHolding) : FnOk P w K mg base CX0 2 f fd ["parts"] spRing := by
  refine F.ok scOwnRing (fun vs H Q E h => ?_) (fun cdv A outer s H vs Q E hr h => ?_)
  · obtain ⟨dp, rows, rfl, _⟩ := h
    rfl
  · obtain ⟨dp, rows, rfl, ⟨m, ms, es, hd, pts, edk, hed, les, les2, _⟩, qn, qr⟩ := h
    have hu := hu_of hr
    refine ⟨_, (pss_cons (ps_lock (ps_for PassesOwn.never rfl (pi_keys (pv 0)) (pg_name (i := 1) scOwnRing.nd rfl (Or.inl rfl))
  (pss_cons (ps_set (i := 2) scOwnRing.nd rfl (Or.inl rfl) (pe_cal Ch (hr.mono (by decide)) pass0 (pa_cons (pv 0) (pa_cons (pv 1) pa_nil))))
  (pss_one (ps_if (pt_cmp (pc_din hu (pv 1) (pv 2)))
  (pss_cons (ps_set (i := 3) scOwnRing.nd rfl (Or.inl rfl) (pe_lst (pa_cons (pe_dget hu (pv 2) (pv 1) (fun _ _ => rfl)) pa_nil)))
  (pss_cons (ps_while PassesOwn.never (pt_cmpR op_ne (pe_ix ix_list (pv 3) (pe_un un_neg pe_int) (fun _ _ => rfl)) (pv 1) (nomark _))
  (pss_one (ps_expr (pe_bm PySem.F.plainAttrs_list PySem.F.slot_list_append PySem.F.type_list_append mt_append (pv 3) (pa_cons (pe_dget hu (pv 2) (pe_ix ix_list (pv 3) (pe_un un_neg pe_int) (fun _ _ => rfl)) (fun _ _ => rfl)) pa_nil)))))
  (pss_one (ps_ret (pe_callTy c_tupL (by rfl) T.tuple (by decide +kernel) (pa_cons (pe_revL (pv 3)) pa_nil))))))
  pss_nil)))))
  (pss_one (ps_ret pe_non))), ?_⟩
    walk_at "in"
    walk_at "ps"
    refine r_lock hd trivial fun od => ?_
    walk_at "go"
    refine ⟨dp, od, rfl, .inl ⟨_, upd_same, ?_⟩⟩
    have keep : ∀ {H'}, Same (upd H dp (.frz od (.dK (genc V.ref m)))) H' → Same H (upd H' dp (.dK (genc V.ref m))) := fun {H'} s c o e => by
      by_cases z : c = dp
      · rw [z] at e ⊢
        rw [hd] at e
        rw [← Option.some.inj e]
        exact upd_same
      · rw [upd_ne z]
        exact s _ _ (by rw [upd_ne z]; exact e)
    have pts0 : PtsH (upd H dp (.frz od (.dK (genc V.ref m)))) m ms := ⟨pts.ke, pts.nd, fun k a ps h1 h2 => by
      have e := pts.at_ k a ps h1 h2
      rw [upd_ne fun z => by rw [z, hd] at e; cases e]
      exact e, pts.inj⟩
    have lm := pts.len
    have lms := edk.lm
    refine for_it walk_keys (fun i σ H' => ∃ (x1 x2 x3 : Option V), σ = [some (.ref dp), x1, x2, x3] ∧ (∀ j q, j < i → m[j]? = some q → ¬ Rch es q.1 q.1) ∧ Same (upd H dp (.frz od (.dK (genc V.ref m)))) H') ?_ ?_ ?_ ?_
    · exact ⟨_, _, _, rfl, fun _ _ z => absurd z (Nat.not_lt_zero _), fun _ _ e => e⟩
    · rintro i σ H1 _ ⟨_, _, _, _, _, s1⟩
      exact s1 _ _ upd_same
    · rintro i x _ _ H1 hi ⟨x1, x2, x3, rfl, nr, s1⟩ ⟨rfl, k0, v0, hk, hx⟩
      have hk2 : (m[i]?).map (fun p : Str × Addr => ((Sum.inr p.1 : Key), V.ref p.2)) = some (k0, v0) := by rw [← List.getElem?_map]; exact hk
      obtain ⟨p, hp, e⟩ := Option.map_eq_some_iff.mp hk2
      obtain ⟨rfl, _⟩ := Prod.mk.inj e
      obtain rfl : x = .str p.1 := hx
      walk_at "go"
      refine ⟨dp, p.1, m, ms, es, rfl, .inr ⟨od, s1 _ _ upd_same⟩, pts0.same s1, edk, les, fun d hs H2 hdn2 hh ho s2 => ?_⟩
      walk_at "go"
      refine r_din (r_var rfl (r_var rfl ⟨d, _, rfl, DGet_genc (.inl hh) p.1, ?_⟩))
      cases e : glook hs p.1 with
      | none =>
        refine ⟨_, rfl, iteF ?_⟩
        walk_at "go"
        refine ⟨_, _, _, rfl, fun j q hj hq => ?_, fun c o e => s2 _ _ (s1 _ _ e)⟩
        rcases Nat.lt_succ_iff_lt_or_eq.mp hj with z | z
        · exact nr j q z hq
        · rw [z, hp] at hq
          rw [← Option.some.inj hq]
          exact fun r => glook_none.mp e ((ho.ks p.1).mpr r)
      | some q =>
        refine ⟨_, rfl, iteT ?_⟩
        obtain ⟨rf, rf1, rf2⟩ := ho.bl.rank
        have lhs := glook_len (m := hs) ho.bl.nd (ks := es.map (·.2)) fun p' hp' => by
          cases (ho.ks p').mp hp' with
          | one h => exact List.mem_map.mpr ⟨_, h, rfl⟩
          | step _ h => exact List.mem_map.mpr ⟨_, h, rfl⟩
        rw [List.length_map] at lhs
        walk_at "go"
        refine ⟨d, .str q, rfl, by have := DGet_genc (.inl hh) p.1; rw [e] at this; exact this, ?_⟩
        walk_at "go"
        rename_i rl hrl
        have s3 : Same (upd H dp (.frz od (.dK (genc V.ref m)))) (upd H2 rl (.lst [V.str q])) := fun c o e => upd_at (s2 _ _ (s1 _ _ e)) (ne_of_none (s2 _ _ (s1 _ _ e)) hrl)
        have hd3 : upd H2 rl (.lst [V.str q]) d = some (.dK (genc V.str hs)) := upd_at hh (ne_of_none hh hrl)
        have hl3 : upd H2 rl (.lst [V.str q]) rl = some (.lst [V.str q]) := upd_same
        have nf : (upd H dp (.frz od (.dK (genc V.ref m)))) rl = none := by
          cases c : (upd H dp (.frz od (.dK (genc V.ref m)))) rl with
          | none => rfl
          | some o => have := s2 _ _ (s1 _ _ c); rw [hrl] at this; cases this
        generalize upd H2 rl (.lst [V.str q]) = H3 at s3 hd3 hl3 ⊢
        have q0 := rf2 p.1 q e
        refine while_m (m0 := if q = p.1 then 0 else 1 + rf q) (fun n σ H' => ∃ (L : List Str) (x : Str), σ = [some (.ref dp), some (.str p.1), some (.ref d), some (.ref rl)] ∧ H' rl = some (.lst ((L ++ [x]).map V.str)) ∧ H' d = some (.dK (genc V.str hs)) ∧ Same (upd H dp (.frz od (.dK (genc V.ref m)))) H' ∧ (x = p.1 ∨ x ∈ gkeys hs) ∧ Chn es p.1 (L ++ [x]) ∧ n = (if x = p.1 then 0 else 1 + rf x) ∧ L.length + n ≤ 3000) ?_ ?_ ?_
        · refine ⟨[], q, rfl, hl3, hd3, s3, q0.2.imp id And.left, .one q0.1, rfl, ?_⟩
          show 0 + _ ≤ 3000
          split
          · omega
          · rename_i c
            have := (rf1 q).elim id fun z => absurd ((q0.2.resolve_left c).1) z
            omega
        · rintro n σ H4 ⟨L, x, rfl, hl4, hd4, s4, xk, ch, rfl, ln⟩
          walk_at "go"
          have lL : L.length ≤ 3000 := by omega
          refine r_ixL (SqL.of hl4) (at_last L x lL) ?_
          walk_at "go"
          by_cases c : x = p.1
          · refine ite_ndF (by rw [c]) ?_
            walk_at "go"
            refine r_var rfl ⟨rl, _, rfl, SqL.of hl4, fun rv hrv => ?_⟩
            have s5 : Same (upd H dp (.frz od (.dK (genc V.ref m)))) (upd H4 rv (.lst ((L ++ [x]).map V.str).reverse)) := fun c o e => upd_at (s4 _ _ e) (ne_of_none (s4 _ _ e) hrv)
            have hv5 : upd H4 rv (.lst ((L ++ [x]).map V.str).reverse) rv = some (.lst ((L ++ [x]).map V.str).reverse) := upd_same
            generalize upd H4 rv (.lst ((L ++ [x]).map V.str).reverse) = H5 at s5 hv5 ⊢
            refine r_nil ⟨rv, _, rfl, SqL.of hv5, fun t ht => ?_⟩
            have s6 : Same (upd H dp (.frz od (.dK (genc V.ref m)))) (upd H5 t (.tup ((L ++ [x]).map V.str).reverse)) := fun c o e => upd_at (s5 _ _ e) (ne_of_none (s5 _ _ e) ht)
            have ndt : t ≠ dp := fun z => by rw [z, s5 _ _ upd_same] at ht; cases ht
            refine ⟨s6 _ _ upd_same, ?_⟩
            refine qr t (L ++ [x]).reverse _ (by rw [c]; exact Chn.ring hed (by rw [c] at ch; exact ch)) (by rw [List.length_reverse, List.length_append, List.length_singleton]; omega) ?_ (keep s6)
            rw [upd_ne ndt, List.map_reverse]
            exact upd_same
          · refine ite_ndT (fun z => c (by injection z)) ?_
            obtain ⟨h, hh2⟩ := gkeys_some.mp (xk.resolve_left c)
            have rh := rf2 x h hh2
            rw [if_neg c] at ln ⊢
            walk_at "go"
            refine r_ixL (SqL.of hl4) (at_last L x lL) ?_
            refine ⟨d, .str h, rfl, by have := DGet_genc (.inl hd4) x; rw [hh2] at this; exact this, ?_⟩
            walk_at "go"
            have lw : (if h = p.1 then 0 else 1 + rf h) < 1 + rf x := by
              split
              · omega
              · rename_i c2
                have := (rh.2.resolve_left c2).2
                omega
            have ndl : d ≠ rl := fun z => by rw [z, hl4] at hd4; cases hd4
            refine ⟨_, lw, L ++ [x], h, rfl, ?_, upd_at hd4 ndl, fun c o e => upd_at (s4 _ _ e) (ne_of_none e nf), rh.2.imp id And.left, Chn.more ch rh.1, rfl, ?_⟩
            · rw [List.map_append (l₁ := L ++ [x])]
              exact upd_same
            · rw [List.length_append, List.length_singleton]
              omega
        · rintro σ H Q Q' hq ⟨v, e1, i, ei, p', xs, i2, z, a1, a2, a3, a4, y, e2, sc, k, ek, q⟩
          exact ⟨v, e1, i, ei, p', xs, i2, z, a1, a2, a3, a4, y, e2, sc, k, ek, hq _ _ q⟩
    · rintro σ H1 ⟨x1, x2, x3, rfl, nr, s1⟩
      refine ⟨s1 _ _ upd_same, ?_⟩
      walk_at "go"
      refine qn _ (NoRing.ranked hed fun k r => ?_) (keep s1)
      have ek : k ∈ gkeys m := by
        have h1 : ∃ p, (k, p) ∈ es := by
          have : ∀ q, Rch es k q → ∃ p, (k, p) ∈ es := fun q r => by
            induction r with
            | one h => exact ⟨_, h⟩
            | step _ _ ih => exact ih
          exact this _ r
        obtain ⟨p, hp⟩ := h1
        obtain ⟨ps, e1, _⟩ := (edk.ed k p).mpr hp
        rw [pts.ke]
        exact gkeys_some.mpr ⟨ps, e1⟩
      obtain ⟨q, hq, rfl⟩ := List.mem_map.mp ek
      obtain ⟨j, hj⟩ := List.mem_iff_getElem?.mp hq
      obtain ⟨lj, _⟩ := List.getElem?_eq_some_iff.mp hj
      exact nr j q (by rw [genc_len]; exact lj) hj r
end


section
variable {P : Program} {w : World} {K : PySem.W.Frag} {mg : Str → Option Value} {base : Heap} {C CO : Addr}
theorem RingOf.no {rows : List Row} {xs : List Str} (h : RingOf rows xs) : ¬ Ranked rows := by
  rintro ⟨f, hf⟩
  obtain ⟨ne, h⟩ := h
  have up : ∀ i x y, xs[0]? = some x → xs[i]? = some y → f x + i ≤ f y := fun i => by
    induction i with
    | zero => intro x y e1 e2; rw [e1] at e2; rw [Option.some.inj e2]; exact Nat.le_refl _
    | succ i ih =>
      intro x y e1 e2
      obtain ⟨li, _⟩ := List.getElem?_eq_some_iff.mp e2
      have e3 : xs[i]? = some xs[i] := List.getElem?_eq_getElem (by omega)
      have h1 := ih x _ e1 e3
      have h2 := hf _ _ (h (i + 1) xs[i] y e2 (by rw [if_neg (Nat.succ_ne_zero i)]; exact e3))
      omega
  obtain ⟨x, r, rfl⟩ := List.exists_cons_of_ne_nil ne
  have l1 : (x :: r).length - 1 < (x :: r).length := by rw [List.length_cons]; omega
  have e3 : (x :: r)[(x :: r).length - 1]? = some (x :: r)[(x :: r).length - 1] := List.getElem?_eq_getElem l1
  have h1 := up _ x _ rfl e3
  have h2 := hf _ _ (h 0 _ x rfl (by rw [if_pos rfl]; exact e3))
  omega
def spRing0 : Sp := fun vs H Q _ => ∃ (dp : Addr) (rows : List Row), vs = [.ref dp] ∧ PartsA H dp rows ∧ Ranked rows ∧ ∀ H', Same H H' → Q .non H'
theorem ok_ring0 {f : Addr} {fd : FuncData} (F : Fun K "_ring" "_ring" sOwnRing f fd) (T : Txt K mg) (Ch : Cal P w K mg base CX0 1 "_holding" ["parts", "kind"] spHolding) : FnOk P w K mg base CX0 2 f fd ["parts"] spRing0 :=
  (ok_ring F T Ch).imp fun vs H Q E ⟨dp, rows, e, h, rk, q⟩ => ⟨dp, rows, e, h, fun H' _ s => q H' s, fun _ _ _ r _ _ _ => absurd rk r.no⟩
end


def KL (H H' : Hp) : Prop := ∀ c o, H c = some o → (∀ xs, o ≠ .lst xs) → H' c = some o
theorem KL.of {H H' : Hp} (s : Same H H') : KL H H' := fun c o e _ => s _ _ e
theorem KL.trans {H H1 H2 : Hp} (h : KL H H1) (h' : KL H1 H2) : KL H H2 := fun c o e n => h' _ _ (h _ _ e n) n
theorem KL.kp {H H' : Hp} {d : Addr} {xs : List V} (k : Kp d H H') (hd : H d = some (.lst xs)) : KL H H' := fun c o e n => k _ _ e fun z => by rw [z, hd] at e; cases e; exact n _ rfl
theorem KL.bx {H H' : Hp} {a : Addr} {b : Nat} (k : Kp a H H') (h : Bx H a b) : KL H H' := by
  obtain ⟨_, _, _, ha, _⟩ := h
  exact KL.kp k ha
theorem PrA.kl {H H' : Hp} {v : V} {p : Str × Int} (h : PrA H v p) (k : KL H H') : PrA H' v p := by
  obtain ⟨t, e, ht⟩ := h
  exact ⟨t, e, k _ _ ht fun _ z => by cases z⟩
theorem OpA.kl {CO : Addr} {H H' : Hp} {o : Addr} {k : Str} {qs : AL} (h : OpA CO H o k qs) (K : KL H H') : OpA CO H' o k qs := by
  obtain ⟨dx, t, ts, h1, h2, h3⟩ := h
  exact ⟨dx, t, ts, K _ _ h1 (fun _ z => by cases z), K _ _ h2 (fun _ z => by cases z), Paired.mapP h3 fun _ _ z => z.kl K⟩
theorem opInit_end {C CO : Addr} {H : Hp} {k : Str} {y : Addr} {m : AL} {R : Addr → Hp → Prop} {E : XK} (Ly : LoA C H y m) (ne : m ≠ []) (g0 : get m k = 0) (q : ∀ (o : Addr) (qs : AL) (H' : Hp), H o = none → OpA CO H' o k qs → Cn m qs → Same H H' → R o H') :
    ∀ x dx, H x = none → H dx = none → dx ≠ x → spOpInit C CO [.ref x, .str k, .ref y] (upd (upd H dx (.own x)) x (.ins CO dx [])) (fun v H2 => v = .non ∧ R x H2) E := by
  intro x dx hx hd n
  have s : Same H (upd (upd H dx (.own x)) x (.ins CO dx [])) := fun c o e => by rw [upd_ne (ne_of_none e hx), upd_ne (ne_of_none e hd)]; exact e
  exact ⟨x, dx, y, k, m, rfl, upd_same, Ly.same s, ne, g0, fun qs H' o c k => ⟨rfl, q x qs H' hx o c fun c o e => k c o (s _ _ e) (ne_of_none e hx)⟩⟩
theorem r_sfld {K : PySem.W.Frag} {to tv : TE} {f : Str} {D : Ends} {σ : L2.St} {H : Hp} (h : tv σ H fun y H1 => to σ H1 fun x H2 => ∃ p C dx fs, x = .ref p ∧ H2 p = some (.ins C dx fs) ∧ Cls K C ∧ NoAttr K C f ∧ fs.length < 1000 ∧ D.nx σ (upd H2 p (.ins C dx (putF f y fs)))) : sFld K to tv f D σ H := h
section
variable {P : Program} {w : World} {K : PySem.W.Frag} {mg : Str → Option Value} {base : Heap} {C CO CB : Addr}
/-- the class Book -/
structure TxB (K : PySem.W.Frag) (CB : Addr) : Prop where
  oc : OCls K CB
  no : NoAttr K CB "_openings"
  np : NoAttr K CB "_parts"
/-- a Book of just these rows -/
def BookA (CO CB : Addr) (H : Hp) (b : Addr) (rows : List Row) : Prop := ∃ (dx lo dp : Addr) (os : List V), H b = some (.ins CB dx [("_openings", .ref lo), ("_parts", .ref dp)]) ∧ H lo = some (.lst os) ∧ Paired (OpV CO H) os rows ∧ PartsA H dp rows ∧ (∀ r ∈ rows, RowOk r) ∧ RAsc rows ∧ rows.length ≤ 63 ∧ Ranked rows
theorem BookA.same {H H' : Hp} {b : Addr} {rows : List Row} (h : BookA CO CB H b rows) (s : Same H H') : BookA CO CB H' b rows := by
  obtain ⟨dx, lo, dp, os, h1, h2, h3, h4, h5⟩ := h
  exact ⟨dx, lo, dp, os, s _ _ h1, s _ _ h2, OpV.all h3 s, h4.same s, h5⟩
/-- a row as a tuple of its kind and its pairs -/
def RwV (H : Hp) (v : V) (r : Row) : Prop := PlA H v r.1 r.2
theorem RwV.same {H H' : Hp} {v : V} {r : Row} (h : RwV H v r) (s : Same H H') : RwV H' v r := PlA.same h s
theorem RwV.all {H H' : Hp} {vs : List V} {rs : List Row} (h : Paired (RwV H) vs rs) (s : Same H H') : Paired (RwV H') vs rs := Paired.mapP h fun _ _ z => z.same s
theorem RwV.kl {H H' : Hp} {v : V} {r : Row} (h : RwV H v r) (K : KL H H') : RwV H' v r := by
  obtain ⟨t, u, ts, e, h1, h2, h3⟩ := h
  exact ⟨t, u, ts, e, K _ _ h1 (fun _ z => by cases z), K _ _ h2 (fun _ z => by cases z), Paired.mapP h3 fun _ _ z => z.kl K⟩
theorem OpV.kl {H H' : Hp} {v : V} {r : Row} (h : OpV CO H v r) (K : KL H H') : OpV CO H' v r := let ⟨o, e, h⟩ := h; ⟨o, e, h.kl K⟩
/-- a list just grown -/
theorem KL.lst {H : Hp} {D : Addr} {xs ys : List V} (h : H D = some (.lst xs)) : KL H (upd H D (.lst ys)) := fun c o e n => upd_at e fun z => by rw [z, h] at e; cases e; exact n _ rfl
theorem RwV.key {H : Hp} {t : Addr} {r : Row} (h : RwV H (.ref t) r) : KeyD K H (t, rowD r) := ⟨PlA.dp h, plD0_row r, depth_row r⟩
theorem rows_keys {H : Hp} : ∀ {ts : List V} {rows : List Row}, Paired (RwV H) ts rows → ∃ ks : DL, ts = ks.map (fun p => V.ref p.1) ∧ ks.map (·.2) = rows.map rowD ∧ ∀ p ∈ ks, ∃ r ∈ rows, p.2 = rowD r ∧ RwV H (.ref p.1) r
  | _, _, .nil => ⟨[], rfl, rfl, fun _ h => (nomatch h)⟩
  | _, r :: rs, .cons h t => by
    obtain ⟨ks, e1, e2, e3⟩ := rows_keys t
    obtain ⟨a, u, ts, e, h1, h2, h3⟩ := id h
    subst e
    refine ⟨(a, rowD r) :: ks, by rw [List.map_cons, ← e1], by rw [List.map_cons, List.map_cons, e2], fun p hp => ?_⟩
    rcases List.mem_cons.mp hp with z | z
    · rw [z]
      exact ⟨r, List.mem_cons_self, rfl, h⟩
    · obtain ⟨q, hq, z2⟩ := e3 p z
      exact ⟨q, List.mem_cons_of_mem _ hq, z2⟩
theorem keys_rows {H : Hp} {rows : List Row} : ∀ {L : DL}, (∀ p ∈ L, ∃ r ∈ rows, p.2 = rowD r ∧ RwV H (.ref p.1) r) → ∃ rs : List Row, Paired (RwV H) (L.map fun p => V.ref p.1) rs ∧ L.map (·.2) = rs.map rowD ∧ ∀ r ∈ rs, r ∈ rows
  | [], _ => ⟨[], .nil, rfl, fun _ h => (nomatch h)⟩
  | p :: L, h => by
    obtain ⟨rs, e1, e2, e3⟩ := keys_rows (L := L) fun q hq => h q (List.mem_cons_of_mem _ hq)
    obtain ⟨r, hr, e, hw⟩ := h p List.mem_cons_self
    refine ⟨r :: rs, .cons hw e1, by rw [List.map_cons, List.map_cons, e2, e], fun q hq => ?_⟩
    rcases List.mem_cons.mp hq with z | z
    · rw [z]; exact hr
    · exact e3 q z
theorem asc_rows {L : DL} {rs : List Row} (e : L.map (·.2) = rs.map rowD) (nd : (L.map (·.2)).Nodup) (as : Asc L) : RAsc rs := by
  have h1 : (L.map (·.2)).Pairwise fun x y => PySem.W.dataLt y x = false := List.pairwise_map.mpr as
  rw [e] at h1 nd
  have h2 := List.pairwise_map.mp h1
  have h3 := List.pairwise_map.mp nd
  exact List.Pairwise.imp (fun {a b} z => data_lt (alike_row a b) (plD0_row a) (plD0_row b) z.2 z.1) (List.Pairwise.and h2 h3)
/-- what is no instance stays -/
def KI (H H' : Hp) : Prop := ∀ c o, H c = some o → (∀ C dx fs, o ≠ .ins C dx fs) → H' c = some o
theorem KI.kp {p C dx : Addr} {fs : List (Str × V)} {H H' : Hp} (k : Kp p H H') (h : H p = some (.ins C dx fs)) : KI H H' := fun c o e n => k _ _ e fun z => by rw [z, h] at e; cases e; exact n _ _ _ rfl
theorem PartsA.ki {H H' : Hp} {d : Addr} {rows : List Row} (h : PartsA H d rows) (k : KI H H') : PartsA H' d rows := by
  obtain ⟨m, ms, es, h1, h2, h3, h4, h5⟩ := h
  exact ⟨m, ms, es, k _ _ h1 (fun _ _ _ z => by cases z), ⟨h2.ke, h2.nd, fun j a ps e1 e2 => k _ _ (h2.at_ j a ps e1 e2) (fun _ _ _ z => by cases z), h2.inj⟩, h3, h4, h5⟩
theorem OpV.kp1 {p C dx : Addr} {fs : List (Str × V)} {H H' : Hp} (k : Kp p H H') (h : H p = some (.ins C dx fs)) (lf : fs.length ≠ 2) {v : V} {r : Row} (o : OpV CO H v r) : OpV CO H' v r := by
  obtain ⟨o, e, dxo, t, ts, a1, a2, a3⟩ := o
  have n1 : o ≠ p := fun z => by
    rw [z, h] at a1
    injection a1 with a1
    injection a1 with _ _ a1
    exact lf (by rw [a1]; rfl)
  have n2 : t ≠ p := fun z => by rw [z, h] at a2; cases a2
  exact ⟨o, e, dxo, t, ts, k _ _ a1 n1, k _ _ a2 n2, PrA.kpdAll a3 k h (fun _ z => by cases z)⟩
theorem Edge.mem {a b : List Row} (h : ∀ r, r ∈ a ↔ r ∈ b) (k p : Str) : Edge a k p ↔ Edge b k p := ⟨fun ⟨r, hr, z⟩ => ⟨r, (h r).mp hr, z⟩, fun ⟨r, hr, z⟩ => ⟨r, (h r).mpr hr, z⟩⟩
theorem Ranked.mem {a b : List Row} (h : ∀ r, r ∈ a ↔ r ∈ b) (rk : Ranked b) : Ranked a := let ⟨f, hf⟩ := rk; ⟨f, fun k p e => hf k p ((Edge.mem h k p).mp e)⟩
abbrev sBookInit : Stmt := inClass (top 25) 0
theorem scBookInit : FnScope ["self", "openings", "places", "ring", "kind", "pairs", "opening"] ["self", "openings"] (defScope sBookInit) := ⟨rfl, rfl, rfl, by decide +kernel, rfl, by decide +kernel, by decide +kernel⟩
def spBookInit (K : PySem.W.Frag) (CO CB : Addr) : Sp := fun vs H Q _ => ∃ (p dx l : Addr) (os : List V) (rows : List Row), vs = [.ref p, .ref l] ∧ H p = some (.ins CB dx []) ∧ SqA K H l os ∧ Paired (OpV CO H) os rows ∧ rows.length ≤ 63 ∧ (∀ r ∈ rows, RowOk r) ∧ Ranked rows ∧
  ∀ (rs : List Row) (H' : Hp), BookA CO CB H' p rs → (∀ r, r ∈ rs ↔ r ∈ rows) → (∀ c o, H c = some o → c ≠ p → H' c = some o) → (∀ (s : Addr) (xs ys : List V), H s = some (.lst xs) → (∀ x ∈ xs, ∃ o, x = .ref o) → BookA CO CB (upd H' s (.lst ys)) p rs) → Q .non H'
theorem ok_bookInit {f t0 : Addr} {fd : FuncData} (F : FunD K "__init__" "Book.__init__" (defArgs sBookInit) (defBody sBookInit) (defScope sBookInit) [.ref t0] [] f fd) (T : Txt K mg) (L : TxL K C) (O : TxO K CO) (B : TxB K CB) (Opl : OCal P w K mg base CX0 1 CO "place" ["self"] (spOpPlace CO)) (OmT : OMk P w K mg base CX0 2 C "Lot" ["self", "pairs"] (spLotInitT K C)) (Oop : OMk P w K mg base CX0 3 CO "Opening" ["self", "kind", "contents"] (spOpInit C CO))
    (Cpo : Cal P w K mg base CX0 6 "_parts_of" ["openings"] (spPartsOf CO)) (Cri : Cal P w K mg base CX0 2 "_ring" ["parts"] spRing0) : FnOk P w K mg base CX0 7 f fd ["self", "openings"] (spBookInit K CO CB) := by
  refine F.ok scBookInit (fun vs H Q E h => ?_) (fun cdv A outer s H vs Q E hr h => ?_)
  · obtain ⟨p, dx, l, os, rows, rfl, _⟩ := h
    rfl
  · obtain ⟨p, dx, l, os, rows, rfl, hp, hl, hos, lr, ok, rk, q⟩ := h
    refine ⟨_, (pss_cons (ps_set (i := 2) scBookInit.nd rfl (Or.inl rfl) (pe_callB (cr_sortedN rfl (hu64 hr)) (by rfl) T.sorted (by decide +kernel) (pa_cons (pe_callTy (cr_setN rfl (hu64 hr)) (by rfl) T.set (by decide +kernel) (pa_cons (pe_lc (own := [("opening", 6)]) (g := gName 6) (tt := tYes) rfl scBookInit.nd (pi_seq (pv 1)) (blkOk_by (N := ["self", "openings", "places", "ring", "kind", "pairs", "opening"]) (sc := defScope sBookInit) (by decide +kernel)) (fun _ _ _ _ _ => (pg_name (i := 6) scBookInit.nd rfl (Or.inl rfl))) (fun _ _ _ _ _ => pts_nil) (fun _ _ _ _ _ => (pe_methO0 Opl O.oc.cl (hr.mono (by decide)) pass0 (pv 6)))) pa_nil)) pa_nil)))
  (pss_cons (ps_fld (pv 0) (pe_lc (own := [("kind", 4), ("pairs", 5)]) (g := gTup _ 2 (gCons (gName 4) (gCons (gName 5) gNil))) (tt := tYes) rfl scBookInit.nd (pi_list (pv 2)) (blkOk_by (N := ["self", "openings", "places", "ring", "kind", "pairs", "opening"]) (sc := defScope sBookInit) (by decide +kernel)) (fun _ _ _ _ _ => (pg_tup rfl (pgs_cons (pg_name (i := 4) scBookInit.nd rfl (Or.inl rfl)) (pgs_cons (pg_name (i := 5) scBookInit.nd rfl (Or.inl rfl)) pgs_nil)))) (fun _ _ _ _ _ => pts_nil) (fun _ _ _ _ _ => (pe_makeO Oop (hr.mono (by decide)) pass0 (pa_cons (pv 4) (pa_cons (pe_makeO OmT (hr.mono (by decide)) pass0 (pa_cons (pv 5) pa_nil)) pa_nil))))) rfl)
  (pss_cons (ps_fld (pv 0) (pe_cal Cpo hr pass0 (pa_cons (pe_fld (pv 0) rfl) pa_nil)) rfl)
  (pss_cons (ps_set (i := 3) scBookInit.nd rfl (Or.inl rfl) (pe_cal Cri (hr.mono (by decide)) pass0 (pa_cons (pe_fld (pv 0) rfl) pa_nil)))
  (pss_one (ps_if (pt_cmpR o_notN (pv 3) pe_non (nomark _))
  pss_never
  pss_nil)))))), ?_⟩
    walk_at "in"
    walk_at "go"
    unfold iSeq
    refine r_var rfl ⟨l, os, rfl, ?_⟩
    refine r_seqA hl fun J G wk hG => ?_
    intro D hD
    have lo := Paired.len hos
    refine lc_it wk (fun i H' => ∃ ts, H' D = some (.lst ts) ∧ Paired (RwV H') ts (rows.take i) ∧ Same H H') ?_ ?_ ?_ ?_
    · exact ⟨[], upd_same, .nil, fun c o e => upd_at e (ne_of_none e hD)⟩
    · rintro i H' _ ⟨_, _, _, s1⟩
      exact hG H' fun o e => s1 _ _ e
    · rintro i x _ H1 hi ⟨ts, hD1, hts, s1⟩ ⟨rfl, hx⟩
      obtain ⟨r, hr1, o, rfl, hop⟩ := Paired.at hos hx
      obtain ⟨dx1, t1, ts1, e1, _, _⟩ := id (hop.same s1)
      walk_at "go"
      refine ⟨rfl, r_yes (iteT ?_)⟩
      refine r_meth0 (r_var rfl ⟨o, dx1, _, rfl, e1, look2, o, r.1, r.2, rfl, hop.same s1, fun t H2 ht hpl s2 => ?_⟩)
      have lts := Paired.len hts
      rw [List.length_take] at lts
      refine ⟨ts, s2 _ _ hD1, szl (by omega), ts ++ [.ref t], upd_same, ?_, fun c o e => upd_at (s2 _ _ (s1 _ _ e)) (ne_of_none e hD)⟩
      have hD2 := s2 _ _ hD1
      have k2 : KL H2 (upd H2 D (.lst (ts ++ [V.ref t]))) := KL.lst hD2
      rw [List.take_add_one, hr1]
      exact Paired.app (Paired.mapP (RwV.all hts s2) fun _ _ z => z.kl k2) (.cons (RwV.kl hpl k2) .nil)
    · rintro H1 ⟨ts, hD1, hts, s1⟩
      rw [lo, List.take_length] at hts
      obtain ⟨ks, ets, ek, hks⟩ := rows_keys hts
      have lks : ks.length = rows.length := by
        have := congrArg List.length ek
        rwa [List.length_map, List.length_map] at this
      refine r_nil ⟨D, ks, rfl, SqL.of (by rw [← ets]; exact hD1), fun p hp => ?_, by omega, fun a L' ha sub all nd => ?_⟩
      · obtain ⟨r, hr2, e, hw⟩ := hks p hp
        obtain ⟨p1, p2⟩ := p
        subst e
        exact hw.key
      have hL : ∀ p ∈ L', ∃ r ∈ rows, p.2 = rowD r ∧ RwV H1 (.ref p.1) r := fun p hp => hks p (sub p hp)
      have lL : L'.length ≤ 63 := by
        haveI : DecidableEq PyData := fun a b => Classical.propDecidable (a = b)
        have h1 := nodup_sub_len (m := ks.map (·.2)) nd fun d hd => by
          obtain ⟨p, hp, rfl⟩ := List.mem_map.mp hd
          exact List.mem_map.mpr ⟨p, sub p hp, rfl⟩
        rw [List.length_map, List.length_map] at h1
        omega
      have sa : Same H1 (upd H1 a (SetNO w a L')) := fun c o e => upd_at e (ne_of_none e ha)
      have ha1 : upd H1 a (SetNO w a L') a = some (SetNO w a L') := upd_same
      refine r_nil ?_
      show rSortedN K w [V.ref a] (upd H1 a (SetNO w a L')) _
      generalize upd H1 a (SetNO w a L') = Hs at sa ha1 ⊢
      refine ⟨a, L', rfl, ha1, fun p hp => ?_, by omega, ?_, ?_, fun L2 pl pm asc hpl => ?_⟩
      · obtain ⟨r, hr2, e, hw⟩ := hL p hp
        obtain ⟨p1, p2⟩ := p
        subst e
        exact (hw.same sa).key
      · intro d hd d' hd'
        obtain ⟨p, hp, rfl⟩ := List.mem_map.mp hd
        obtain ⟨p', hp', rfl⟩ := List.mem_map.mp hd'
        obtain ⟨r, _, e, _⟩ := hL p hp
        obtain ⟨r', _, e', _⟩ := hL p' hp'
        rw [e, e']
        exact alike_row r r'
      · refine .inl fun d hd => ?_
        obtain ⟨p, hp, rfl⟩ := List.mem_map.mp hd
        obtain ⟨r, _, e, _⟩ := hL p hp
        exact ⟨_, _, e⟩
      have hL2 : ∀ p ∈ L2, ∃ r ∈ rows, p.2 = rowD r ∧ RwV Hs (.ref p.1) r := fun p hp => by
        obtain ⟨r, h1, h2, h3⟩ := hL p (pm.mem_iff.mp hp)
        exact ⟨r, h1, h2, h3.same sa⟩
      obtain ⟨rs, hrs, ers, srs⟩ := keys_rows hL2
      have nd2 : (L2.map (·.2)).Nodup := (pm.map _).nodup_iff.mpr nd
      have ras := asc_rows ers nd2 asc
      have mem : ∀ r, r ∈ rs ↔ r ∈ rows := fun r => by
        refine ⟨srs r, fun hr2 => ?_⟩
        have h1 : rowD r ∈ ks.map (·.2) := by rw [ek]; exact List.mem_map.mpr ⟨r, hr2, rfl⟩
        obtain ⟨p, hp, e⟩ := List.mem_map.mp h1
        have h2 : p.2 ∈ L2.map (·.2) := ((pm.map _).mem_iff).mpr (all p hp)
        rw [e, ers] at h2
        obtain ⟨r', h3, e'⟩ := List.mem_map.mp h2
        rw [← rowD_inj e']
        exact h3
      have lrs : rs.length ≤ 63 := by
        have := congrArg List.length ers
        rw [List.length_map, List.length_map, pm.length_eq] at this
        omega
      have s2 : Same H (upd Hs pl (.lst (L2.map fun r => V.ref r.1))) := fun c o e => upd_at (sa _ _ (s1 _ _ e)) (ne_of_none (sa _ _ (s1 _ _ e)) hpl)
      have h2 : upd Hs pl (.lst (L2.map fun r => V.ref r.1)) pl = some (.lst (L2.map fun r => V.ref r.1)) := upd_same
      have hrs2 := RwV.all hrs (H' := upd Hs pl (.lst (L2.map fun r => V.ref r.1))) fun c o e => upd_at e (ne_of_none e hpl)
      generalize upd Hs pl (.lst (L2.map fun r => V.ref r.1)) = H2 at s2 h2 hrs2 ⊢
      generalize L2.map (fun r => V.ref r.1) = ps at h2 hrs2
      clear hrs hpl sa hL hL2 hks
      walk_at "ps"
      walk_at "ps"
      refine r_sfld ?_
      walk_at "ps"
      walk_at "go"
      intro D2 hD2
      have lps := Paired.len hrs2
      have okr : ∀ r ∈ rs, RowOk r := fun r hr2 => ok r (srs r hr2)
      refine lc_it (walk_list (xs := ps)) (fun i H' => ∃ os2, H' D2 = some (.lst os2) ∧ Paired (OpV CO H') os2 (rs.take i) ∧ Same H2 H') ?_ ?_ ?_ ?_
      · exact ⟨[], upd_same, .nil, fun c o e => upd_at e (ne_of_none e hD2)⟩
      · rintro i H' _ ⟨_, _, _, s3⟩
        exact SqL.of (s3 _ _ h2)
      · rintro i x _ H3 hi ⟨os2, hD3, hos2, s3⟩ ⟨rfl, hx⟩
        obtain ⟨r, hr1, t, u, ts2, rfl, e1, e2, e3⟩ := Paired.at hrs2 hx
        have rok := okr r (List.mem_of_getElem? hr1)
        have e13 := s3 _ _ e1
        have e23 := s3 _ _ e2
        have e33 := PrA.all e3 s3
        walk_at "go"
        refine ⟨rfl, r_yes (iteT ?_)⟩
        refine r_mk ?_
        walk_at "go"
        refine r_mk ?_
        walk_at "go"
        have lts2 := Paired.len e33
        refine initT_end (SqT.of e23) e33 (by have := rok.ln; omega) (fun q hq => Int.le_of_lt (rok.pos q hq).1) fun y m' H4 hy Ly hg s4 => ?_
        have cn : My.Cn m' r.2 := cn_tot Ly.lo.nd rok.nd (fun p hp => (rok.pos p hp).1) (up_ple rok.up) hg
        refine r_nil ?_
        refine opInit_end Ly.lo (fun z => rok.ne (by have := cn.len Ly.lo.ps; rw [z] at this; exact List.eq_nil_of_length_eq_zero this)) ?_ fun o qs H5 ho hop cn2 s5 => ?_
        · have h1 : r.1 ∉ keys m' := fun z => rok.no ((keys_cn cn Ly.lo.ps r.1).mp z)
          unfold get
          rw [look_none.mpr h1]
          rfl
        obtain rfl : qs = r.2 := cn_unique Ly.lo.nd Ly.lo.nd cn2 cn fun _ _ => rfl
        have s35 : Same H3 H5 := fun c o e => s5 _ _ (s4 _ _ e)
        have hD5 := s35 _ _ hD3
        have los := Paired.len hos2
        rw [List.length_take] at los
        have k2 : KL H5 (upd H5 D2 (.lst (os2 ++ [V.ref o]))) := KL.lst hD5
        refine ⟨os2, hD5, szl (by omega), os2 ++ [.ref o], upd_same, ?_, fun c o e => upd_at (s35 _ _ (s3 _ _ e)) (ne_of_none e hD2)⟩
        rw [List.take_add_one, hr1]
        exact Paired.app (Paired.mapP (OpV.all hos2 s35) fun _ _ z => z.kl k2) (.cons (OpV.kl ⟨o, rfl, hop⟩ k2) .nil)
      · rintro H3 ⟨os2, hD3, hos2, s3⟩
        rw [lps, List.take_length] at hos2
        have s03 : Same H H3 := fun c o e => s3 _ _ (s2 _ _ e)
        have hp3 := s03 _ _ hp
        have npD : D2 ≠ p := fun z => by rw [z, hp3] at hD3; cases hD3
        refine r_var rfl ⟨p, CB, dx, [], rfl, hp3, B.oc.cl, B.no, by show 0 < 1000; decide, ?_⟩
        have hD4 : upd H3 p (.ins CB dx (putF "_openings" (V.ref D2) [])) D2 = some (.lst os2) := upd_at hD3 npD
        have hp4 : upd H3 p (.ins CB dx (putF "_openings" (V.ref D2) [])) p = some (.ins CB dx (putF "_openings" (V.ref D2) [])) := upd_same
        have kp4 : Kp p H3 (upd H3 p (.ins CB dx (putF "_openings" (V.ref D2) []))) := fun c o e n => upd_at e n
        have hos4 : Paired (OpV CO (upd H3 p (.ins CB dx (putF "_openings" (V.ref D2) [])))) os2 rs := Paired.mapP hos2 fun v r z => z.kp1 kp4 hp3 (by decide)
        generalize upd H3 p (.ins CB dx (putF "_openings" (V.ref D2) [])) = H4 at hD4 hp4 kp4 hos4 ⊢
        walk_at "ps"
        refine r_sfld ?_
        walk_at "go"
        refine r_var rfl ?_
        refine ⟨p, CB, dx, _, _, rfl, hp4, B.oc.cl, B.no, rfl, r_nil ⟨D2, os2, rs, rfl, hD4, hos4, lrs, okr, fun dp H5 hdp pts s5 => ?_⟩⟩
        have hp5 := s5 _ _ hp4
        refine r_var rfl ⟨p, CB, dx, _, rfl, hp5, B.oc.cl, B.np, by show 1 < 1000; decide, ?_⟩
        have kp6 : Kp p H5 (upd H5 p (.ins CB dx (putF "_parts" (V.ref dp) (putF "_openings" (V.ref D2) [])))) := fun c o e n => upd_at e n
        have hp6 : upd H5 p (.ins CB dx (putF "_parts" (V.ref dp) (putF "_openings" (V.ref D2) []))) p = some (.ins CB dx [("_openings", V.ref D2), ("_parts", V.ref dp)]) := upd_same
        generalize upd H5 p (.ins CB dx (putF "_parts" (V.ref dp) (putF "_openings" (V.ref D2) []))) = H6 at kp6 hp6 ⊢
        have pts6 := pts.ki (KI.kp kp6 hp5)
        have hos6 : Paired (OpV CO H6) os2 rs := Paired.mapP (OpV.all hos4 s5) fun v r z => z.kp1 kp6 hp5 (by show 1 ≠ 2; decide)
        have hD6 : H6 D2 = some (.lst os2) := kp6 _ _ (s5 _ _ hD4) npD
        walk_at "go"
        refine r_var rfl ⟨p, CB, dx, _, _, rfl, hp6, B.oc.cl, B.np, rfl, r_nil ⟨dp, rs, rfl, pts6, Ranked.mem mem rk, fun H7 s7 => ?_⟩⟩
        walk_at "go"
        refine q rs H7 ⟨dx, D2, dp, os2, s7 _ _ hp6, s7 _ _ hD6, OpV.all hos6 s7, pts6.same s7, okr, ras, lrs, Ranked.mem mem rk⟩ mem (fun c o e n => s7 _ _ (kp6 _ _ (s5 _ _ (kp4 _ _ (s03 _ _ e) n)) n)) fun s xs ys hs hx => ?_
        have nsp : s ≠ p := fun z => by rw [z, hp] at hs; cases hs
        have hs7 := s7 _ _ (kp6 _ _ (s5 _ _ (kp4 _ _ (s03 _ _ hs) nsp)) nsp)
        have nD2 : D2 ≠ s := fun z => by rw [z, s2 _ _ hs] at hD2; cases hD2
        obtain ⟨m, ms, es, g1, g2, g3, g4, g5⟩ := pts6.same s7
        have ndp : dp ≠ s := fun z => by rw [z, hs7] at g1; cases g1
        refine ⟨dx, D2, dp, os2, upd_at (s7 _ _ hp6) nsp.symm, upd_at (s7 _ _ hD6) nD2, Paired.mapP (OpV.all hos6 s7) fun _ _ z => z.kl (KL.lst hs7), ⟨m, ms, es, upd_at g1 ndp, ⟨g2.ke, g2.nd, fun k a ps e1 e2 => upd_at (g2.at_ k a ps e1 e2) fun z => ?_, g2.inj⟩, g3, g4, g5⟩, okr, ras, lrs, Ranked.mem mem rk⟩
        have e3 := g2.at_ k a ps e1 e2
        rw [z, hs7] at e3
        have e4 : xs = ps.map V.str := by injection e3 with e3; injection e3
        obtain ⟨k0, r0, e5⟩ := List.exists_cons_of_ne_nil (g3.ne k ps e2)
        obtain ⟨o, e6⟩ := hx (.str k0) (by rw [e4, e5]; exact List.mem_cons_self)
        cases e6
end


section
variable {P : Program} {w : World} {K : PySem.W.Frag} {mg : Str → Option Value} {base : Heap} {C CO CB : Addr}
theorem OpA.fun_ {H : Hp} {o : Addr} {k k' : Str} {qs qs' : AL} (h : OpA CO H o k qs) (h' : OpA CO H o k' qs') : k = k' ∧ qs = qs' := by
  obtain ⟨dx, t, ts, h1, h2, h3⟩ := h
  obtain ⟨dx', t', ts', h1', h2', h3'⟩ := h'
  rw [h1] at h1'
  injection h1' with h1'
  injection h1' with _ _ h1'
  injection h1' with a1 h1'
  injection h1' with a2 _
  injection a1 with _ a1
  injection a1 with a1
  injection a2 with _ a2
  injection a2 with a2
  rw [← a2, h2] at h2'
  injection h2' with h2'
  injection h2' with h2'
  subst h2'
  exact ⟨a1, prs_fun h3 h3'⟩
theorem RowOk.ks {r : Row} (h : RowOk r) : ∀ p ∈ r.2, KindS p.1 := fun p hp => (h.pos p hp).2
theorem r_self {σ : L2.St} {H : Hp} {Q : VK} {B : TxB K CB} {b dx lo dp : Addr} {i : Nat} (h : H b = some (.ins CB dx [("_openings", .ref lo), ("_parts", .ref dp)])) (q : Q (.ref lo) H) (e : σ[i]? = some (some (.ref b)) := by rfl) : tFld K (tVar i) "_openings" σ H Q :=
  ⟨_, e, b, CB, dx, _, _, rfl, h, B.oc.cl, B.no, rfl, q⟩
theorem os_push {H : Hp} {D : Addr} {os : List V} {rs : List Row} {v : V} {r : Row} (hD : H D = some (.lst os)) (h : Paired (OpV CO H) os rs) (hv : OpV CO H v r) : Paired (OpV CO (upd H D (.lst (os ++ [v])))) (os ++ [v]) (rs ++ [r]) :=
  Paired.app (Paired.mapP h fun _ _ z => z.kl (KL.lst hD)) (.cons (hv.kl (KL.lst hD)) .nil)
theorem bookInit_end {H : Hp} {l : Addr} {os : List V} {rows : List Row} {R : Addr → Hp → Prop} {E : XK} (hl : SqA K H l os) (hos : Paired (OpV CO H) os rows) (lr : rows.length ≤ 63) (ok : ∀ r ∈ rows, RowOk r) (rk : Ranked rows)
    (q : ∀ (b : Addr) (rs : List Row) (H' : Hp), H b = none → BookA CO CB H' b rs → (∀ r, r ∈ rs ↔ r ∈ rows) → Same H H' → R b H') :
    ∀ x dx, H x = none → H dx = none → dx ≠ x → spBookInit K CO CB [.ref x, .ref l] (upd (upd H dx (.own x)) x (.ins CB dx [])) (fun v H2 => v = .non ∧ R x H2) E := by
  intro x dx hx hdx n
  have s : Same H (upd (upd H dx (.own x)) x (.ins CB dx [])) := fun c o e => by rw [upd_ne (ne_of_none e hx), upd_ne (ne_of_none e hdx)]; exact e
  exact ⟨x, dx, l, os, rows, rfl, upd_same, hl.same s, OpV.all hos s, lr, ok, rk, fun rs H' b m k _ => ⟨rfl, q x rs H' hx b m fun c o e => k c o (s _ _ e) (ne_of_none e hx)⟩⟩
abbrev sBookContains : Stmt := inClass (top 25) 2
abbrev sBookLen : Stmt := inClass (top 25) 3
theorem scBookLen : FnScope ["self"] ["self"] (defScope sBookLen) := ⟨rfl, rfl, rfl, by decide +kernel, rfl, by decide +kernel, by decide +kernel⟩
def spBookLen (CO CB : Addr) : Sp := fun vs H Q _ => ∃ (b : Addr) (rows : List Row), vs = [.ref b] ∧ BookA CO CB H b rows ∧ Q (.int rows.length) H
theorem ok_bookLen {f : Addr} {fd : FuncData} (F : Fun K "__len__" "Book.__len__" sBookLen f fd) (T : Txt K mg) (B : TxB K CB) : FnOk P w K mg base CX0 1 f fd ["self"] (spBookLen CO CB) := by
  refine F.ok scBookLen (fun vs H Q E h => ?_) (fun cdv A outer s H vs Q E hr h => ?_)
  · obtain ⟨b, rows, rfl, _⟩ := h
    rfl
  · obtain ⟨b, rows, rfl, ⟨dx, lo, dp, os, h1, h2, h3, h4, ok, asc, ln, rk⟩, q⟩ := h
    refine ⟨_, (pss_one (ps_ret (pe_callB c_lenL (by rfl) T.len (by decide +kernel) (pa_cons (pe_fld (pv 0) rfl) pa_nil)))), ?_⟩
    walk_at "in"
    walk_at "go"
    refine r_self (B := B) h1 ?_
    walk_at "go"
    rw [Paired.len h3]
    exact q
abbrev sBookGetitem : Stmt := inClass (top 25) 5
abbrev sBookOpenings : Stmt := inClass (top 25) 7
end


section
variable {P : Program} {w : World} {K : PySem.W.Frag} {mg : Str → Option Value} {base : Heap} {C CO CB : Addr}
abbrev sBookKinds : Stmt := inClass (top 25) 9
/-- facts for isinstance of a Book -/
structure TxBI (K : PySem.W.Frag) (mg : Str → Option Value) (CB : Addr) : Prop where
  gB : mg "Book" = some (.ref CB)
  ha : PySem.W.findIn K (.ref CB) "__class__" = some (some (.builtin "object.__class__"))
  hn : PySem.W.specialIn K (.builtin "object.__class__") "__get__" = some (some (.builtin "getset_descriptor.__get__"))
  ht : PySem.W.takesIn K (.builtin "object.__class__") = some true
  hm : PySem.W.mroIn K CB (.type "object") = some true
  ki : PySem.W.kitOne K (.type "int") (.ref CB) = some false
abbrev sBookEq : Stmt := inClass (top 25) 4
theorem scBookEq : FnScope ["self", "other"] ["self", "other"] (defScope sBookEq) := ⟨rfl, rfl, rfl, by decide +kernel, rfl, by decide +kernel, by decide +kernel⟩
def spBookEq (CO CB : Addr) : Sp := fun vs H Q _ => ∃ (a b : Addr) (rows rows2 : List Row), vs = [.ref a, .ref b] ∧ BookA CO CB H a rows ∧ BookA CO CB H b rows2 ∧ ∀ H', Same H H' → Q (.bl (decide (rows = rows2))) H'
theorem ok_bookEq {f : Addr} {fd : FuncData} (F : Fun K "__eq__" "Book.__eq__" sBookEq f fd) (T : Txt K mg) (B : TxB K CB) (S : TxBI K mg CB) (Oq : OCal P w K mg base CX0 2 CO "__eq__" ["self", "other"] (spOpEq CO)) : FnOk P w K mg base CX0 4 f fd ["self", "other"] (spBookEq CO CB) := by
  refine F.ok scBookEq (fun vs H Q E h => ?_) (fun cdv A outer s H vs Q E hr h => ?_)
  · obtain ⟨a, b, rows, rows2, rfl, _⟩ := h
    rfl
  · obtain ⟨a, b, rows, rows2, rfl, ⟨dx, lo, dp, os, h1, h2, h3, h4, ok, asc, ln, rk⟩, ⟨dx2, lo2, dp2, os2, g1, g2, g3, g4, ok2, asc2, ln2, rk2⟩, q⟩ := h
    refine ⟨_, (pss_one (ps_ret (pe_and (pe_callB call_isi (by rfl) T.isinstance (by decide +kernel) (pa_cons (pv 1) (pa_cons (pe_glob (v := .ref CB) (by rfl) S.gB rfl) pa_nil))) (pe_one (pe_cmpR (op_eqL Oq hr pass0) (pe_fld (pv 0) rfl) (pe_fld (pv 1) rfl) (nomark _)))))), ?_⟩
    walk_at "in"
    walk_at "go"
    refine ⟨.ref b, .ref CB, .ref CB, .ref CB, true, rfl, .own CB, .base (.ins g1 B.oc.cl S.ha S.hn S.ht S.hm), by unfold PySem.W.kitOne; rw [if_pos (beq_self_eq_true _)], true, rfl, iteT ?_⟩
    walk_at "go"
    refine r_self (B := B) h1 ?_
    refine r_self (B := B) g1 ?_
    have l1 := Paired.len h3
    have l2 := Paired.len g3
    refine ⟨lo, lo2, os, os2, rfl, rfl, h2, g2, ?_⟩
    by_cases el : os.length = os2.length
    · refine .inr ⟨el, fun i H' => Same H H' ∧ ∀ j, j < i → rows[j]? = rows2[j]?, ⟨fun _ _ e => e, fun _ h => absurd h (Nat.not_lt_zero _)⟩, fun i H' z => ⟨z.1 _ _ h2, z.1 _ _ g2⟩, fun i H' ov pv ⟨s1, nr⟩ hi hj => ?_, fun H' ⟨s1, nr⟩ => ?_⟩
      · obtain ⟨r, hr1, o, rfl, ho⟩ := Paired.at h3 hi
        obtain ⟨r2, hr2, o2, rfl, ho2⟩ := Paired.at g3 hj
        have step : r = r2 → ∀ j, j < i + 1 → rows[j]? = rows2[j]? := fun e j hj => by
          by_cases c : j = i
          · rw [c, hr1, hr2, e]
          · exact nr j (by omega)
        refine ⟨o, o2, rfl, rfl, fun e => ⟨s1, step ?_⟩, fun ne => ?_⟩
        · subst e
          have e := ho.fun_ ho2
          exact Prod.ext e.1 e.2
        · have hos := ho.same s1
          have ho2s := ho2.same s1
          obtain ⟨dxb, tb, eb⟩ := hos.ins
          obtain ⟨dxo, to, eo⟩ := ho2s.ins
          have rok := ok r (List.mem_of_getElem? hr1)
          have rok2 := ok2 r2 (List.mem_of_getElem? hr2)
          refine ⟨dxb, dxo, _, _, eb, eo, o, o2, r.1, r2.1, r.2, r2.2, rfl, hos, ho2s, rok.kk, rok2.kk, rok.ks, rok2.ks, fun H2 s2 => ⟨_, rfl, ?_⟩⟩
          rw [show (plD r.1 r.2).eqv (plD r2.1 r2.2) = decide (r = r2) from eqv_row r r2]
          refine ite_d (fun e => ⟨fun c o e => s2 _ _ (s1 _ _ e), step e⟩) fun ne => ⟨s2, ?_⟩
          have := q H2 fun c o e => s2 _ _ (s1 _ _ e)
          rw [decide_eq_false fun e => ne (by rw [e, hr2] at hr1; exact (Option.some.inj hr1).symm)] at this
          exact this
      · have := q H' s1
        rw [decide_eq_true (List.ext_getElem? fun j => by
          by_cases c : j < os.length
          · exact nr j c
          · rw [List.getElem?_eq_none (by omega), List.getElem?_eq_none (by omega)])] at this
        exact this
    · have := q H fun _ _ e => e
      rw [decide_eq_false fun e => el (by rw [l1, l2, e])] at this
      exact .inl ⟨el, this⟩
end


section
variable {P : Program} {w : World} {K : PySem.W.Frag} {mg : Str → Option Value} {base : Heap} {C CO CB : Addr}
theorem ite_b {b : Bool} {A B : Prop} (h : b = true → A) (h' : b ≠ true → B) : if b = true then A else B := by
  by_cases c : b = true
  · rw [if_pos c]; exact h c
  · rw [if_neg c]; exact h' c
theorem Edge.sub {a b : List Row} (h : ∀ r ∈ a, r ∈ b) (k p : Str) (e : Edge a k p) : Edge b k p := let ⟨r, hr, z⟩ := e; ⟨r, h r hr, z⟩
theorem Ranked.sub {a b : List Row} (h : ∀ r ∈ a, r ∈ b) (rk : Ranked b) : Ranked a := let ⟨f, hf⟩ := rk; ⟨f, fun k p e => hf k p (Edge.sub h k p e)⟩
theorem BookA.ins {H : Hp} {b : Addr} {rows : List Row} (h : BookA CO CB H b rows) : ∃ dx fs, H b = some (.ins CB dx fs) := by
  obtain ⟨dx, lo, dp, os, h1, _⟩ := h
  exact ⟨dx, _, h1⟩
end


theorem oLe_total (d e : PyData) : oLe d e = true ∨ oLe e d = true := by
  unfold oLe
  cases h : PySem.W.dataLt e d with
  | false => exact .inl rfl
  | true => rw [data_asym h]; exact .inr rfl
theorem oLe_iff {d e : PyData} (h : PySem.W.alike d e = true) (pd' : plD0 d = true) (pe : plD0 e = true) : oLe d e = true ↔ d = e ∨ PySem.W.dataLt d e = true := by
  unfold oLe
  by_cases c : d = e
  · subst c
    rw [data_irrefl]
    exact ⟨fun _ => .inl rfl, fun _ => rfl⟩
  · constructor
    · intro z
      exact .inr (data_lt h pd' pe c (by simpa using z))
    · rintro (z | z)
      · exact absurd z c
      · rw [data_asym z]; rfl
theorem oLe_trans {a b c : PyData} (hab : PySem.W.alike a b = true) (hbc : PySem.W.alike b c = true) (hac : PySem.W.alike a c = true) (pa : plD0 a = true) (pb : plD0 b = true) (pc : plD0 c = true) (h : oLe a b = true) (h' : oLe b c = true) : oLe a c = true := by
  rw [oLe_iff hab pa pb] at h
  rw [oLe_iff hbc pb pc] at h'
  rw [oLe_iff hac pa pc]
  rcases h with rfl | h
  · exact h'
  · rcases h' with rfl | h'
    · exact .inr h
    · exact .inr (data_trans h h')
section
variable {P : Program} {w : World} {K : PySem.W.Frag} {mg : Str → Option Value} {base : Heap}
/-- a drawn order of a list's items -/
def spMixedL (K : PySem.W.Frag) : Sp := fun vs H Q _ => ∃ (a l : Addr) (b : Nat) (xs : List V), vs = [.ref a, .ref l] ∧ Bx H a (b + xs.length) ∧ SqL K H l xs ∧ xs.length ≤ 1000 ∧
  ∀ (p : Addr) (ys : List V) (H' : Hp), H p = none → ys.Perm xs → H' p = some (.lst ys) → Bx H' a b → Kp a H H' → Q (.ref p) H'
theorem ok_mixedL {f : Addr} {fd : FuncData} (F : Fun K "_law_mixed" "_law_mixed" sMixed f fd) (T : Txt K mg) (Ct : Cal P w K mg base CX0 1 "_law_take" ["_law_box_here", "_law_below"] spTake) : FnOk P w K mg base CX0 2 f fd ["_law_box_here", "_law_rows_so"] (spMixedL K) := by
  refine F.ok scMixed (fun vs H Q E h => ?_) (fun cdv A outer s H vs Q E hr h => ?_)
  · obtain ⟨a, l, b, xs, rfl, _⟩ := h
    rfl
  · obtain ⟨a, l, b, xs, rfl, hb, hl, h1, q⟩ := h
    refine ⟨_, (pss_cons (ps_par (i := 3) (j := 4) rfl scMixed.nd rfl rfl (by decide) rfl rfl (pa_cons (pe_callTy c_list (by rfl) T.list (by decide +kernel) (pa_cons (pv 1) pa_nil)) (pa_cons (pe_lst pa_nil) pa_nil)) (by rfl))
  (pss_cons (ps_for PassesOwn.never rfl (pi_range1 rfl T.range (pa_cons (pe_callB c_lenL (by rfl) T.len (by decide +kernel) (pa_cons (pv 1) pa_nil)) pa_nil)) (pg_name (i := 2) scMixed.nd rfl (Or.inl rfl))
  (pss_cons (ps_set (i := 5) scMixed.nd rfl (Or.inl rfl) (pe_cal Ct hr pass0 (pa_cons (pv 0) (pa_cons (pe_callB c_lenL (by rfl) T.len (by decide +kernel) (pa_cons (pv 3) pa_nil)) pa_nil))))
  (pss_cons (ps_expr (pe_bm PySem.F.plainAttrs_list PySem.F.slot_list_append PySem.F.type_list_append mt_append (pv 4) (pa_cons (pe_ix ix_list (pv 3) (pv 5) (fun _ _ => rfl)) pa_nil)))
  (pss_one (ps_set (i := 3) scMixed.nd rfl (Or.inl rfl) (pe_op op_cat (pe_slice sl_list (pv 3) po_none (po_some (pv 5))) (pe_slice sl_list (pv 3) (po_some (pe_op op_add (pv 5) pe_int)) po_none)))))))
  (pss_one (ps_ret (pv 4))))), ?_⟩
    walk_at "in"
    walk_at "go"
    rename_i r0 hr0 p hp
    have npa : p ≠ a := by walk_at "ne"
    have nra : r0 ≠ a := by walk_at "ne"
    have npr : p ≠ r0 := by walk_at "ne"
    have hp0 : H p = none := by rw [upd_ne npr] at hp; exact hp
    refine for_it (walk_range (n := xs.length)) (fun i σ H' => ∃ (r : Addr) (rs ys : List V) (x2 x5 : Option V), σ = [some (.ref a), some (.ref l), x2, some (.ref r), some (.ref p), x5] ∧ (ys ++ rs).Perm xs ∧ ys.length = i ∧ H' r = some (.lst rs) ∧ H' p = some (.lst ys) ∧ r ≠ a ∧ p ≠ r ∧ Bx H' a (b + rs.length) ∧ Kp a H H') ?_ (fun _ _ _ _ _ => trivial) ?_ ?_
    · exact ⟨r0, xs, [], none, none, rfl, List.Perm.refl _, rfl, by walk_at "hp", by walk_at "hp", nra, npr, by walk_at "bx", fun c o e n => by walk_at "hp"⟩
    · rintro i x σ H2 _ hi ⟨r, rs, ys, x2, x5, rfl, pm, ly, hr2, hp2, nra2, npr2, bx2, kp2⟩ ⟨rfl, rfl⟩
      have hl2 : rs.length + i = xs.length := by have := pm.length_eq; rw [List.length_append] at this; omega
      walk_at "go"
      refine ⟨a, b + (rs.length - 1), rs.length, rfl, by rw [show b + (rs.length - 1) + 1 = b + rs.length by omega]; exact bx2, by omega, by omega, fun d H1 d0 d1 bx1 kp1 => ?_⟩
      obtain ⟨j, rfl⟩ : ∃ j : Nat, d = j := ⟨d.toNat, by omega⟩
      have hj : j < rs.length := by omega
      walk_at "go"
      refine r_ixL (by walk_at "sq") (atI_nat (List.getElem?_eq_getElem hj)) ?_
      walk_at "go"
      rename_i q1 hq1 q2 hq2
      have e1 : cutV rs none (some (j : Int)) = rs.take j := cutV_to rs j
      have e2 : cutV rs (some ((j : Int) + 1)) none = rs.drop (j + 1) := by rw [show ((j : Int) + 1) = ((j + 1 : Nat) : Int) by omega]; exact cutV_from rs (j + 1)
      rw [e1] at hq2 ⊢
      rw [e2]
      refine r_cat (by walk_at "hp") (by walk_at "hp") (sz (by rw [List.length_take, List.length_drop]; omega)) fun q3 hq3 => ?_
      have n1 : p ≠ q3 := by walk_at "ne"
      have n2 : q3 ≠ a := by walk_at "ne"
      refine ⟨q3, rs.take j ++ rs.drop (j + 1), ys ++ [rs[j]], _, _, rfl, (perm_out ys rs hj).trans pm, by rw [List.length_append, ly]; rfl, by walk_at "hp", by walk_at "hp", n2, n1, ?_, fun c o e n => ?_⟩
      · rw [show b + (rs.take j ++ rs.drop (j + 1)).length = b + (rs.length - 1) by rw [List.length_append, List.length_take, List.length_drop]; omega]
        walk_at "bx"
      · have n3 : c ≠ p := ne_of_none e hp0
        walk_at "hp"
    · rintro σ H2 ⟨r, rs, ys, x2, x5, rfl, pm, ly, hr2, hp2, nra2, npr2, bx2, kp2⟩
      have hl2 : rs = [] := List.eq_nil_of_length_eq_zero (by have := pm.length_eq; rw [List.length_append] at this; omega)
      subst hl2
      rw [List.append_nil] at pm
      walk_at "go"
      exact q p ys H2 hp0 pm hp2 bx2 kp2
/-- what is put in order: plain data, all alike -/
structure OrdD (α : Type) (dat : α → PyData) : Prop where
  al : ∀ a b, PySem.W.alike (dat a) (dat b) = true
  pl : ∀ a, plD0 (dat a) = true
  nn : ∀ a, dat a ≠ .none
  dp : ∀ a, (dat a).depth ≤ 64
def dle {α : Type} (dat : α → PyData) (p q : V × α) : Bool := oLe (dat p.2) (dat q.2)
theorem OrdD.tot {α : Type} {dat : α → PyData} (_ : OrdD α dat) (p q : V × α) : dle dat p q = true ∨ dle dat q p = true := oLe_total _ _
theorem OrdD.tr {α : Type} {dat : α → PyData} (O : OrdD α dat) {p q r : V × α} (h : dle dat p q = true) (h' : dle dat q r = true) : dle dat p r = true := oLe_trans (O.al _ _) (O.al _ _) (O.al _ _) (O.pl _) (O.pl _) (O.pl _) h h'
def spRisingD (K : PySem.W.Frag) : Sp := fun vs H Q _ => ∃ (α : Type) (dat : α → PyData) (l : Addr) (ps : List (V × α)), vs = [.ref l] ∧ SqL K H l (ps.map (·.1)) ∧ OrdD α dat ∧ (∀ H', Same H H' → ∀ p ∈ ps, Dp K H' p.1 (dat p.2)) ∧ ps.length ≤ 1000 ∧
  ∀ (p : Addr) (qs : List (V × α)) (H' : Hp), H p = none → H' p = some (.lst (qs.map (·.1))) → qs.Perm ps → qs.Pairwise (fun a b => dle dat a b = true) → Same H H' → Q (.ref p) H'
theorem ok_risingD {f : Addr} {fd : FuncData} (F : Fun K "_law_rising" "_law_rising" sRising f fd) (T : Txt K mg) : FnOk P w K mg base CX0 1 f fd ["_law_rows_so"] (spRisingD K) := by
  refine F.ok scRising (fun vs H Q E h => ?_) (fun cdv A outer s H vs Q E hr h => ?_)
  · obtain ⟨α, dat, l, ps, rfl, _⟩ := h
    rfl
  · obtain ⟨α, dat, l, ps, rfl, hl, O, hps, h1000, q⟩ := h
    refine ⟨_, (pss_cons (ps_set (i := 1) scRising.nd rfl (Or.inl rfl) (pe_lst pa_nil))
  (pss_cons (ps_for PassesOwn.never rfl (pi_list (pv 0)) (pg_name (i := 2) scRising.nd rfl (Or.inr rfl))
  (Evl.pss_cut (ps_set (i := 3) scRising.nd rfl (Or.inl rfl) (pe_callB c_lenL (by rfl) T.len (by decide +kernel) (pa_cons (pe_lc (own := [("_law_own", 4)]) (g := gName 4) rfl scRising.nd (pi_list (pv 1)) (blkOk_by (N := ["_law_rows_so", "_law_done", "_law_row", "_law_at_so", "_law_own"]) (sc := defScope sRising) (by decide +kernel)) (fun _ _ _ _ _ => (pg_name (i := 4) scRising.nd rfl (Or.inl rfl))) (fun _ _ _ _ _ => (pts_one (pt_cmpR (opK (r := fun K => rOrd K oLe) K (op_leD (hu64 hr))) (pv 4) (pv 2) (nomark _)))) (fun _ _ _ _ _ => pe_int)) pa_nil)))
  (pss_one (ps_set (i := 1) scRising.nd rfl (Or.inl rfl) (pe_op op_cat (pe_op op_cat (pe_slice sl_list (pv 1) po_none (po_some (pv 3))) (pe_lst (pa_cons (pv 2) pa_nil))) (pe_slice sl_list (pv 1) (po_some (pv 3)) po_none))))))
  (pss_one (ps_ret (pv 1))))), ?_⟩
    walk_at "in"
    walk_at "go"
    rename_i d0 hd0
    have lps : (ps.map (·.1)).length = ps.length := List.length_map _
    refine for_it (walk_list (xs := ps.map (·.1))) (fun i σ H' => ∃ (d : Addr) (qs : List (V × α)) (x2 x3 : Option V), σ = [some (.ref l), some (.ref d), x2, x3, none] ∧ H d = none ∧ H' d = some (.lst (qs.map (·.1))) ∧ qs.Perm (ps.take i) ∧ qs.Pairwise (fun a b => dle dat a b = true) ∧ Same H H') ?_ ?_ ?_ ?_
    · exact ⟨d0, [], none, none, rfl, hd0, upd_same, List.Perm.refl _, List.Pairwise.nil, fun c o e => by walk_at "hp"⟩
    · rintro i σ H' _ ⟨_, _, _, _, _, _, _, _, _, s1⟩
      exact s1.seq hl
    · rintro i x σ _ H1 hi ⟨d, qs, x2, x3, rfl, hd, hd1, pm, pw, s1⟩ ⟨rfl, hx⟩
      rw [List.getElem?_map] at hx
      obtain ⟨p, hp, rfl⟩ := Option.map_eq_some_iff.mp hx
      have lds : qs.length ≤ 1000 := by have := pm.length_eq; rw [List.length_take] at this; omega
      have inq : ∀ r ∈ qs, r ∈ ps := fun r hr => List.mem_of_mem_take (pm.mem_iff.mp hr)
      walk_at "go"
      refine ⟨fun σ' H' => σ' = [some (.ref l), some (.ref d), some p.1, some (.int (cnt (dle dat) qs p : Nat)), none] ∧ H' d = some (.lst (qs.map (·.1))) ∧ Same H1 H', ?_, ?_⟩
      · walk_at "go"
        intro D hD
        refine lc_it (walk_list (xs := qs.map (·.1))) (fun j H' => H' D = some (.lst (List.replicate (((qs.take j).filter fun q => dle dat q p).length) (V.int 1))) ∧ H' d = some (.lst (qs.map (·.1))) ∧ Same H1 H') ?_ ?_ ?_ ?_
        · exact ⟨upd_same, by walk_at "hp", fun c o e => by walk_at "hp"⟩
        · rintro j H' _ ⟨_, h, _⟩
          exact SqL.of h
        · rintro j y _ H2 hj ⟨hD2, hd2, s2⟩ ⟨rfl, hy⟩
          rw [List.getElem?_map] at hy
          obtain ⟨r, hr2, rfl⟩ := Option.map_eq_some_iff.mp hy
          walk_at "go"
          refine ⟨rfl, ?_⟩
          walk_at "go"
          refine ⟨dat r.2, dat p.2, hps _ (s1.trans s2) r (inq r (List.mem_of_getElem? hr2)), hps _ (s1.trans s2) p (List.mem_of_getElem? hp), O.al _ _, O.nn _, O.dp _, ?_⟩
          have ef := filter_take (f := fun q => dle dat q p) hr2
          show ∃ k, V.bl (dle dat r p) = V.bl k ∧ _
          refine ⟨_, rfl, ?_⟩
          cases hc : dle dat r p with
          | true =>
            rw [hc, if_pos rfl] at ef
            refine iteT ?_
            walk_at "go"
            refine ⟨_, hD2, szl (by rw [List.length_replicate]; have := List.length_filter_le (fun q => dle dat q p) (qs.take j); rw [List.length_take] at this; omega), ?_, ?_, fun c o e => ?_⟩
            · rw [ef, List.replicate_succ']
              exact upd_same
            · have n1 : d ≠ D := ne_of_none hd1 hD
              walk_at "hp"
            · have n1 : c ≠ D := ne_of_none e hD
              walk_at "hp"
          | false =>
            rw [hc, if_neg (by decide)] at ef
            refine iteF ?_
            rw [ef]
            exact ⟨hD2, hd2, s2⟩
        · rintro H2 ⟨hD2, hd2, s2⟩
          walk_at "go"
          have e1 : qs.take (qs.map (·.1)).length = qs := by rw [List.length_map, List.take_length]
          rw [List.length_replicate, e1]
          exact ⟨rfl, hd2, s2⟩
      · rintro σ2 H2 ⟨rfl, hd2, s2⟩
        have hc := cnt_le (dle dat) qs p
        generalize hcn : cnt (dle dat) qs p = c at hc
        have lq : (qs.map (·.1)).length = qs.length := List.length_map _
        generalize hds : qs.map (·.1) = ds at hd1 hd2 lq
        walk_at "go"
        rename_i p1 hp1 p2 hp2
        have e1 : cutV ds none (some (c : Int)) = ds.take c := cutV_to ds c
        have e2 : cutV ds (some (c : Int)) none = ds.drop c := cutV_from ds c
        rw [e1] at hp2 ⊢
        refine r_cat (by walk_at "hp") (by walk_at "hp") (sz (by rw [List.length_take]; show _ + 1 ≤ _; omega)) fun p3 hp3 => ?_
        walk_at "go"
        rename_i p4 hp4
        rw [e2] at ⊢
        refine r_cat (by walk_at "hp") (by walk_at "hp") (sz (by rw [List.length_append, List.length_take, List.length_drop]; show _ + 1 + _ ≤ _; omega)) fun p5 hp5 => ?_
        have s3 : Same H1 (upd (upd (upd (upd (upd H2 p1 (.lst (ds.take c))) p2 (.lst [p.1])) p3 (.lst (ds.take c ++ [p.1]))) p4 (.lst (ds.drop c))) p5 (.lst (ds.take c ++ [p.1] ++ ds.drop c))) := fun c o e => by walk_at "hp"
        obtain ⟨i1, _, _⟩ := put_rising O.tot (fun {p q r} => O.tr) p pw
        rw [hcn] at i1
        refine ⟨p5, qs.take c ++ [p] ++ qs.drop c, _, _, rfl, ?_, ?_, ?_, i1, s1.trans s3⟩
        · exact s1.free (Same.free (fun c o e => by walk_at "hp") hp5)
        · rw [upd_same, ← hds, List.map_append, List.map_append, List.map_take, List.map_drop]
          rfl
        · refine (perm_in qs p c).trans ?_
          rw [List.take_add_one, hp]
          exact List.Perm.append_right _ pm
    · rintro σ H1 ⟨d, qs, x2, x3, rfl, hd, hd1, pm, pw, s1⟩
      walk_at "go"
      refine q d qs H1 hd hd1 ?_ pw s1
      rw [lps, List.take_length] at pm
      exact pm
end


/-! books drawn over names: the part of lists -/
def Sel (ns : List Str) (far : Int) (js : List Nat) (qs : AL) : Prop := qs.map (fun p => some p.1) = js.map (fun j => ns[j]?) ∧ ∀ p ∈ qs, 0 < p.2 ∧ p.2 ≤ far
theorem Sel.nil {ns : List Str} {far : Int} : Sel ns far [] [] := ⟨rfl, fun _ h => (nomatch h)⟩
theorem Sel.push {ns : List Str} {far : Int} {js : List Nat} {qs : AL} {j : Nat} {k : Str} {n : Int} (h : Sel ns far js qs) (e : ns[j]? = some k) (n0 : 0 < n) (n1 : n ≤ far) : Sel ns far (js ++ [j]) (qs ++ [(k, n)]) := by
  refine ⟨by rw [List.map_append, List.map_append, h.1, List.map_singleton, List.map_singleton, e], fun p hp => ?_⟩
  rcases List.mem_append.mp hp with z | z
  · exact h.2 p z
  · rw [List.mem_singleton.mp z]
    exact ⟨n0, n1⟩
theorem Sel.len {ns : List Str} {far : Int} {js : List Nat} {qs : AL} (h : Sel ns far js qs) : qs.length = js.length := by
  have := congrArg List.length h.1
  rwa [List.length_map, List.length_map] at this
def pick (g : Nat → Bool) (k hi : Nat) : List Nat := (List.range hi).filter fun j => decide (k < j) && g j
theorem pick_succ (g : Nat → Bool) (k hi : Nat) : pick g k (hi + 1) = pick g k hi ++ if (decide (k < hi) && g hi) = true then [hi] else [] := by
  unfold pick
  rw [List.range_succ, List.filter_append, List.filter_cons, List.filter_nil]
theorem pick_mem {g : Nat → Bool} {k hi j : Nat} : j ∈ pick g k hi ↔ j < hi ∧ k < j ∧ g j = true := by
  unfold pick
  rw [List.mem_filter, List.mem_range]
  simp
theorem pick_zero (g : Nat → Bool) (k : Nat) : pick g k (k + 1) = [] := List.eq_nil_iff_forall_not_mem.mpr fun j h => by
  have := pick_mem.mp h
  omega
theorem pick_len (g : Nat → Bool) (k : Nat) : ∀ hi, (pick g k hi).length ≤ hi - (k + 1)
  | 0 => by simp [pick]
  | hi + 1 => by
    have := pick_len g k hi
    rw [pick_succ, List.length_append]
    by_cases c : k < hi
    · have : (if (decide (k < hi) && g hi) = true then [hi] else []).length ≤ 1 := by split <;> simp
      omega
    · rw [decide_eq_false c, Bool.false_and, if_neg (by decide)]
      simp
      omega
theorem pick_pw (g : Nat → Bool) (k hi : Nat) : (pick g k hi).Pairwise (· < ·) := List.Pairwise.filter _ List.pairwise_lt_range
theorem ple_lt {p q : Str × Int} (h : ple p q = true) (n : p.1 ≠ q.1) : cds p.1 < cds q.1 := by
  unfold ple at h
  rw [if_neg n] at h
  refine Classical.byContradiction fun c => n (sle_anti h ?_)
  unfold sle
  rw [decide_eq_false c]
  rfl
structure RowS (ns : List Str) (far : Int) (k : Nat) (r : Row) : Prop where
  hd : ns[k]? = some r.1
  ne : r.2 ≠ []
  up : (keys r.2).Pairwise fun a b => cds a < cds b
  ps : ∀ p ∈ r.2, 0 < p.2 ∧ p.2 ≤ far ∧ ∃ j, k < j ∧ ns[j]? = some p.1
theorem keys_nodup {ns : List Str} {far : Int} {js : List Nat} {qs : AL} (nd : ns.Nodup) (s : Sel ns far js qs) (pw : js.Pairwise (· < ·)) : (keys qs).Nodup := by
  have h1 : (js.map fun j => ns[j]?).Pairwise (· ≠ ·) := by
    refine List.pairwise_map.mpr (List.Pairwise.imp_of_mem (fun {i j} hi hj lt e => ?_) pw)
    have v : ∃ k, ns[i]? = some k := by
      have : ns[i]? ∈ qs.map (fun p => some p.1) := by rw [s.1]; exact List.mem_map.mpr ⟨i, hi, rfl⟩
      obtain ⟨p, _, e⟩ := List.mem_map.mp this
      exact ⟨_, e.symm⟩
    obtain ⟨k, hk⟩ := v
    have := (List.getElem?_inj (List.getElem?_eq_some_iff.mp hk).1 nd).mp e
    omega
  rw [← s.1] at h1
  exact List.pairwise_map.mpr (List.Pairwise.imp (fun {a b} (z : some a.1 ≠ some b.1) (e : a.1 = b.1) => z (by rw [e])) (List.pairwise_map.mp h1))
theorem Sel.mem {ns : List Str} {far : Int} {js : List Nat} {qs : AL} (s : Sel ns far js qs) {p : Str × Int} (hp : p ∈ qs) : ∃ j ∈ js, ns[j]? = some p.1 := by
  have : some p.1 ∈ js.map (fun j => ns[j]?) := by rw [← s.1]; exact List.mem_map.mpr ⟨p, hp, rfl⟩
  obtain ⟨j, hj, e⟩ := List.mem_map.mp this
  exact ⟨j, hj, e⟩
theorem RowS.of {ns : List Str} {far : Int} {js : List Nat} {qs qs' : AL} {k : Nat} {own : Str} (nd : ns.Nodup) (hk : ns[k]? = some own) (s : Sel ns far js qs) (hj : ∀ j ∈ js, k < j) (pw : js.Pairwise (· < ·)) (ne : qs ≠ []) (pm : qs'.Perm qs) (so : qs'.Pairwise fun a b => ple a b = true) : RowS ns far k (own, qs') := by
  refine ⟨hk, fun z => ne ?_, ?_, fun p hp => ?_⟩
  · have z : qs' = [] := z
    rw [z] at pm
    exact pm.symm.eq_nil
  · have h1 : (keys qs').Nodup := (pm.map fun p : Str × Int => p.1).nodup_iff.mpr (keys_nodup nd s pw)
    have h2 := List.Pairwise.and so (List.pairwise_map.mp h1)
    exact List.pairwise_map.mpr (List.Pairwise.imp (fun {a b} z => ple_lt z.1 z.2) h2)
  · have hp := pm.mem_iff.mp hp
    obtain ⟨j, h1, h2⟩ := s.mem hp
    exact ⟨(s.2 p hp).1, (s.2 p hp).2, j, hj j h1, h2⟩
/-- a book drawn over the names ns, with numbers of at most far -/
structure Drawn (ns : List Str) (far : Int) (rows : List Row) : Prop where
  rw_ : ∀ r ∈ rows, ∃ k, RowS ns far k r
  nd : rows.Nodup
  es : esum rows ≤ 28
theorem esum_app (a b : List Row) : esum (a ++ b) = esum a + esum b := by
  unfold esum
  rw [List.map_append, List.sum_append]
theorem esum_one (r : Row) : esum [r] = r.2.length := by simp [esum]
theorem esum_mem {rows : List Row} {r : Row} (h : r ∈ rows) : r.2.length ≤ esum rows := by
  obtain ⟨a, b, rfl⟩ := List.append_of_mem h
  rw [esum_app, show r :: b = [r] ++ b from rfl, esum_app, esum_one]
  omega
theorem esum_len {rows : List Row} (h : ∀ r ∈ rows, r.2 ≠ []) : rows.length ≤ esum rows := by
  induction rows with
  | nil => exact Nat.zero_le _
  | cons r rs ih =>
    have h1 := ih fun x hx => h x (List.mem_cons_of_mem _ hx)
    have h2 : 0 < r.2.length := List.length_pos_iff.mpr (h r List.mem_cons_self)
    rw [show r :: rs = [r] ++ rs from rfl, esum_app, esum_one, List.length_append, List.length_singleton]
    omega
theorem Drawn.ln {ns : List Str} {far : Int} {rows : List Row} (h : Drawn ns far rows) : rows.length ≤ 28 := Nat.le_trans (esum_len fun r hr => let ⟨_, z⟩ := h.rw_ r hr; z.ne) h.es
theorem Drawn.ok {ns : List Str} {far : Int} {rows : List Row} (h : Drawn ns far rows) (nd : ns.Nodup) (ks : ∀ k ∈ ns, KindS k) : ∀ r ∈ rows, RowOk r := fun r hr => by
  obtain ⟨k, z⟩ := h.rw_ r hr
  refine ⟨ks _ (List.mem_of_getElem? z.hd), z.ne, fun p hp => ?_, z.up, fun hm => ?_, by have := esum_mem hr; have := h.es; omega⟩
  · obtain ⟨h1, _, j, _, h2⟩ := z.ps p hp
    exact ⟨h1, ks _ (List.mem_of_getElem? h2)⟩
  · obtain ⟨p, hp, e⟩ := List.mem_map.mp hm
    obtain ⟨_, _, j, h1, h2⟩ := z.ps p hp
    rw [e, ← z.hd] at h2
    have := (List.getElem?_inj (List.getElem?_eq_some_iff.mp (h2.trans z.hd)).1 nd).mp h2
    omega
theorem Drawn.rk {ns : List Str} {far : Int} {rows : List Row} (h : Drawn ns far rows) (nd : ns.Nodup) : Ranked rows := by
  refine ⟨fun k => ns.idxOf k, fun k p e => ?_⟩
  obtain ⟨r, hr, rfl, hp⟩ := e
  obtain ⟨i, z⟩ := h.rw_ r hr
  obtain ⟨q, hq, rfl⟩ := List.mem_map.mp hp
  obtain ⟨_, _, j, lt, hj⟩ := z.ps q hq
  have ix : ∀ {i : Nat} {k : Str}, ns[i]? = some k → ns.idxOf k = i := fun {i k} e => by
    obtain ⟨lt, e⟩ := List.getElem?_eq_some_iff.mp e
    rw [← e]
    exact nd.idxOf_getElem i lt
  show ns.idxOf r.1 < ns.idxOf q.1
  rw [ix z.hd, ix hj]
  exact lt
theorem esum_cons (r : Row) (rs : List Row) : esum (r :: rs) = r.2.length + esum rs := by
  unfold esum
  rw [List.map_cons, List.sum_cons]
theorem esum_sub {a b : List Row} (s : a.Sublist b) : esum a ≤ esum b := by
  induction s with
  | slnil => exact Nat.le_refl _
  | cons r s ih => rw [esum_cons]; omega
  | cons_cons r s ih => rw [esum_cons, esum_cons]; omega
theorem Drawn.sub {ns : List Str} {far : Int} {a b : List Row} (h : Drawn ns far b) (s : a.Sublist b) : Drawn ns far a := by
  refine ⟨fun r hr => h.rw_ r (s.subset hr), s.nodup h.nd, Nat.le_trans (esum_sub s) h.es⟩
def tri (n : Nat) : Nat → Nat
  | 0 => 0
  | k + 1 => tri n k + (n - (k + 1))
theorem tri8 : ∀ n, n ≤ 8 → ∀ k, k ≤ n → tri n k ≤ 28 := by decide
/-! the part of the heap -/
theorem rw_push {H : Hp} {D : Addr} {ts : List V} {rows : List Row} {v : V} {r : Row} (hD : H D = some (.lst ts)) (h : Paired (RwV H) ts rows) (hv : RwV H v r) : Paired (RwV (upd H D (.lst (ts ++ [v])))) (ts ++ [v]) (rows ++ [r]) :=
  Paired.app (Paired.mapP h fun _ _ z => RwV.kl z (KL.lst hD)) (.cons (RwV.kl hv (KL.lst hD)) .nil)
theorem pr_push {H : Hp} {D : Addr} {ts : List V} {qs : AL} {v : V} {r : Str × Int} (hD : H D = some (.lst ts)) (h : Paired (PrA H) ts qs) (hv : PrA H v r) : Paired (PrA (upd H D (.lst (ts ++ [v])))) (ts ++ [v]) (qs ++ [r]) :=
  Paired.app (Paired.mapP h fun _ _ z => z.kl (KL.lst hD)) (.cons (hv.kl (KL.lst hD)) .nil)
section
theorem r_neNil {K : PySem.W.Frag} {H : Hp} {Q : VK} {D p : Addr} {xs : List V} {qs : AL} (hD : H D = some (.lst xs)) (hx : Paired (PrA H) xs qs) (ks : ∀ p ∈ qs, KindS p.1) (hp : H p = some (.lst [])) (q : Q (.bl (!decide (qs = []))) H) : rNeD K (.ref D) (.ref p) H Q := by
  refine ⟨.list (qs.map pd1), .list [], .lst (SqL.of hD) (dp_all hx), .lst (SqL.of hp) .nil, ?_, by decide, ?_⟩
  · unfold SeqAt.shaped
    have h1 : (PyData.list (qs.map pd1)).canLay0 = true := can_pd ks
    rw [h1, Bool.true_and]
    refine decide_eq_true ?_
    show PyData.depthAll (qs.map pd1) + 1 ≤ 64
    have := depth_pd qs
    omega
  · have e : PyData.eqv (.list (qs.map pd1)) (.list []) = decide (qs = []) := by
      cases qs with
      | nil => rfl
      | cons a r => rfl
    rw [e]
    exact q
def Rng2 (R : It → Hp → Prop) (vs : List V) (H : Hp) : Prop := ∃ i j : Int, vs = [.int i, .int j] ∧ (-(2 ^ 62) ≤ i ∧ i < 2 ^ 62 ∧ -(2 ^ 62) ≤ j ∧ j < 2 ^ 62) ∧ R (Itr i (j - i).toNat) H
theorem r_iRng2 {ta : TA} {σ : L2.St} {H : Hp} {R : It → Hp → Prop} (h : ta σ H (Rng2 R)) : iRng2 ta σ H R := h
variable {P : Program} {w : World} {K : PySem.W.Frag} {mg : Str → Option Value} {base : Heap}
abbrev sTree : Stmt := top 36
theorem scTree : FnScope ["_law_box_here", "_law_names_here", "_law_far", "_law_up_so", "_law_rows_so", "_law_k", "_law_own", "_law_inner", "_law_j"] ["_law_box_here", "_law_names_here", "_law_far"] (defScope sTree) := ⟨rfl, rfl, rfl, by decide +kernel, rfl, by decide +kernel, by decide +kernel⟩
def spDraw (g : Nat → Nat) : Sp := fun vs H Q _ => ∃ (a l : Addr) (ns : List Str) (far : Int) (b : Nat), vs = [.ref a, .ref l, .int far] ∧ 0 < far ∧ far < 2 ^ 100 ∧ Bx H a (b + 100) ∧ H l = some (.lst (ns.map V.str)) ∧ l ≠ a ∧ ns.Nodup ∧ (∀ k ∈ ns, KindS k) ∧ ns.length ≤ g 8 ∧
  ∀ (p : Addr) (ts : List V) (rows : List Row) (H' : Hp), H p = none → H' p = some (.lst ts) → Paired (RwV H') ts rows → Drawn ns far rows → Bx H' a b → Kp a H H' → Q (.ref p) H'
theorem ok_tree {f : Addr} {fd : FuncData} (F : Fun K "_law_tree" "_law_tree" sTree f fd) (T : Txt K mg) (Ct : Cal P w K mg base CX0 1 "_law_take" ["_law_box_here", "_law_below"] spTake) (Cr : Cal P w K mg base CX0 1 "_law_rising" ["_law_rows_so"] (spRising K)) : FnOk P w K mg base CX0 2 f fd ["_law_box_here", "_law_names_here", "_law_far"] (spDraw id) := by
  refine F.ok scTree (fun vs H Q E h => ?_) (fun cdv A outer s H vs Q E hr h => ?_)
  · obtain ⟨a, l, ns, far, b, rfl, _⟩ := h
    rfl
  · obtain ⟨a, l, ns, far, b, rfl, f0, f1, hb, hl, nla, nd, ks, ln, q⟩ := h
    have ln : ns.length ≤ 8 := ln
    refine ⟨_, (pss_cons (ps_asg (pe_tup (pa_cons (pe_lc (own := [("_law_k", 5)]) (g := gName 5) (tt := tYes) rfl scTree.nd (pi_range1 rfl T.range (pa_cons (pe_callB c_lenL (by rfl) T.len (by decide +kernel) (pa_cons (pv 1) pa_nil)) pa_nil)) (blkOk_by (N := ["_law_box_here", "_law_names_here", "_law_far", "_law_up_so", "_law_rows_so", "_law_k", "_law_own", "_law_inner", "_law_j"]) (sc := defScope sTree) (by decide +kernel)) (fun _ _ _ _ _ => (pg_name (i := 5) scTree.nd rfl (Or.inl rfl))) (fun _ _ _ _ _ => pts_nil) (fun _ _ _ _ _ => (pe_op op_sub (pe_cal Ct (hr.mono (by decide)) pass0 (pa_cons (pv 0) (pa_cons (pe_op op_add (pv 5) pe_int) pa_nil))) pe_int))) (pa_cons (pe_lst pa_nil) pa_nil))) (pg_tup rfl (pgs_cons (pg_name (i := 3) scTree.nd rfl (Or.inr rfl)) (pgs_cons (pg_name (i := 4) scTree.nd rfl (Or.inl rfl)) pgs_nil))))
  (pss_cons (ps_for PassesOwn.never rfl (pi_enum (by rfl) T.enumerate (pa_cons (pv 1) pa_nil)) (pg_tup rfl (pgs_cons (pg_name (i := 5) scTree.nd rfl (Or.inr rfl)) (pgs_cons (pg_name (i := 6) scTree.nd rfl (Or.inl rfl)) pgs_nil)))
  (pss_cons (ps_setLc (i := 7) (own := [("_law_j", 8)]) (g := gName 8) rfl scTree.nd rfl rfl (sw_true rfl rfl rfl (by decide +kernel)) (pi_range2 rfl T.range (pa_cons (pe_op op_add (pv 5) pe_int) (pa_cons (pe_callB c_lenL (by rfl) T.len (by decide +kernel) (pa_cons (pv 1) pa_nil)) pa_nil))) (blkOk_by (N := ["_law_box_here", "_law_names_here", "_law_far", "_law_up_so", "_law_rows_so", "_law_k", "_law_own", "_law_inner", "_law_j"]) (sc := defScope sTree) (by decide +kernel)) (fun _ _ _ _ _ => (pg_name (i := 8) scTree.nd rfl (Or.inl rfl))) (fun _ _ _ _ _ => (pts_one (pt_cmpR op_eq (pe_ix (ixK (r := rIxL) K ix_list) (pv 3) (pv 8) (fun _ _ => rfl)) (pv 5) (nomark _)))) (fun _ _ _ _ _ => (pe_tup (pa_cons (pe_ix (ixK (r := rIxL) K ix_list) (pv 1) (pv 8) (fun _ _ => rfl)) (pa_cons (pe_op op_add pe_int (pe_cal Ct (hr.mono (by decide)) pass0 (pa_cons (pv 0) (pa_cons (pv 2) pa_nil)))) pa_nil)))))
  (pss_one (ps_if (pt_cmpR (op_neD (hu64 hr)) (pv 7) (pe_lst pa_nil) (nomark _))
  (pss_one (ps_expr (pe_bm PySem.F.plainAttrs_list PySem.F.slot_list_append PySem.F.type_list_append mt_append (pv 4) (pa_cons (pe_tup (pa_cons (pv 6) (pa_cons (pe_callTy c_tupL (by rfl) T.tuple (by decide +kernel) (pa_cons (pe_cal Cr (hr.mono (by decide)) pass0 (pa_cons (pv 7) pa_nil)) pa_nil)) pa_nil))) pa_nil))))
  pss_nil))))
  (pss_one (ps_ret (pv 4))))), ?_⟩
    have lm : (ns.map V.str).length = ns.length := List.length_map _
    walk_at "in"
    walk_at "go"
    rw [lm]
    intro D hD
    have nDa : a ≠ D := hb.ne hD
    refine lc_it (walk_range (n := ns.length)) (fun i H' => ∃ us : List Int, H' D = some (.lst (us.map V.int)) ∧ us.length = i ∧ Bx H' a (b + 80 + (ns.length - i)) ∧ Kp a H H') ?_ (fun _ _ _ _ => trivial) ?_ ?_
    · exact ⟨[], upd_same, rfl, (hb.mono (by omega)).upd nDa, fun c o e n => by walk_at "hp"⟩
    · rintro i x H1 _ hi ⟨us, hD1, lu, bx1, kp1⟩ ⟨rfl, rfl⟩
      refine r_gname ⟨rfl, ?_⟩
      refine r_yes (iteT ?_)
      walk_at "go"
      refine ⟨a, b + 80 + (ns.length - (i + 1)), _, rfl, by rw [show b + 80 + (ns.length - (i + 1)) + 1 = b + 80 + (ns.length - i) by omega]; exact bx1, by omega, by omega, fun d H2 d0 d1 bx2 kp2 => ?_⟩
      walk_at "go"
      refine ⟨us.map V.int, kp2 _ _ hD1 nDa.symm, szl (by rw [List.length_map]; omega), us ++ [d - 1], ?_, by rw [List.length_append, lu]; rfl, bx2.upd nDa, fun c o e n => ?_⟩
      · rw [List.map_append]; exact upd_same
      · rw [upd_ne (ne_of_none e hD)]
        exact kp2 _ _ (kp1 _ _ e n) n
    · rintro H1 ⟨us, hD1, lu, bx1, kp1⟩
      walk_at "go"
      rename_i p hp t1 ht1
      have npa : a ≠ p := bx1.ne hp
      have nta : a ≠ t1 := by walk_at "ne"
      have npt : p ≠ t1 := by walk_at "ne"
      have npD : D ≠ p := ne_of_none hD1 hp
      have hp0 : H p = none := by
        cases e : H p with
        | none => rfl
        | some o => rw [kp1 _ _ e (fun z => npa z.symm)] at hp; cases hp
      have hD2 : upd (upd H1 p (.lst [])) t1 (.tup [V.ref D, V.ref p]) D = some (.lst (us.map V.int)) := by walk_at "hp"
      have hp2 : upd (upd H1 p (.lst [])) t1 (.tup [V.ref D, V.ref p]) p = some (.lst []) := by walk_at "hp"
      have bx2 : Bx (upd (upd H1 p (.lst [])) t1 (.tup [V.ref D, V.ref p])) a (b + 80) := ((bx1.mono (by omega)).upd npa).upd nta
      have kp2 : Kp a H (upd (upd H1 p (.lst [])) t1 (.tup [V.ref D, V.ref p])) := fun c o e n => by walk_at "hp"
      generalize upd (upd H1 p (.lst [])) t1 (.tup [V.ref D, V.ref p]) = H2 at hD2 hp2 bx2 kp2 ⊢
      clear hp hD1 kp1 bx1 ht1
      refine ⟨_, _, rfl, SqL.of (kp2 _ _ hl nla), ?_⟩
      refine for_it (walk_enum (xs := ns.map V.str)) (fun i σ H' => ∃ (ts : List V) (rows : List Row) (x5 x6 x7 x8 : Option V), σ = [some (.ref a), some (.ref l), some (.int far), some (.ref D), some (.ref p), x5, x6, x7, x8] ∧ H' D = some (.lst (us.map V.int)) ∧ H' p = some (.lst ts) ∧ Paired (RwV H') ts rows ∧ (∀ r ∈ rows, ∃ k, k < i ∧ RowS ns far k r) ∧ rows.Nodup ∧ esum rows ≤ tri ns.length i ∧ Bx H' a (b + (ns.length - i) * 8) ∧ Kp a H H') ?_ ?_ ?_ ?_
      · exact ⟨[], [], _, _, _, _, rfl, hD2, hp2, .nil, fun r h => (nomatch h), List.nodup_nil, Nat.zero_le _, bx2.mono (by omega), kp2⟩
      · rintro i σ H3 _ ⟨_, _, _, _, _, _, _, _, _, _, _, _, _, _, kp3⟩
        exact SqL.of (kp3 _ _ hl nla)
      · rintro i x σ H3 H4 hi ⟨ts, rows, x5, x6, x7, x8, rfl, hD3, hp3, hts, hrw, hnd, hes, bx3, kp3⟩ ⟨t, u, v, rfl, ht, rfl, hu, hv⟩
        obtain rfl : V.int (i : Nat) = u := Option.some.inj hu
        obtain ⟨own, rfl, hown⟩ := map_some hv
        have nta : a ≠ t := bx3.ne ht
        have s4 : Same H3 (upd H3 t (.tup [V.int (i : Nat), V.str own])) := fun c o e => upd_at e (ne_of_none e ht)
        have ht4 : upd H3 t (.tup [V.int (i : Nat), V.str own]) t = some (.tup [V.int (i : Nat), V.str own]) := upd_same
        generalize upd H3 t (.tup [V.int (i : Nat), V.str own]) = H4 at s4 ht4 ⊢
        have hD4 := s4 _ _ hD3
        have hp4 := s4 _ _ hp3
        have hts4 := RwV.all hts s4
        have bx4 := bx3.same s4
        have kp4 : Kp a H H4 := fun c o e n => s4 _ _ (kp3 _ _ e n)
        have hl4 := kp4 _ _ hl nla
        clear hD3 hp3 hts bx3 kp3 s4 ht
        rw [lm] at hi
        walk_at "go"
        have e2 : (((ns.map V.str).length : Nat) - ((i : Nat) + 1) : Int).toNat = ns.length - (i + 1) := by rw [lm]; omega
        refine r_iRng2 ?_
        walk_at "go"
        refine ⟨_, _, rfl, by omega, ?_⟩
        rw [e2]
        intro D2 hD2
        have nD2a : a ≠ D2 := bx4.ne hD2
        refine lc_it (walk_range (lo := (i : Nat) + 1) (n := ns.length - (i + 1))) (fun m H' => ∃ xs qs, H' D2 = some (.lst xs) ∧ Paired (PrA H') xs qs ∧ Sel ns far (pick (fun j => decide (us[j]? = some (i : Int))) i (i + 1 + m)) qs ∧ Bx H' a (b + (ns.length - (i + 1)) * 8 + (8 - m)) ∧ Kp a H4 H') ?_ (fun _ _ _ _ => trivial) ?_ ?_
        · refine ⟨[], [], upd_same, .nil, ?_, (bx4.mono (by omega)).upd nD2a, fun c o e n => upd_at e (ne_of_none e hD2)⟩
          rw [Nat.add_zero, pick_zero]
          exact Sel.nil
        · rintro m x _ H5 hm ⟨xs, qs, hD5, hxs, sel, bx5, kp5⟩ ⟨rfl, rfl⟩
          refine r_gname ⟨rfl, ?_⟩
          have hj : i + 1 + m < us.length := by omega
          have hj2 : i + 1 + m < ns.length := by omega
          have lq := Paired.len hxs
          have lsel := sel.len
          have lpk := pick_len (fun j => decide (us[j]? = some (i : Int))) i (i + 1 + m)
          have ej : ((i : Nat) : Int) + 1 + (m : Nat) = ((i + 1 + m : Nat) : Int) := by omega
          dsimp only
          rw [ej]
          have hD6 := kp5 _ _ hD4 nDa.symm
          have hl6 := kp5 _ _ hl4 nla
          walk_at "go"
          refine r_ixL (SqL.of hD6) (atI_nat (List.getElem?_eq_getElem (by rw [List.length_map]; exact hj))) ?_
          rw [List.getElem_map]
          have pk := pick_succ (fun j => decide (us[j]? = some (i : Int))) i (i + 1 + m)
          rw [decide_eq_true (show i < i + 1 + m by omega), Bool.true_and, List.getElem?_eq_getElem hj] at pk
          walk_at "go"
          refine ite_d (fun e => ?_) fun e => ?_
          · have e : us[i + 1 + m] = (i : Int) := by first | exact e | (injection e)
            rw [e, decide_eq_true rfl, if_pos rfl] at pk
            walk_at "go"
            refine r_ixL (SqL.of hl6) (atI_nat (List.getElem?_eq_getElem (by rw [List.length_map]; exact hj2))) ?_
            rw [List.getElem_map]
            walk_at "go"
            refine ⟨a, b + (ns.length - (i + 1)) * 8 + (8 - (m + 1)), far, rfl, by rw [show b + (ns.length - (i + 1)) * 8 + (8 - (m + 1)) + 1 = b + (ns.length - (i + 1)) * 8 + (8 - m) by omega]; exact bx5, f0, f1, fun d H7 d0 d1 bx7 kp7 => ?_⟩
            walk_at "go"
            rename_i pt hpt
            have hD7 := kp7 _ _ hD5 nD2a.symm
            have hxs7 : Paired (PrA H7) xs qs := Paired.mapP hxs fun _ _ z => z.kl (KL.bx kp7 bx5)
            have s8 : Same H7 (upd H7 pt (.tup [V.str ns[i + 1 + m], V.int (1 + d)])) := fun c o e => upd_at e (ne_of_none e hpt)
            have hpt8 : upd H7 pt (.tup [V.str ns[i + 1 + m], V.int (1 + d)]) pt = some (.tup [V.str ns[i + 1 + m], V.int (1 + d)]) := upd_same
            generalize upd H7 pt (.tup [V.str ns[i + 1 + m], V.int (1 + d)]) = H8 at s8 hpt8 ⊢
            refine ⟨xs, s8 _ _ hD7, szl (by omega), xs ++ [.ref pt], qs ++ [(ns[i + 1 + m], 1 + d)], upd_same, pr_push (s8 _ _ hD7) (PrA.all hxs7 s8) ⟨pt, rfl, hpt8⟩, ?_, (bx7.same s8).upd nD2a, fun c o e n => ?_⟩
            · rw [show i + 1 + (m + 1) = i + 1 + m + 1 by omega, pk]
              exact sel.push (List.getElem?_eq_getElem hj2) (by omega) (by omega)
            · exact upd_at (s8 _ _ (kp7 _ _ (kp5 _ _ e n) n)) (ne_of_none e hD2)
          · have e : ¬ us[i + 1 + m] = (i : Int) := by first | exact e | exact fun z => e (by rw [z])
            rw [decide_eq_false (fun z => e (Option.some.inj z)), if_neg (by decide), List.append_nil] at pk
            refine ⟨xs, qs, hD5, hxs, ?_, bx5.mono (by omega), kp5⟩
            rw [show i + 1 + (m + 1) = i + 1 + m + 1 by omega, pk]
            exact sel
        · rintro H5 ⟨xs, qs, hD5, hxs, sel, bx5, kp5⟩
          have e3 : i + 1 + (ns.length - (i + 1)) = ns.length := by omega
          rw [e3] at sel
          have ksq : ∀ p ∈ qs, KindS p.1 := fun p hp => let ⟨_, _, e⟩ := sel.mem hp; ks _ (List.mem_of_getElem? e)
          walk_at "go"
          rename_i p5 hp5
          have s6 : Same H5 (upd H5 p5 (.lst [])) := fun c o e => upd_at e (ne_of_none e hp5)
          refine r_neNil (s6 _ _ hD5) (PrA.all hxs s6) ksq upd_same ?_
          generalize upd H5 p5 (.lst []) = H6 at s6 ⊢
          have hD6 := s6 _ _ hD5
          have hxs6 := PrA.all hxs s6
          have bx6 := bx5.same s6
          have kp6 : Kp a H4 H6 := fun c o e n => s6 _ _ (kp5 _ _ e n)
          have hD7 := kp6 _ _ hD4 nDa.symm
          have hp7 := kp6 _ _ hp4 npa.symm
          have hts7 : Paired (RwV H6) ts rows := Paired.mapP hts4 fun _ _ z => RwV.kl z (KL.bx kp6 bx4)
          have kp7 : Kp a H H6 := fun c o e n => kp6 _ _ (kp4 _ _ e n) n
          have ltri : tri ns.length (i + 1) = tri ns.length i + (ns.length - (i + 1)) := rfl
          clear hD5 hxs bx5 kp5 s6 hp5
          refine ⟨_, rfl, ite_b (fun e => ?_) fun e => ?_⟩
          · have e : qs ≠ [] := by simpa using e
            walk_at "go"
            have lqs := sel.len
            have lxs := Paired.len hxs6
            have lpk := pick_len (fun j => decide (us[j]? = some (i : Int))) i ns.length
            refine ⟨D2, xs, qs, rfl, SqL.of hD6, hxs6, by omega, fun pr ys qs2 H7 hpr hpr7 hys pm so s7 => ?_⟩
            walk_at "go"
            rename_i u1 hu1 u2 hu2
            have lts := Paired.len hts7
            have hrl : rows.length ≤ esum rows := esum_len fun r hr => let ⟨_, _, z⟩ := hrw r hr; z.ne
            have ltr := tri8 _ ln i (by omega)
            have s8 : Same H7 (upd (upd H7 u1 (.tup ys)) u2 (.tup [V.str own, V.ref u1])) := fun c o e => upd_at (upd_at e (ne_of_none e hu1)) (ne_of_none (upd_at e (ne_of_none e hu1)) hu2)
            have n12 : u1 ≠ u2 := fun z => by rw [← z, upd_same] at hu2; cases hu2
            have g1 : upd (upd H7 u1 (.tup ys)) u2 (.tup [V.str own, V.ref u1]) u1 = some (.tup ys) := upd_at upd_same n12
            have g2 : upd (upd H7 u1 (.tup ys)) u2 (.tup [V.str own, V.ref u1]) u2 = some (.tup [V.str own, V.ref u1]) := upd_same
            generalize upd (upd H7 u1 (.tup ys)) u2 (.tup [V.str own, V.ref u1]) = H8 at s8 g1 g2 ⊢
            have s68 : Same H6 H8 := fun c o e => s8 _ _ (s7 _ _ e)
            have hp8 := s68 _ _ hp7
            have rv : RwV H8 (.ref u2) (own, qs2) := ⟨u2, u1, ys, rfl, g2, g1, PrA.all hys s8⟩
            have rs : RowS ns far i (own, qs2) := RowS.of nd hown sel (fun j hj => (pick_mem.mp hj).2.1) (pick_pw _ _ _) e pm so
            have lq2 := pm.length_eq
            refine ⟨p, ts, _, rfl, rfl, hp8, szl (by omega), ?_⟩
            refine ⟨ts ++ [.ref u2], rows ++ [(own, qs2)], _, _, _, _, rfl, upd_at (s68 _ _ hD7) npD, upd_same, rw_push hp8 (RwV.all hts7 s68) rv, fun r hr => ?_, ?_, ?_, ((bx6.mono (by omega)).same s68).upd npa, fun c o e n => upd_at (s68 _ _ (kp7 _ _ e n)) (ne_of_none e hp0)⟩
            · rcases List.mem_append.mp hr with z | z
              · obtain ⟨k, h1, h2⟩ := hrw r z
                exact ⟨k, by omega, h2⟩
              · rw [List.mem_singleton.mp z]
                exact ⟨i, by omega, rs⟩
            · refine List.nodup_append.mpr ⟨hnd, by simp, fun r hr r2 hr2 e3 => ?_⟩
              rw [List.mem_singleton.mp hr2] at e3
              obtain ⟨k, h1, h2⟩ := hrw r hr
              have e4 := h2.hd
              rw [e3] at e4
              have := (List.getElem?_inj (List.getElem?_eq_some_iff.mp e4).1 nd).mp (e4.trans hown.symm)
              omega
            · rw [esum_app, esum_one]
              show _ + qs2.length ≤ _
              omega
          · refine ⟨ts, rows, _, _, _, _, rfl, hD7, hp7, hts7, fun r hr => let ⟨k, h1, h2⟩ := hrw r hr; ⟨k, by omega, h2⟩, hnd, by omega, bx6.mono (by omega), kp7⟩
      · rintro σ H3 ⟨ts, rows, x5, x6, x7, x8, rfl, hD3, hp3, hts, hrw, hnd, hes, bx3, kp3⟩
        walk_at "go"
        refine q p ts rows H3 hp0 hp3 hts ⟨fun r hr => let ⟨k, _, z⟩ := hrw r hr; ⟨k, z⟩, hnd, Nat.le_trans hes ?_⟩ (bx3.mono (by omega)) kp3
        rw [lm]
        exact tri8 _ ln _ (Nat.le_refl _)
end


section
variable {P : Program} {w : World} {K : PySem.W.Frag} {mg : Str → Option Value} {base : Heap}
theorem dp_ints {K : PySem.W.Frag} {H : Hp} : ∀ (js : List Nat), DpAll K H (js.map fun j : Nat => V.int j) (js.map fun j : Nat => PyData.int j)
  | [] => .nil
  | _ :: js => .cons (.int _) (dp_ints js)
theorem can_ints : ∀ (js : List Nat), PyData.canLay0 (.list (js.map fun j : Nat => PyData.int j)) = true ∧ PyData.depthAll (js.map fun j : Nat => PyData.int j) ≤ 0 := by
  intro js
  induction js with
  | nil => exact ⟨rfl, Nat.le_refl _⟩
  | cons j js ih => exact ⟨ih.1, by rw [List.map_cons]; show max 0 (PyData.depthAll _) ≤ 0; have := ih.2; omega⟩
theorem r_neNilI {K : PySem.W.Frag} {H : Hp} {Q : VK} {D p : Addr} {js : List Nat} (hD : H D = some (.lst (js.map fun j : Nat => V.int j))) (hp : H p = some (.lst [])) (q : Q (.bl (!decide (js = []))) H) : rNeD K (.ref D) (.ref p) H Q := by
  refine ⟨.list (js.map fun j : Nat => PyData.int j), .list [], .lst (SqL.of hD) (dp_ints js), .lst (SqL.of hp) .nil, ?_, by decide, ?_⟩
  · unfold SeqAt.shaped
    rw [(can_ints js).1, Bool.true_and]
    refine decide_eq_true ?_
    show PyData.depthAll (js.map fun j : Nat => PyData.int j) + 1 ≤ 64
    have := (can_ints js).2
    omega
  · have e : PyData.eqv (.list (js.map fun j : Nat => PyData.int j)) (.list []) = decide (js = []) := by
      cases js with
      | nil => rfl
      | cons a r => rfl
    rw [e]
    exact q
abbrev sSingle : Stmt := top 38
theorem scSingle : FnScope ["_law_box_here", "_law_names_here", "_law_far", "_law_rows_so", "_law_k", "_law_own", "_law_under", "_law_j"] ["_law_box_here", "_law_names_here", "_law_far"] (defScope sSingle) := ⟨rfl, rfl, rfl, by decide +kernel, rfl, by decide +kernel, by decide +kernel⟩
theorem ok_single {f : Addr} {fd : FuncData} (F : Fun K "_law_single" "_law_single" sSingle f fd) (T : Txt K mg) (Ct : Cal P w K mg base CX0 1 "_law_take" ["_law_box_here", "_law_below"] spTake) (Cr : Cal P w K mg base CX0 1 "_law_rising" ["_law_rows_so"] (spRising K)) : FnOk P w K mg base CX0 2 f fd ["_law_box_here", "_law_names_here", "_law_far"] (spDraw id) := by
  refine F.ok scSingle (fun vs H Q E h => ?_) (fun cdv A outer s H vs Q E hr h => ?_)
  · obtain ⟨a, l, ns, far, b, rfl, _⟩ := h
    rfl
  · obtain ⟨a, l, ns, far, b, rfl, f0, f1, hb, hl, nla, nd, ks, ln, q⟩ := h
    have ln : ns.length ≤ 8 := ln
    refine ⟨_, (pss_cons (ps_set (i := 3) scSingle.nd rfl (Or.inl rfl) (pe_lst pa_nil))
  (pss_cons (ps_for PassesOwn.never rfl (pi_enum (by rfl) T.enumerate (pa_cons (pv 1) pa_nil)) (pg_tup rfl (pgs_cons (pg_name (i := 4) scSingle.nd rfl (Or.inl rfl)) (pgs_cons (pg_name (i := 5) scSingle.nd rfl (Or.inl rfl)) pgs_nil)))
  (pss_cons (ps_setLc (i := 6) (own := [("_law_j", 7)]) (g := gName 7) rfl scSingle.nd rfl rfl (sw_true rfl rfl rfl (by decide +kernel)) (pi_range2 rfl T.range (pa_cons (pe_op op_add (pv 4) pe_int) (pa_cons (pe_callB c_lenL (by rfl) T.len (by decide +kernel) (pa_cons (pv 1) pa_nil)) pa_nil))) (blkOk_by (N := ["_law_box_here", "_law_names_here", "_law_far", "_law_rows_so", "_law_k", "_law_own", "_law_under", "_law_j"]) (sc := defScope sSingle) (by decide +kernel)) (fun _ _ _ _ _ => (pg_name (i := 7) scSingle.nd rfl (Or.inl rfl))) (fun _ _ _ _ _ => (pts_one (pt_cmpR op_eq (pe_cal Ct (hr.mono (by decide)) pass0 (pa_cons (pv 0) (pa_cons pe_int pa_nil))) pe_int (nomark _)))) (fun _ _ _ _ _ => (pv 7)))
  (pss_one (ps_if (pt_cmpR (op_neD (hu64 hr)) (pv 6) (pe_lst pa_nil) (nomark _))
  (pss_one (ps_expr (pe_bm PySem.F.plainAttrs_list PySem.F.slot_list_append PySem.F.type_list_append mt_append (pv 3) (pa_cons (pe_tup (pa_cons (pv 5) (pa_cons (pe_callTy c_tupL (by rfl) T.tuple (by decide +kernel) (pa_cons (pe_cal Cr (hr.mono (by decide)) pass0 (pa_cons (pe_lc (own := [("_law_j", 7)]) (g := gName 7) (tt := tYes) rfl scSingle.nd (pi_list (pv 6)) (blkOk_by (N := ["_law_box_here", "_law_names_here", "_law_far", "_law_rows_so", "_law_k", "_law_own", "_law_under", "_law_j"]) (sc := defScope sSingle) (by decide +kernel)) (fun _ _ _ _ _ => (pg_name (i := 7) scSingle.nd rfl (Or.inl rfl))) (fun _ _ _ _ _ => pts_nil) (fun _ _ _ _ _ => (pe_tup (pa_cons (pe_ix (ixK (r := rIxL) K ix_list) (pv 1) (pv 7) (fun _ _ => rfl)) (pa_cons (pe_op op_add pe_int (pe_cal Ct (hr.mono (by decide)) pass0 (pa_cons (pv 0) (pa_cons (pv 2) pa_nil)))) pa_nil))))) pa_nil)) pa_nil)) pa_nil))) pa_nil))))
  pss_nil))))
  (pss_one (ps_ret (pv 3))))), ?_⟩
    have lm : (ns.map V.str).length = ns.length := List.length_map _
    walk_at "in"
    walk_at "go"
    rename_i p hp0
    have npa : a ≠ p := hb.ne hp0
    have bx2 : Bx (upd H p (.lst [])) a (b + 100) := hb.upd npa
    have kp2 : Kp a H (upd H p (.lst [])) := fun c o e n => upd_at e (ne_of_none e hp0)
    have hp2 : upd H p (.lst []) p = some (.lst []) := upd_same
    generalize upd H p (.lst []) = H2 at bx2 kp2 hp2 ⊢
    refine ⟨_, _, rfl, SqL.of (kp2 _ _ hl nla), ?_⟩
    refine for_it (walk_enum (xs := ns.map V.str)) (fun i σ H' => ∃ (ts : List V) (rows : List Row) (x4 x5 x6 x7 : Option V), σ = [some (.ref a), some (.ref l), some (.int far), some (.ref p), x4, x5, x6, x7] ∧ H' p = some (.lst ts) ∧ Paired (RwV H') ts rows ∧ (∀ r ∈ rows, ∃ k, k < i ∧ RowS ns far k r) ∧ rows.Nodup ∧ esum rows ≤ tri ns.length i ∧ Bx H' a (b + 40 + (28 - tri ns.length i) + (28 - esum rows)) ∧ Kp a H H') ?_ ?_ ?_ ?_
    · exact ⟨[], [], _, _, _, _, rfl, hp2, .nil, fun r h => (nomatch h), List.nodup_nil, Nat.zero_le _, bx2.mono (by show _ + 40 + (28 - 0) + (28 - 0) ≤ _; omega), kp2⟩
    · rintro i σ H3 _ ⟨_, _, _, _, _, _, _, _, _, _, _, _, _, kp3⟩
      exact SqL.of (kp3 _ _ hl nla)
    · rintro i x σ H3 H4 hi ⟨ts, rows, x4, x5, x6, x7, rfl, hp3, hts, hrw, hnd, hes, bx3, kp3⟩ ⟨t, u, v, rfl, ht, rfl, hu, hv⟩
      obtain rfl : V.int (i : Nat) = u := Option.some.inj hu
      obtain ⟨own, rfl, hown⟩ := map_some hv
      have nta : a ≠ t := bx3.ne ht
      have s4 : Same H3 (upd H3 t (.tup [V.int (i : Nat), V.str own])) := fun c o e => upd_at e (ne_of_none e ht)
      have ht4 : upd H3 t (.tup [V.int (i : Nat), V.str own]) t = some (.tup [V.int (i : Nat), V.str own]) := upd_same
      generalize upd H3 t (.tup [V.int (i : Nat), V.str own]) = H4 at s4 ht4 ⊢
      have hp4 := s4 _ _ hp3
      have hts4 := RwV.all hts s4
      have bx4 := bx3.same s4
      have kp4 : Kp a H H4 := fun c o e n => s4 _ _ (kp3 _ _ e n)
      have hl4 := kp4 _ _ hl nla
      clear hp3 hts bx3 kp3 s4 ht
      rw [lm] at hi
      have ltri : tri ns.length (i + 1) = tri ns.length i + (ns.length - (i + 1)) := rfl
      have ltr := tri8 _ ln (i + 1) (by omega)
      walk_at "go"
      have e2 : (((ns.map V.str).length : Nat) - ((i : Nat) + 1) : Int).toNat = ns.length - (i + 1) := by rw [lm]; omega
      refine r_iRng2 ?_
      walk_at "go"
      refine ⟨_, _, rfl, by omega, ?_⟩
      rw [e2]
      intro D2 hD2
      have nD2a : a ≠ D2 := bx4.ne hD2
      refine lc_it (walk_range (lo := (i : Nat) + 1) (n := ns.length - (i + 1))) (fun m H' => ∃ js : List Nat, H' D2 = some (.lst (js.map fun j : Nat => V.int j)) ∧ js.Pairwise (· < ·) ∧ (∀ j ∈ js, i < j ∧ j < i + 1 + m) ∧ js.length ≤ m ∧ Bx H' a (b + 40 + (28 - tri ns.length i - m) + (28 - esum rows)) ∧ Kp a H4 H') ?_ (fun _ _ _ _ => trivial) ?_ ?_
      · exact ⟨[], upd_same, .nil, fun _ h => (nomatch h), Nat.le_refl _, (bx4.mono (by omega)).upd nD2a, fun c o e n => upd_at e (ne_of_none e hD2)⟩
      · rintro m x _ H5 hm ⟨js, hD5, pw, hjs, ljs, bx5, kp5⟩ ⟨rfl, rfl⟩
        refine r_gname ⟨rfl, ?_⟩
        have ej : ((i : Nat) : Int) + 1 + (m : Nat) = ((i + 1 + m : Nat) : Int) := by omega
        dsimp only
        rw [ej]
        walk_at "go"
        refine ⟨a, b + 40 + (28 - tri ns.length i - (m + 1)) + (28 - esum rows), 2, rfl, by rw [show b + 40 + (28 - tri ns.length i - (m + 1)) + (28 - esum rows) + 1 = b + 40 + (28 - tri ns.length i - m) + (28 - esum rows) by omega]; exact bx5, by omega, by omega, fun d H7 d0 d1 bx7 kp7 => ?_⟩
        have hD7 := kp7 _ _ hD5 nD2a.symm
        walk_at "go"
        refine ite_d (fun e => ?_) fun e => ?_
        · walk_at "go"
          refine ⟨js.map fun j : Nat => V.int j, hD7, szl (by rw [List.length_map]; omega), js ++ [i + 1 + m], by rw [List.map_append]; exact upd_same, ?_, fun j hj => ?_, by rw [List.length_append, List.length_singleton]; omega, bx7.upd nD2a, fun c o e n => upd_at (kp7 _ _ (kp5 _ _ e n) n) (ne_of_none e hD2)⟩
          · refine List.pairwise_append.mpr ⟨pw, List.pairwise_singleton _ _, fun x hx y hy => ?_⟩
            rw [List.mem_singleton.mp hy]
            exact (hjs x hx).2
          · rcases List.mem_append.mp hj with z | z
            · have := hjs j z
              omega
            · rw [List.mem_singleton.mp z]
              omega
        · exact ⟨js, hD7, pw, fun j hj => by have := hjs j hj; omega, by omega, bx7, fun c o e n => kp7 _ _ (kp5 _ _ e n) n⟩
      · rintro H5 ⟨js, hD5, pw, hjs, ljs, bx5, kp5⟩
        have e3 : i + 1 + (ns.length - (i + 1)) = ns.length := by omega
        rw [e3] at hjs
        walk_at "go"
        rename_i p5 hp5
        have s6 : Same H5 (upd H5 p5 (.lst [])) := fun c o e => upd_at e (ne_of_none e hp5)
        refine r_neNilI (s6 _ _ hD5) upd_same ?_
        generalize upd H5 p5 (.lst []) = H6 at s6 ⊢
        have hD6 := s6 _ _ hD5
        have bx6 := bx5.same s6
        have kp6 : Kp a H4 H6 := fun c o e n => s6 _ _ (kp5 _ _ e n)
        have hp7 := kp6 _ _ hp4 npa.symm
        have hl6 := kp6 _ _ hl4 nla
        have hts7 : Paired (RwV H6) ts rows := Paired.mapP hts4 fun _ _ z => RwV.kl z (KL.bx kp6 bx4)
        have kp7 : Kp a H H6 := fun c o e n => kp6 _ _ (kp4 _ _ e n) n
        clear hD5 bx5 kp5 s6 hp5
        refine ⟨_, rfl, ite_b (fun e => ?_) fun e => ?_⟩
        · have e : js ≠ [] := by simpa using e
          walk_at "go"
          intro D3 hD3
          have nD3a : a ≠ D3 := bx6.ne hD3
          refine lc_it (walk_list (xs := js.map fun j : Nat => V.int j)) (fun m H' => ∃ xs qs, H' D3 = some (.lst xs) ∧ Paired (PrA H') xs qs ∧ Sel ns far (js.take m) qs ∧ Bx H' a (b + 40 + (28 - tri ns.length (i + 1)) + (28 - esum rows - m)) ∧ Kp a H6 H') ?_ ?_ ?_ ?_
          · refine ⟨[], [], upd_same, .nil, ?_, (bx6.mono (by omega)).upd nD3a, fun c o e n => upd_at e (ne_of_none e hD3)⟩
            rw [List.take_zero]
            exact Sel.nil
          · rintro m H' _ ⟨_, _, _, _, _, _, kp7⟩
            exact SqL.of (kp7 _ _ hD6 nD2a.symm)
          · rintro m x _ H7 hm ⟨xs, qs, hD7, hxs, sel, bx7, kp7⟩ ⟨rfl, hx⟩
            rw [List.length_map] at hm
            rw [List.getElem?_map, List.getElem?_eq_getElem hm] at hx
            obtain rfl := Option.some.inj hx
            have hjm := hjs js[m] (List.getElem_mem hm)
            have hl7 := kp7 _ _ hl6 nla
            have lq := Paired.len hxs
            have lsel := sel.len
            rw [List.length_take] at lsel
            walk_at "go"
            refine ⟨rfl, r_yes (iteT ?_)⟩
            walk_at "go"
            refine r_ixL (SqL.of hl7) (atI_nat (List.getElem?_eq_getElem (by rw [List.length_map]; exact hjm.2))) ?_
            rw [List.getElem_map]
            walk_at "go"
            refine ⟨a, b + 40 + (28 - tri ns.length (i + 1)) + (28 - esum rows - (m + 1)), far, rfl, by rw [show b + 40 + (28 - tri ns.length (i + 1)) + (28 - esum rows - (m + 1)) + 1 = b + 40 + (28 - tri ns.length (i + 1)) + (28 - esum rows - m) by omega]; exact bx7, f0, f1, fun d H8 d0 d1 bx8 kp8 => ?_⟩
            walk_at "go"
            rename_i pt hpt
            have hD8 := kp8 _ _ hD7 nD3a.symm
            have hxs8 : Paired (PrA H8) xs qs := Paired.mapP hxs fun _ _ z => z.kl (KL.bx kp8 bx7)
            have s9 : Same H8 (upd H8 pt (.tup [V.str ns[js[m]], V.int (1 + d)])) := fun c o e => upd_at e (ne_of_none e hpt)
            have hpt9 : upd H8 pt (.tup [V.str ns[js[m]], V.int (1 + d)]) pt = some (.tup [V.str ns[js[m]], V.int (1 + d)]) := upd_same
            generalize upd H8 pt (.tup [V.str ns[js[m]], V.int (1 + d)]) = H9 at s9 hpt9 ⊢
            refine ⟨xs, s9 _ _ hD8, szl (by omega), xs ++ [.ref pt], qs ++ [(ns[js[m]], 1 + d)], upd_same, pr_push (s9 _ _ hD8) (PrA.all hxs8 s9) ⟨pt, rfl, hpt9⟩, ?_, (bx8.same s9).upd nD3a, fun c o e n => ?_⟩
            · rw [List.take_add_one, List.getElem?_eq_getElem hm]
              exact sel.push (List.getElem?_eq_getElem hjm.2) (by omega) (by omega)
            · exact upd_at (s9 _ _ (kp8 _ _ (kp7 _ _ e n) n)) (ne_of_none e hD3)
          · rintro H7 ⟨xs, qs, hD7, hxs, sel, bx7, kp67⟩
            rw [List.length_map, List.take_length] at sel
            rw [List.length_map] at bx7
            walk_at "go"
            have lqs := sel.len
            have lxs := Paired.len hxs
            refine ⟨D3, xs, qs, rfl, SqL.of hD7, hxs, by omega, fun pr ys qs2 H8 hpr hpr8 hys pm so s8 => ?_⟩
            walk_at "go"
            rename_i u1 hu1 u2 hu2
            have lts := Paired.len hts7
            have hrl : rows.length ≤ esum rows := esum_len fun r hr => let ⟨_, _, z⟩ := hrw r hr; z.ne
            have s9 : Same H8 (upd (upd H8 u1 (.tup ys)) u2 (.tup [V.str own, V.ref u1])) := fun c o e => upd_at (upd_at e (ne_of_none e hu1)) (ne_of_none (upd_at e (ne_of_none e hu1)) hu2)
            have n12 : u1 ≠ u2 := fun z => by rw [← z, upd_same] at hu2; cases hu2
            have g1 : upd (upd H8 u1 (.tup ys)) u2 (.tup [V.str own, V.ref u1]) u1 = some (.tup ys) := upd_at upd_same n12
            have g2 : upd (upd H8 u1 (.tup ys)) u2 (.tup [V.str own, V.ref u1]) u2 = some (.tup [V.str own, V.ref u1]) := upd_same
            generalize upd (upd H8 u1 (.tup ys)) u2 (.tup [V.str own, V.ref u1]) = H9 at s9 g1 g2 ⊢
            have s79 : Same H7 H9 := fun c o e => s9 _ _ (s8 _ _ e)
            have hp9 := s79 _ _ (kp67 _ _ hp7 npa.symm)
            have hts9 : Paired (RwV H9) ts rows := RwV.all (Paired.mapP hts7 fun _ _ z => RwV.kl z (KL.bx kp67 bx6)) s79
            have rv : RwV H9 (.ref u2) (own, qs2) := ⟨u2, u1, ys, rfl, g2, g1, PrA.all hys s9⟩
            have qne : qs ≠ [] := fun z => e (by rw [z] at lqs; exact List.eq_nil_of_length_eq_zero lqs.symm)
            have rs : RowS ns far i (own, qs2) := RowS.of nd hown sel (fun j hj => (hjs j hj).1) pw qne pm so
            have lq2 := pm.length_eq
            refine ⟨p, ts, _, rfl, rfl, hp9, szl (by omega), ?_⟩
            refine ⟨ts ++ [.ref u2], rows ++ [(own, qs2)], _, _, _, _, rfl, upd_same, rw_push hp9 hts9 rv, fun r hr => ?_, ?_, ?_, ?_, fun c o e n => upd_at (s79 _ _ (kp67 _ _ (kp7 _ _ e n) n)) (ne_of_none e hp0)⟩
            · rcases List.mem_append.mp hr with z | z
              · obtain ⟨k, h1, h2⟩ := hrw r z
                exact ⟨k, by omega, h2⟩
              · rw [List.mem_singleton.mp z]
                exact ⟨i, by omega, rs⟩
            · refine List.nodup_append.mpr ⟨hnd, by simp, fun r hr r2 hr2 e3 => ?_⟩
              rw [List.mem_singleton.mp hr2] at e3
              obtain ⟨k, h1, h2⟩ := hrw r hr
              have e4 := h2.hd
              rw [e3] at e4
              have := (List.getElem?_inj (List.getElem?_eq_some_iff.mp e4).1 nd).mp (e4.trans hown.symm)
              omega
            · rw [esum_app, esum_one]
              show _ + qs2.length ≤ _
              omega
            · rw [esum_app, esum_one]
              refine ((bx7.mono ?_).same s79).upd npa
              show _ + 40 + _ + (28 - (_ + qs2.length)) ≤ _
              omega
        · exact ⟨ts, rows, _, _, _, _, rfl, hp7, hts7, fun r hr => let ⟨k, h1, h2⟩ := hrw r hr; ⟨k, by omega, h2⟩, hnd, by omega, bx6.mono (by omega), kp7⟩
    · rintro σ H3 ⟨ts, rows, x4, x5, x6, x7, rfl, hp3, hts, hrw, hnd, hes, bx3, kp3⟩
      walk_at "go"
      refine q p ts rows H3 hp0 hp3 hts ⟨fun r hr => let ⟨k, _, z⟩ := hrw r hr; ⟨k, z⟩, hnd, Nat.le_trans hes ?_⟩ (bx3.mono (by omega)) kp3
      rw [lm]
      exact tri8 _ ln _ (Nat.le_refl _)
end


theorem pick_add {g1 g2 g3 : Nat → Bool} (k : Nat) (h1 : ∀ j, g1 j = true → g3 j = true) (h2 : ∀ j, g2 j = true → g3 j = true) (h : ∀ j, g1 j = true → g2 j = true → False) : ∀ hi, (pick g1 k hi).length + (pick g2 k hi).length ≤ (pick g3 k hi).length
  | 0 => by simp [pick]
  | hi + 1 => by
    have ih := pick_add k h1 h2 h hi
    rw [pick_succ, pick_succ, pick_succ, List.length_append, List.length_append, List.length_append]
    by_cases c : k < hi
    · rw [decide_eq_true c, Bool.true_and, Bool.true_and, Bool.true_and]
      cases e1 : g1 hi with
      | true =>
        rw [h1 hi e1]
        cases e2 : g2 hi with
        | true => exact (h hi e1 e2).elim
        | false => simp; omega
      | false =>
        cases e2 : g2 hi with
        | true => rw [h2 hi e2]; simp; omega
        | false => simp; omega
    · rw [decide_eq_false c]
      simp
      omega
section
variable {P : Program} {w : World} {K : PySem.W.Frag} {mg : Str → Option Value} {base : Heap}
abbrev sWays : Stmt := top 37
theorem scWays : FnScope ["_law_box_here", "_law_names_here", "_law_far", "_law_rows_so", "_law_up_so", "_law_way_so", "_law_k", "_law_own", "_law_turn", "_law_under", "_law_j"] ["_law_box_here", "_law_names_here", "_law_far"] (defScope sWays) := ⟨rfl, rfl, rfl, by decide +kernel, rfl, by decide +kernel, by decide +kernel⟩
theorem ok_ways {f : Addr} {fd : FuncData} (F : Fun K "_law_ways" "_law_ways" sWays f fd) (T : Txt K mg) (Ct : Cal P w K mg base CX0 1 "_law_take" ["_law_box_here", "_law_below"] spTake) (Cr : Cal P w K mg base CX0 1 "_law_rising" ["_law_rows_so"] (spRising K)) : FnOk P w K mg base CX0 2 f fd ["_law_box_here", "_law_names_here", "_law_far"] (spDraw id) := by
  refine F.ok scWays (fun vs H Q E h => ?_) (fun cdv A outer s H vs Q E hr h => ?_)
  · obtain ⟨a, l, ns, far, b, rfl, _⟩ := h
    rfl
  · obtain ⟨a, l, ns, far, b, rfl, f0, f1, hb, hl, nla, nd, ks, ln, q⟩ := h
    have ln : ns.length ≤ 8 := ln
    refine ⟨_, (pss_cons (ps_asg (pe_tup (pa_cons (pe_lc (own := [("_law_k", 6)]) (g := gName 6) (tt := tYes) rfl scWays.nd (pi_range1 rfl T.range (pa_cons (pe_callB c_lenL (by rfl) T.len (by decide +kernel) (pa_cons (pv 1) pa_nil)) pa_nil)) (blkOk_by (N := ["_law_box_here", "_law_names_here", "_law_far", "_law_rows_so", "_law_up_so", "_law_way_so", "_law_k", "_law_own", "_law_turn", "_law_under", "_law_j"]) (sc := defScope sWays) (by decide +kernel)) (fun _ _ _ _ _ => (pg_name (i := 6) scWays.nd rfl (Or.inl rfl))) (fun _ _ _ _ _ => pts_nil) (fun _ _ _ _ _ => (pe_op op_sub (pe_cal Ct (hr.mono (by decide)) pass0 (pa_cons (pv 0) (pa_cons (pe_op op_add (pv 6) pe_int) pa_nil))) pe_int))) (pa_cons (pe_lc (own := [("_law_own", 7)]) (g := gName 7) (tt := tYes) rfl scWays.nd (pi_list (pv 1)) (blkOk_by (N := ["_law_box_here", "_law_names_here", "_law_far", "_law_rows_so", "_law_up_so", "_law_way_so", "_law_k", "_law_own", "_law_turn", "_law_under", "_law_j"]) (sc := defScope sWays) (by decide +kernel)) (fun _ _ _ _ _ => (pg_name (i := 7) scWays.nd rfl (Or.inl rfl))) (fun _ _ _ _ _ => pts_nil) (fun _ _ _ _ _ => (pe_cal Ct (hr.mono (by decide)) pass0 (pa_cons (pv 0) (pa_cons pe_int pa_nil))))) pa_nil))) (pg_tup rfl (pgs_cons (pg_name (i := 4) scWays.nd rfl (Or.inr rfl)) (pgs_cons (pg_name (i := 5) scWays.nd rfl (Or.inr rfl)) pgs_nil))))
  (pss_cons (ps_set (i := 3) scWays.nd rfl (Or.inl rfl) (pe_lst pa_nil))
  (pss_cons (ps_for PassesOwn.never rfl (pi_enum (by rfl) T.enumerate (pa_cons (pv 1) pa_nil)) (pg_tup rfl (pgs_cons (pg_name (i := 6) scWays.nd rfl (Or.inr rfl)) (pgs_cons (pg_name (i := 7) scWays.nd rfl (Or.inl rfl)) pgs_nil)))
  (pss_one (ps_for PassesOwn.never rfl (pi_range1 rfl T.range (pa_cons pe_int pa_nil)) (pg_name (i := 8) scWays.nd rfl (Or.inr rfl))
  (pss_cons (ps_setLc (i := 9) (own := [("_law_j", 10)]) (g := gName 10) rfl scWays.nd rfl rfl (sw_true rfl rfl rfl (by decide +kernel)) (pi_range2 rfl T.range (pa_cons (pe_op op_add (pv 6) pe_int) (pa_cons (pe_callB c_lenL (by rfl) T.len (by decide +kernel) (pa_cons (pv 1) pa_nil)) pa_nil))) (blkOk_by (N := ["_law_box_here", "_law_names_here", "_law_far", "_law_rows_so", "_law_up_so", "_law_way_so", "_law_k", "_law_own", "_law_turn", "_law_under", "_law_j"]) (sc := defScope sWays) (by decide +kernel)) (fun _ _ _ _ _ => (pg_name (i := 10) scWays.nd rfl (Or.inl rfl))) (fun _ _ _ _ _ => (pts_one (PW.pt (pw_and (pt_cmpR op_eq (pe_ix (ixK (r := rIxL) K ix_list) (pv 4) (pv 10) (fun _ _ => rfl)) (pv 6) (nomark _)) (pw_and1 (pt_cmpR op_eq (pe_ix (ixK (r := rIxL) K ix_list) (pv 5) (pv 10) (fun _ _ => rfl)) (pv 8) (nomark _))))))) (fun _ _ _ _ _ => (pv 10)))
  (pss_one (ps_if (pt_cmpR (op_neD (hu64 hr)) (pv 9) (pe_lst pa_nil) (nomark _))
  (pss_one (ps_expr (pe_bm PySem.F.plainAttrs_list PySem.F.slot_list_append PySem.F.type_list_append mt_append (pv 3) (pa_cons (pe_tup (pa_cons (pv 7) (pa_cons (pe_callTy c_tupL (by rfl) T.tuple (by decide +kernel) (pa_cons (pe_cal Cr (hr.mono (by decide)) pass0 (pa_cons (pe_lc (own := [("_law_j", 10)]) (g := gName 10) (tt := tYes) rfl scWays.nd (pi_list (pv 9)) (blkOk_by (N := ["_law_box_here", "_law_names_here", "_law_far", "_law_rows_so", "_law_up_so", "_law_way_so", "_law_k", "_law_own", "_law_turn", "_law_under", "_law_j"]) (sc := defScope sWays) (by decide +kernel)) (fun _ _ _ _ _ => (pg_name (i := 10) scWays.nd rfl (Or.inl rfl))) (fun _ _ _ _ _ => pts_nil) (fun _ _ _ _ _ => (pe_tup (pa_cons (pe_ix (ixK (r := rIxL) K ix_list) (pv 1) (pv 10) (fun _ _ => rfl)) (pa_cons (pe_op op_add pe_int (pe_cal Ct (hr.mono (by decide)) pass0 (pa_cons (pv 0) (pa_cons (pv 2) pa_nil)))) pa_nil))))) pa_nil)) pa_nil)) pa_nil))) pa_nil))))
  pss_nil))))))
  (pss_one (ps_ret (pv 3)))))), ?_⟩
    have lm : (ns.map V.str).length = ns.length := List.length_map _
    walk_at "in"
    walk_at "go"
    rw [lm]
    intro D hD
    have nDa : a ≠ D := hb.ne hD
    refine lc_it (walk_range (n := ns.length)) (fun i H' => ∃ us : List Int, H' D = some (.lst (us.map V.int)) ∧ us.length = i ∧ Bx H' a (b + 80 + (ns.length - i)) ∧ Kp a H H') ?_ (fun _ _ _ _ => trivial) ?_ ?_
    · exact ⟨[], upd_same, rfl, (hb.mono (by omega)).upd nDa, fun c o e n => by walk_at "hp"⟩
    · rintro i x H1 _ hi ⟨us, hD1, lu, bx1, kp1⟩ ⟨rfl, rfl⟩
      refine r_gname ⟨rfl, ?_⟩
      refine r_yes (iteT ?_)
      walk_at "go"
      refine ⟨a, b + 80 + (ns.length - (i + 1)), _, rfl, by rw [show b + 80 + (ns.length - (i + 1)) + 1 = b + 80 + (ns.length - i) by omega]; exact bx1, by omega, by omega, fun d H2 d0 d1 bx2 kp2 => ?_⟩
      walk_at "go"
      refine ⟨us.map V.int, kp2 _ _ hD1 nDa.symm, szl (by rw [List.length_map]; omega), us ++ [d - 1], ?_, by rw [List.length_append, lu]; rfl, bx2.upd nDa, fun c o e n => ?_⟩
      · rw [List.map_append]; exact upd_same
      · rw [upd_ne (ne_of_none e hD)]
        exact kp2 _ _ (kp1 _ _ e n) n
    · rintro H1 ⟨us, hD1, lu, bx1, kp1⟩
      have hl1 := kp1 _ _ hl nla
      walk_at "go"
      intro W hW
      have nWa : a ≠ W := bx1.ne hW
      have nWD : D ≠ W := ne_of_none hD1 hW
      refine lc_it (walk_list (xs := ns.map V.str)) (fun i H' => ∃ ws : List Int, H' W = some (.lst (ws.map V.int)) ∧ ws.length = i ∧ Bx H' a (b + 60 + (ns.length - i)) ∧ Kp a H1 H') ?_ ?_ ?_ ?_
      · exact ⟨[], upd_same, rfl, (bx1.mono (by omega)).upd nWa, fun c o e n => upd_at e (ne_of_none e hW)⟩
      · rintro i H' _ ⟨_, _, _, _, k2⟩
        exact SqL.of (k2 _ _ hl1 nla)
      · rintro i x H2 _ hi ⟨ws, hW1, lw, bx2, kp2⟩ ⟨rfl, hx⟩
        rw [lm] at hi
        refine r_gname ⟨rfl, ?_⟩
        refine r_yes (iteT ?_)
        walk_at "go"
        refine ⟨a, b + 60 + (ns.length - (i + 1)), 3, rfl, by rw [show b + 60 + (ns.length - (i + 1)) + 1 = b + 60 + (ns.length - i) by omega]; exact bx2, by omega, by omega, fun d H3 d0 d1 bx3 kp3 => ?_⟩
        refine ⟨ws.map V.int, kp3 _ _ hW1 nWa.symm, szl (by rw [List.length_map]; omega), ws ++ [d], ?_, by rw [List.length_append, lw]; rfl, bx3.upd nWa, fun c o e n => ?_⟩
        · rw [List.map_append]; exact upd_same
        · rw [upd_ne (ne_of_none e hW)]
          exact kp3 _ _ (kp2 _ _ e n) n
      · rintro H2 ⟨ws, hW2, lw, bx2, kp2⟩
        rw [lm] at lw bx2
        have hD2 := kp2 _ _ hD1 nDa.symm
        have kp02 : Kp a H H2 := fun c o e n => kp2 _ _ (kp1 _ _ e n) n
        clear hD1 bx1 kp1 hl1 kp2
        walk_at "go"
        rename_i t1 ht1 p hp
        have nta : a ≠ t1 := bx2.ne ht1
        have npa : a ≠ p := by walk_at "ne"
        have npt : t1 ≠ p := by walk_at "ne"
        have npD : D ≠ p := ne_of_none (upd_at hD2 (ne_of_none hD2 ht1)) hp
        have npW : W ≠ p := ne_of_none (upd_at hW2 (ne_of_none hW2 ht1)) hp
        have hp0 : H p = none := by
          cases e : H p with
          | none => rfl
          | some o => rw [upd_ne (fun z => npt z.symm), kp02 _ _ e (fun z => npa z.symm)] at hp; cases hp
        have hD3 : upd (upd H2 t1 (.tup [V.ref D, V.ref W])) p (.lst []) D = some (.lst (us.map V.int)) := by walk_at "hp"
        have hW3 : upd (upd H2 t1 (.tup [V.ref D, V.ref W])) p (.lst []) W = some (.lst (ws.map V.int)) := by walk_at "hp"
        have hp3 : upd (upd H2 t1 (.tup [V.ref D, V.ref W])) p (.lst []) p = some (.lst []) := upd_same
        have bx3 : Bx (upd (upd H2 t1 (.tup [V.ref D, V.ref W])) p (.lst [])) a (b + 60) := ((bx2.mono (by omega)).upd nta).upd npa
        have kp3 : Kp a H (upd (upd H2 t1 (.tup [V.ref D, V.ref W])) p (.lst [])) := fun c o e n => by
          have := kp02 _ _ e n
          walk_at "hp"
        generalize upd (upd H2 t1 (.tup [V.ref D, V.ref W])) p (.lst []) = H3 at hD3 hW3 hp3 bx3 kp3 ⊢
        clear hp hD2 hW2 bx2 kp02 ht1
        refine ⟨_, _, rfl, SqL.of (kp3 _ _ hl nla), ?_⟩
        refine for_it (walk_enum (xs := ns.map V.str)) (fun i σ H' => ∃ (ts : List V) (rows : List Row) (x6 x7 x8 x9 xa : Option V), σ = [some (.ref a), some (.ref l), some (.int far), some (.ref p), some (.ref D), some (.ref W), x6, x7, x8, x9, xa] ∧ H' D = some (.lst (us.map V.int)) ∧ H' W = some (.lst (ws.map V.int)) ∧ H' p = some (.lst ts) ∧ Paired (RwV H') ts rows ∧ (∀ r ∈ rows, ∃ k, k < i ∧ RowS ns far k r) ∧ rows.Nodup ∧ esum rows ≤ tri ns.length i ∧ Bx H' a (b + 20 + (28 - esum rows)) ∧ Kp a H H') ?_ ?_ ?_ ?_
        · exact ⟨[], [], _, _, _, _, _, rfl, hD3, hW3, hp3, .nil, fun r h => (nomatch h), List.nodup_nil, Nat.zero_le _, bx3.mono (by show _ + 20 + (28 - 0) ≤ _; omega), kp3⟩
        · rintro i σ H3 _ ⟨_, _, _, _, _, _, _, _, _, _, _, _, _, _, _, _, kp3⟩
          exact SqL.of (kp3 _ _ hl nla)
        · rintro i x σ H3 H4 hi ⟨ts, rows, x6, x7, x8, x9, xa, rfl, hD3, hW3, hp3, hts, hrw, hnd, hes, bx3, kp3⟩ ⟨t, u, v, rfl, ht, rfl, hu, hv⟩
          obtain rfl : V.int (i : Nat) = u := Option.some.inj hu
          obtain ⟨own, rfl, hown⟩ := map_some hv
          have nta : a ≠ t := bx3.ne ht
          have s4 : Same H3 (upd H3 t (.tup [V.int (i : Nat), V.str own])) := fun c o e => upd_at e (ne_of_none e ht)
          have ht4 : upd H3 t (.tup [V.int (i : Nat), V.str own]) t = some (.tup [V.int (i : Nat), V.str own]) := upd_same
          generalize upd H3 t (.tup [V.int (i : Nat), V.str own]) = H4 at s4 ht4 ⊢
          have hD4 := s4 _ _ hD3
          have hW4 := s4 _ _ hW3
          have hp4 := s4 _ _ hp3
          have hts4 := RwV.all hts s4
          have bx4 := bx3.same s4
          have kp4 : Kp a H H4 := fun c o e n => s4 _ _ (kp3 _ _ e n)
          clear hp3 hts bx3 kp3 s4 ht hD3 hW3
          rw [lm] at hi
          have ltri : tri ns.length (i + 1) = tri ns.length i + (ns.length - (i + 1)) := rfl
          have ltr := tri8 _ ln (i + 1) (by omega)
          have e2 : (((ns.map V.str).length : Nat) - ((i : Nat) + 1) : Int).toNat = ns.length - (i + 1) := by rw [lm]; omega
          walk_at "go"
          refine for_it (walk_range (n := 3)) (fun tn σ H' => ∃ (ts : List V) (rows : List Row) (x8 x9 xa : Option V), σ = [some (.ref a), some (.ref l), some (.int far), some (.ref p), some (.ref D), some (.ref W), some (.int (i : Nat)), some (.str own), x8, x9, xa] ∧ H' D = some (.lst (us.map V.int)) ∧ H' W = some (.lst (ws.map V.int)) ∧ H' p = some (.lst ts) ∧ Paired (RwV H') ts rows ∧ (∀ r ∈ rows, (∃ k, k < i ∧ RowS ns far k r) ∨ (RowS ns far i r ∧ ∀ p ∈ r.2, ∃ (j : Nat) (w' : Int), ns[j]? = some p.1 ∧ ws[j]? = some w' ∧ w' < (tn : Int))) ∧ rows.Nodup ∧ esum rows ≤ tri ns.length i + (pick (fun j => decide (us[j]? = some (i : Int)) && decide (∃ w' : Int, ws[j]? = some w' ∧ w' < (tn : Int))) i ns.length).length ∧ Bx H' a (b + 20 + (28 - esum rows)) ∧ Kp a H H') ?_ (fun _ _ _ _ _ => trivial) ?_ ?_
          · exact ⟨ts, rows, _, _, _, rfl, hD4, hW4, hp4, hts4, fun r hr => .inl (hrw r hr), hnd, by omega, bx4, kp4⟩
          · clear hD4 hW4 hp4 hts4 bx4 kp4 hrw hnd hes ht4
            rintro tn x _ _ H4 htn ⟨ts, rows, x8, x9, xa, rfl, hD4, hW4, hp4, hts4, hrw, hnd, hes, bx4, kp4⟩ ⟨rfl, rfl⟩
            have hl4 := kp4 _ _ hl nla
            have et : (0 : Int) + (tn : Nat) = ((tn : Nat) : Int) := by omega
            dsimp only
            rw [et]
            walk_at "go"
            refine r_iRng2 ?_
            walk_at "go"
            refine ⟨_, _, rfl, by omega, ?_⟩
            rw [e2]
            intro D2 hD2
            have nD2a : a ≠ D2 := bx4.ne hD2
            refine lc_it (walk_range (lo := (i : Nat) + 1) (n := ns.length - (i + 1))) (fun m H' => H' D2 = some (.lst ((pick (fun j => decide (us[j]? = some (i : Int)) && decide (ws[j]? = some ((tn : Nat) : Int))) i (i + 1 + m)).map fun j : Nat => V.int j)) ∧ Same H4 H') ?_ (fun _ _ _ _ => trivial) ?_ ?_
            · rw [Nat.add_zero, pick_zero]
              exact ⟨upd_same, fun c o e => upd_at e (ne_of_none e hD2)⟩
            · rintro m x _ H5 hm ⟨hD5, s5⟩ ⟨rfl, rfl⟩
              refine r_gname ⟨rfl, ?_⟩
              have ej : ((i : Nat) : Int) + 1 + (m : Nat) = ((i + 1 + m : Nat) : Int) := by omega
              dsimp only
              rw [ej]
              have hD5b := s5 _ _ hD4
              have hW5 := s5 _ _ hW4
              have hj : i + 1 + m < us.length := by omega
              have hj2 : i + 1 + m < ws.length := by omega
              have pk := pick_succ (fun j => decide (us[j]? = some (i : Int)) && decide (ws[j]? = some ((tn : Nat) : Int))) i (i + 1 + m)
              have lpk := pick_len (fun j => decide (us[j]? = some (i : Int)) && decide (ws[j]? = some ((tn : Nat) : Int))) i (i + 1 + m)
              rw [decide_eq_true (show i < i + 1 + m by omega), Bool.true_and, List.getElem?_eq_getElem hj, List.getElem?_eq_getElem hj2] at pk
              have keep : (us[i + 1 + m] = (i : Int) ∧ ws[i + 1 + m] = ((tn : Nat) : Int) → False) → H5 D2 = some (.lst ((pick (fun j => decide (us[j]? = some (i : Int)) && decide (ws[j]? = some ((tn : Nat) : Int))) i (i + 1 + (m + 1))).map fun j : Nat => V.int j)) := fun no => by
                rw [show i + 1 + (m + 1) = i + 1 + m + 1 by omega, pk, if_neg (fun z => by
                  rw [Bool.and_eq_true] at z
                  exact no ⟨Option.some.inj (of_decide_eq_true z.1), Option.some.inj (of_decide_eq_true z.2)⟩), List.append_nil]
                exact hD5
              walk_at "go"
              refine r_ixL (SqL.of hD5b) (atI_nat (List.getElem?_eq_getElem (by rw [List.length_map]; exact hj))) ?_
              rw [List.getElem_map]
              walk_at "go"
              refine ite_d (fun e => ?_) fun e => ?_
              · have e : us[i + 1 + m] = (i : Int) := by first | exact e | (injection e)
                walk_at "go"
                refine r_ixL (SqL.of hW5) (atI_nat (List.getElem?_eq_getElem (by rw [List.length_map]; exact hj2))) ?_
                rw [List.getElem_map]
                walk_at "go"
                refine ite_d (fun e3 => ?_) fun e3 => ?_
                · have e3 : ws[i + 1 + m] = ((tn : Nat) : Int) := by first | exact e3 | (injection e3)
                  rw [e, e3, decide_eq_true rfl, decide_eq_true rfl, Bool.and_true, if_pos rfl] at pk
                  walk_at "go"
                  refine ⟨_, hD5, szl (by rw [List.length_map]; omega), ?_, fun c o e => upd_at (s5 _ _ e) (ne_of_none e hD2)⟩
                  rw [show i + 1 + (m + 1) = i + 1 + m + 1 by omega, pk, List.map_append]
                  exact upd_same
                · exact ⟨keep fun z => e3 (by first | exact z.2 | rw [z.2]), s5⟩
              · exact ⟨keep fun z => e (by first | exact z.1 | rw [z.1]), s5⟩
            · rintro H5 ⟨hD5, s5⟩
              have e3 : i + 1 + (ns.length - (i + 1)) = ns.length := by omega
              rw [e3] at hD5
              generalize hjp : pick (fun j => decide (us[j]? = some (i : Int)) && decide (ws[j]? = some ((tn : Nat) : Int))) i ns.length = js at hD5
              have pw : js.Pairwise (· < ·) := hjp ▸ pick_pw _ _ _
              have hjs : ∀ j ∈ js, i < j ∧ j < ns.length := fun j hj => by
                have := pick_mem.mp (hjp ▸ hj)
                exact ⟨this.2.1, this.1⟩
              have ljs : esum rows + js.length ≤ 28 := by
                have := pick_add (g1 := fun j => decide (us[j]? = some (i : Int)) && decide (∃ w' : Int, ws[j]? = some w' ∧ w' < ((tn : Nat) : Int))) (g2 := fun j => decide (us[j]? = some (i : Int)) && decide (ws[j]? = some ((tn : Nat) : Int))) (g3 := fun _ => true) i (fun _ _ => rfl) (fun _ _ => rfl) (fun j z z2 => ?_) ns.length
                · have h2 := pick_len (fun _ => true) i ns.length
                  rw [hjp] at this
                  omega
                · rw [Bool.and_eq_true] at z z2
                  obtain ⟨w', h1, h2⟩ := of_decide_eq_true z.2
                  rw [of_decide_eq_true z2.2] at h1
                  have := Option.some.inj h1
                  omega
              walk_at "go"
              rename_i p5 hp5
              have s6 : Same H5 (upd H5 p5 (.lst [])) := fun c o e => upd_at e (ne_of_none e hp5)
              refine r_neNilI (s6 _ _ hD5) upd_same ?_
              generalize upd H5 p5 (.lst []) = H6 at s6 ⊢
              have s46 : Same H4 H6 := fun c o e => s6 _ _ (s5 _ _ e)
              have hD6 := s6 _ _ hD5
              have bx6 := bx4.same s46
              have hp7 := s46 _ _ hp4
              have hl6 := s46 _ _ hl4
              have hD6b := s46 _ _ hD4
              have hW6 := s46 _ _ hW4
              have hts7 : Paired (RwV H6) ts rows := RwV.all hts4 s46
              have kp7 : Kp a H H6 := fun c o e n => s46 _ _ (kp4 _ _ e n)
              clear hD5 s5 s6 hp5
              refine ⟨_, rfl, ite_b (fun e => ?_) fun e => ?_⟩
              · have e : js ≠ [] := by simpa using e
                walk_at "go"
                intro D3 hD3
                have nD3a : a ≠ D3 := bx6.ne hD3
                refine lc_it (walk_list (xs := js.map fun j : Nat => V.int j)) (fun m H' => ∃ xs qs, H' D3 = some (.lst xs) ∧ Paired (PrA H') xs qs ∧ Sel ns far (js.take m) qs ∧ Bx H' a (b + 20 + (28 - esum rows - m)) ∧ Kp a H6 H') ?_ ?_ ?_ ?_
                · refine ⟨[], [], upd_same, .nil, ?_, (bx6.mono (by omega)).upd nD3a, fun c o e n => upd_at e (ne_of_none e hD3)⟩
                  rw [List.take_zero]
                  exact Sel.nil
                · rintro m H' _ ⟨_, _, _, _, _, _, kp7⟩
                  exact SqL.of (kp7 _ _ hD6 nD2a.symm)
                · rintro m x _ H7 hm ⟨xs, qs, hD7, hxs, sel, bx7, kp7⟩ ⟨rfl, hx⟩
                  rw [List.length_map] at hm
                  rw [List.getElem?_map, List.getElem?_eq_getElem hm] at hx
                  obtain rfl := Option.some.inj hx
                  have hjm := hjs js[m] (List.getElem_mem hm)
                  have hl7 := kp7 _ _ hl6 nla
                  have lq := Paired.len hxs
                  have lsel := sel.len
                  rw [List.length_take] at lsel
                  walk_at "go"
                  refine ⟨rfl, r_yes (iteT ?_)⟩
                  walk_at "go"
                  refine r_ixL (SqL.of hl7) (atI_nat (List.getElem?_eq_getElem (by rw [List.length_map]; exact hjm.2))) ?_
                  rw [List.getElem_map]
                  walk_at "go"
                  refine ⟨a, b + 20 + (28 - esum rows - (m + 1)), far, rfl, by rw [show b + 20 + (28 - esum rows - (m + 1)) + 1 = b + 20 + (28 - esum rows - m) by omega]; exact bx7, f0, f1, fun d H8 d0 d1 bx8 kp8 => ?_⟩
                  walk_at "go"
                  rename_i pt hpt
                  have hD8 := kp8 _ _ hD7 nD3a.symm
                  have hxs8 : Paired (PrA H8) xs qs := Paired.mapP hxs fun _ _ z => z.kl (KL.bx kp8 bx7)
                  have s9 : Same H8 (upd H8 pt (.tup [V.str ns[js[m]], V.int (1 + d)])) := fun c o e => upd_at e (ne_of_none e hpt)
                  have hpt9 : upd H8 pt (.tup [V.str ns[js[m]], V.int (1 + d)]) pt = some (.tup [V.str ns[js[m]], V.int (1 + d)]) := upd_same
                  generalize upd H8 pt (.tup [V.str ns[js[m]], V.int (1 + d)]) = H9 at s9 hpt9 ⊢
                  refine ⟨xs, s9 _ _ hD8, szl (by omega), xs ++ [.ref pt], qs ++ [(ns[js[m]], 1 + d)], upd_same, pr_push (s9 _ _ hD8) (PrA.all hxs8 s9) ⟨pt, rfl, hpt9⟩, ?_, (bx8.same s9).upd nD3a, fun c o e n => ?_⟩
                  · rw [List.take_add_one, List.getElem?_eq_getElem hm]
                    exact sel.push (List.getElem?_eq_getElem hjm.2) (by omega) (by omega)
                  · exact upd_at (s9 _ _ (kp8 _ _ (kp7 _ _ e n) n)) (ne_of_none e hD3)
                · rintro H7 ⟨xs, qs, hD7, hxs, sel, bx7, kp67⟩
                  rw [List.length_map, List.take_length] at sel
                  rw [List.length_map] at bx7
                  walk_at "go"
                  have lqs := sel.len
                  have lxs := Paired.len hxs
                  refine ⟨D3, xs, qs, rfl, SqL.of hD7, hxs, by omega, fun pr ys qs2 H8 hpr hpr8 hys pm so s8 => ?_⟩
                  walk_at "go"
                  rename_i u1 hu1 u2 hu2
                  have lts := Paired.len hts7
                  have hrl : rows.length ≤ esum rows := esum_len fun r hr => (hrw r hr).elim (fun ⟨_, _, z⟩ => z.ne) fun z => z.1.ne
                  have s9 : Same H8 (upd (upd H8 u1 (.tup ys)) u2 (.tup [V.str own, V.ref u1])) := fun c o e => upd_at (upd_at e (ne_of_none e hu1)) (ne_of_none (upd_at e (ne_of_none e hu1)) hu2)
                  have n12 : u1 ≠ u2 := fun z => by rw [← z, upd_same] at hu2; cases hu2
                  have g1 : upd (upd H8 u1 (.tup ys)) u2 (.tup [V.str own, V.ref u1]) u1 = some (.tup ys) := upd_at upd_same n12
                  have g2 : upd (upd H8 u1 (.tup ys)) u2 (.tup [V.str own, V.ref u1]) u2 = some (.tup [V.str own, V.ref u1]) := upd_same
                  generalize upd (upd H8 u1 (.tup ys)) u2 (.tup [V.str own, V.ref u1]) = H9 at s9 g1 g2 ⊢
                  have s79 : Same H7 H9 := fun c o e => s9 _ _ (s8 _ _ e)
                  have hp9 := s79 _ _ (kp67 _ _ hp7 npa.symm)
                  have hts9 : Paired (RwV H9) ts rows := RwV.all (Paired.mapP hts7 fun _ _ z => RwV.kl z (KL.bx kp67 bx6)) s79
                  have rv : RwV H9 (.ref u2) (own, qs2) := ⟨u2, u1, ys, rfl, g2, g1, PrA.all hys s9⟩
                  have qne : qs ≠ [] := fun z => e (by rw [z] at lqs; exact List.eq_nil_of_length_eq_zero lqs.symm)
                  have rs : RowS ns far i (own, qs2) := RowS.of nd hown sel (fun j hj => (hjs j hj).1) pw qne pm so
                  have lq2 := pm.length_eq
                  refine ⟨p, ts, _, rfl, rfl, hp9, szl (by omega), ?_⟩
                  have hD9 := s79 _ _ (kp67 _ _ hD6b nDa.symm)
                  have hW9 := s79 _ _ (kp67 _ _ hW6 nWa.symm)
                  refine ⟨ts ++ [.ref u2], rows ++ [(own, qs2)], _, _, _, rfl, upd_at hD9 npD, upd_at hW9 npW, upd_same, rw_push hp9 hts9 rv, fun r hr => ?_, ?_, ?_, ?_, fun c o e n => upd_at (s79 _ _ (kp67 _ _ (kp7 _ _ e n) n)) (ne_of_none e hp0)⟩
                  · rcases List.mem_append.mp hr with z | z
                    · rcases hrw r z with z | z
                      · exact .inl z
                      · refine .inr ⟨z.1, fun p hp => ?_⟩
                        obtain ⟨j, w', h1, h2, h3⟩ := z.2 p hp
                        exact ⟨j, w', h1, h2, by omega⟩
                    · rw [List.mem_singleton.mp z]
                      refine .inr ⟨rs, fun p hp => ?_⟩
                      obtain ⟨j, h1, h2⟩ := sel.mem (pm.mem_iff.mp hp)
                      have h3 := (pick_mem.mp (hjp ▸ h1)).2.2
                      rw [Bool.and_eq_true] at h3
                      exact ⟨j, _, h2, of_decide_eq_true h3.2, by omega⟩
                  · refine List.nodup_append.mpr ⟨hnd, by simp, fun r hr r2 hr2 e3 => ?_⟩
                    rw [List.mem_singleton.mp hr2] at e3
                    rcases hrw r hr with ⟨k, h1, h2⟩ | ⟨h1, h2⟩
                    · have e4 := h2.hd
                      rw [e3] at e4
                      have := (List.getElem?_inj (List.getElem?_eq_some_iff.mp e4).1 nd).mp (e4.trans hown.symm)
                      omega
                    · rw [e3] at h2
                      obtain ⟨p0, hp0⟩ := List.exists_mem_of_ne_nil _ rs.ne
                      obtain ⟨j, w', g1, g2, g3⟩ := h2 p0 hp0
                      obtain ⟨j2, g4, g5⟩ := sel.mem (pm.mem_iff.mp hp0)
                      have := (List.getElem?_inj (List.getElem?_eq_some_iff.mp g1).1 nd).mp (g1.trans g5.symm)
                      have h3 := (pick_mem.mp (hjp ▸ g4)).2.2
                      rw [Bool.and_eq_true] at h3
                      have h4 := of_decide_eq_true h3.2
                      rw [← this, g2] at h4
                      have := Option.some.inj h4
                      omega
                  · rw [esum_app, esum_one]
                    show _ + qs2.length ≤ _
                    have := pick_add (g1 := fun j => decide (us[j]? = some (i : Int)) && decide (∃ w' : Int, ws[j]? = some w' ∧ w' < ((tn : Nat) : Int))) (g2 := fun j => decide (us[j]? = some (i : Int)) && decide (ws[j]? = some ((tn : Nat) : Int))) (g3 := fun j => decide (us[j]? = some (i : Int)) && decide (∃ w' : Int, ws[j]? = some w' ∧ w' < ((tn + 1 : Nat) : Int))) i (fun j z => ?_) (fun j z => ?_) (fun j z z2 => ?_) ns.length
                    · rw [hjp] at this
                      omega
                    · rw [Bool.and_eq_true] at z ⊢
                      obtain ⟨w', h1, h2⟩ := of_decide_eq_true z.2
                      exact ⟨z.1, decide_eq_true ⟨w', h1, by omega⟩⟩
                    · rw [Bool.and_eq_true] at z ⊢
                      exact ⟨z.1, decide_eq_true ⟨_, of_decide_eq_true z.2, by omega⟩⟩
                    · rw [Bool.and_eq_true] at z z2
                      obtain ⟨w', h1, h2⟩ := of_decide_eq_true z.2
                      rw [of_decide_eq_true z2.2] at h1
                      have := Option.some.inj h1
                      omega
                  · rw [esum_app, esum_one]
                    refine ((bx7.mono ?_).same s79).upd npa
                    show _ + 20 + (28 - (_ + qs2.length)) ≤ _
                    omega
              · refine ⟨ts, rows, _, _, _, rfl, hD6b, hW6, hp7, hts7, fun r hr => (hrw r hr).elim .inl fun z => .inr ⟨z.1, fun p hp => ?_⟩, hnd, ?_, bx6, kp7⟩
                · obtain ⟨j, w', h1, h2, h3⟩ := z.2 p hp
                  exact ⟨j, w', h1, h2, by omega⟩
                · refine Nat.le_trans hes (Nat.add_le_add_left ?_ _)
                  have := pick_add (g1 := fun j => decide (us[j]? = some (i : Int)) && decide (∃ w' : Int, ws[j]? = some w' ∧ w' < ((tn : Nat) : Int))) (g2 := fun _ => false) (g3 := fun j => decide (us[j]? = some (i : Int)) && decide (∃ w' : Int, ws[j]? = some w' ∧ w' < ((tn + 1 : Nat) : Int))) i (fun j z => ?_) (fun j z => nomatch z) (fun j z z2 => nomatch z2) ns.length
                  · omega
                  · rw [Bool.and_eq_true] at z ⊢
                    obtain ⟨w', h1, h2⟩ := of_decide_eq_true z.2
                    exact ⟨z.1, decide_eq_true ⟨w', h1, by omega⟩⟩
          · rintro σ H5 ⟨ts, rows, x8, x9, xa, rfl, hD5, hW5, hp5, hts5, hrw, hnd, hes, bx5, kp5⟩
            have := pick_len (fun j => decide (us[j]? = some (i : Int)) && decide (∃ w' : Int, ws[j]? = some w' ∧ w' < ((3 : Nat) : Int))) i ns.length
            exact ⟨ts, rows, _, _, _, _, _, rfl, hD5, hW5, hp5, hts5, fun r hr => (hrw r hr).elim (fun ⟨k, h1, h2⟩ => ⟨k, by omega, h2⟩) fun z => ⟨i, by omega, z.1⟩, hnd, by omega, bx5, kp5⟩
        · rintro σ H3 ⟨ts, rows, x6, x7, x8, x9, xa, rfl, hD3, hW3, hp3, hts, hrw, hnd, hes, bx3, kp3⟩
          walk_at "go"
          refine q p ts rows H3 hp0 hp3 hts ⟨fun r hr => let ⟨k, _, z⟩ := hrw r hr; ⟨k, z⟩, hnd, Nat.le_trans hes ?_⟩ (bx3.mono (by omega)) kp3
          rw [lm]
          exact tri8 _ ln _ (Nat.le_refl _)
end


theorem get1 (r : Option Int) (n : Int) : (r.map V.int).getD (V.int n) = V.int (r.getD n) := by cases r <;> rfl
section
variable {P : Program} {w : World} {K : PySem.W.Frag} {mg : Str → Option Value} {base : Heap}
abbrev sWorths : Stmt := top 40
theorem scWorths : FnScope ["_law_rows_so", "_law_worths_here", "_law_row", "_law_worth_so", "_law_own", "_law_far"] ["_law_rows_so"] (defScope sWorths) := ⟨rfl, rfl, rfl, by decide +kernel, rfl, by decide +kernel, by decide +kernel⟩
def spWorths (K : PySem.W.Frag) : Sp := fun vs H Q _ => ∃ (l : Addr) (ts : List V) (rows : List Row), vs = [.ref l] ∧ H l = some (.lst ts) ∧ Paired (RwV H) ts rows ∧ rows.length ≤ 60 ∧ (∀ r ∈ rows, r.2.length ≤ 60 ∧ ∀ p ∈ r.2, 0 < p.2 ∧ p.2 < 2 ^ 64) ∧
  ∀ (d : Addr) (m : AL) (H' : Hp), H d = none → H' d = some (.dK (enc m)) → (keys m).Nodup → m.length ≤ rows.length → Same H H' → Q (.ref d) H'
theorem ok_worths {f : Addr} {fd : FuncData} (F : Fun K "_law_worths" "_law_worths" sWorths f fd) (T : Txt K mg) : FnOk P w K mg base CX0 1 f fd ["_law_rows_so"] (spWorths K) := by
  refine F.ok scWorths (fun vs H Q E h => ?_) (fun cdv A outer s H vs Q E hr h => ?_)
  · obtain ⟨l, ts, rows, rfl, _⟩ := h
    rfl
  · obtain ⟨l, ts, rows, rfl, hl, hts, lr, l60, q⟩ := h
    have hu := hu_of hr
    refine ⟨_, (pss_cons (ps_set (i := 1) scWorths.nd rfl (Or.inr rfl) pe_dnewK)
  (pss_cons (ps_for PassesOwn.never rfl (pi_list (pe_revL (pv 0))) (pg_name (i := 2) scWorths.nd rfl (Or.inl rfl))
  (pss_cons (ps_set (i := 3) scWorths.nd rfl (Or.inl rfl) (pe_op op_add pe_int (pe_callB (cr_sum rfl) (by rfl) T.sum (by decide +kernel) (pa_cons (pe_lc (own := [("_law_own", 4), ("_law_far", 5)]) (g := gTup _ 2 (gCons (gName 4) (gCons (gName 5) gNil))) (tt := tYes) rfl scWorths.nd (pi_tup (pe_ix ix_tup (pv 2) pe_int (fun _ _ => rfl))) (blkOk_by (N := ["_law_rows_so", "_law_worths_here", "_law_row", "_law_worth_so", "_law_own", "_law_far"]) (sc := defScope sWorths) (by decide +kernel)) (fun _ _ _ _ _ => (pg_tup rfl (pgs_cons (pg_name (i := 4) scWorths.nd rfl (Or.inl rfl)) (pgs_cons (pg_name (i := 5) scWorths.nd rfl (Or.inl rfl)) pgs_nil)))) (fun _ _ _ _ _ => pts_nil) (fun _ _ _ _ _ => (pe_op op_mul (pv 5) (pe_dget2 hu (pv 1) (pv 4) pe_int ⟨rfl, rfl, rfl, rfl⟩)))) pa_nil))))
  (pss_one (ps_if (pt_cmpR op_gt (pv 3) (pe_dget2 hu (pv 1) (pe_ix ix_tup (pv 2) pe_int (fun _ _ => rfl)) pe_int ⟨rfl, rfl, rfl, rfl⟩) (nomark _))
  (pss_one (ps_dput hu (pv 1) (pe_ix ix_tup (pv 2) pe_int (fun _ _ => rfl)) (pv 3) rfl))
  pss_nil))))
  (pss_one (ps_ret (pv 1))))), ?_⟩
    walk_at "in"
    walk_at "go"
    rename_i d hd
    refine ⟨_, rfl, l, ts, rfl, SqL.of (upd_at hl (ne_of_none hl hd)), fun rl hrl => ?_⟩
    have lts := Paired.len hts
    have nd' : d ≠ rl := fun z => by rw [← z, upd_same] at hrl; cases hrl
    have s0 : Same H (upd (upd H d (.dK [])) rl (.lst ts.reverse)) := fun c o e => upd_at (upd_at e (ne_of_none e hd)) (ne_of_none (upd_at e (ne_of_none e hd)) hrl)
    have hrl0 : H rl = none := by rw [upd_ne (Ne.symm nd')] at hrl; exact hrl
    have hr1 : upd (upd H d (.dK [])) rl (.lst ts.reverse) rl = some (.lst ts.reverse) := upd_same
    have hd1 : upd (upd H d (.dK [])) rl (.lst ts.reverse) d = some (.dK (enc [])) := upd_at upd_same nd'
    generalize upd (upd H d (.dK [])) rl (.lst ts.reverse) = H1 at s0 hr1 hd1 ⊢
    refine ⟨rl, rfl, ⟨_, SqL.of hr1⟩, ?_⟩
    refine for_it (walk_list (xs := ts.reverse)) (fun i σ H' => ∃ (m : AL) (x2 x3 x4 x5 : Option V), σ = [some (.ref l), some (.ref d), x2, x3, x4, x5] ∧ H' d = some (.dK (enc m)) ∧ (keys m).Nodup ∧ m.length ≤ i ∧ Kp d H1 H') ?_ ?_ ?_ ?_
    · exact ⟨[], _, _, _, _, rfl, hd1, List.nodup_nil, Nat.le_refl _, fun _ _ e _ => e⟩
    · rintro i σ H' _ ⟨_, _, _, _, _, _, _, _, _, k1⟩
      exact SqL.of (k1 _ _ hr1 (Ne.symm nd'))
    · rintro i x σ _ H2 hi ⟨m, x2, x3, x4, x5, rfl, hm, nd, lm, k1⟩ ⟨rfl, hx⟩
      rw [List.length_reverse] at hi
      have hx : ts[ts.length - 1 - i]? = some x := by rw [← hx, List.getElem?_reverse hi]
      obtain ⟨r, hr2, t, u, xs, rfl, e1, e2, e3⟩ := Paired.at hts hx
      have hrm := l60 r (List.mem_of_getElem? hr2)
      have kk : ∀ {c : Addr} {o : HO}, H c = some o → H2 c = some o := fun {c o} e => k1 _ _ (s0 _ _ e) (ne_of_none e hd)
      have e1 := kk e1
      have e2 := kk e2
      have e3 : Paired (PrA H2) xs r.2 := Paired.mapP e3 fun _ _ ⟨z, h1, h2⟩ => ⟨z, h1, kk h2⟩
      have lxs := Paired.len e3
      walk_at "go"
      refine r_ixT (SqT.of e1) (atI_nat (j := 1) rfl) ?_
      refine ⟨u, rfl, ⟨_, SqT.of e2⟩, ?_⟩
      intro D hD
      refine lc_it (walk_tup (xs := xs)) (fun j H' => ∃ ns : List Int, H' D = some (.lst (ns.map V.int)) ∧ ns.length = j ∧ Same H2 H') ?_ ?_ ?_ ?_
      · exact ⟨[], upd_same, rfl, fun c o e => upd_at e (ne_of_none e hD)⟩
      · rintro j H' _ ⟨_, _, _, s3⟩
        exact SqT.of (s3 _ _ e2)
      · rintro j x _ H3 hj ⟨ns, hD3, lns, s3⟩ ⟨rfl, hx⟩
        obtain ⟨p, hp, t2, rfl, ht2⟩ := Paired.at e3 hx
        have ht3 := s3 _ _ ht2
        have hm3 := s3 _ _ hm
        have hpp := hrm.2 p (List.mem_of_getElem? hp)
        walk_at "go"
        refine ⟨rfl, r_yes (iteT ?_)⟩
        walk_at "go"
        refine ⟨Or.inl ⟨enc m, Or.inl hm3⟩, ?_⟩
        walk_at "go"
        refine ⟨_, DGet_enc (r := look m p.1) (Or.inl hm3) rfl, ?_⟩
        rw [get1]
        walk_at "go"
        refine ⟨ns.map V.int, hD3, szl (by rw [List.length_map]; omega), ns ++ [p.2 * (look m p.1).getD 1], by rw [List.map_append]; exact upd_same, by rw [List.length_append, lns]; rfl, fun c o e => upd_at (s3 _ _ e) (ne_of_none e hD)⟩
      · rintro H3 ⟨ns, hD3, lns, s3⟩
        have hm3 := s3 _ _ hm
        have e13 := s3 _ _ e1
        walk_at "go"
        refine r_sum (SqL.of hD3) ?_
        walk_at "go"
        refine ⟨Or.inl ⟨enc m, Or.inl hm3⟩, ?_⟩
        walk_at "go"
        refine r_ixT (SqT.of e13) (atI_nat (j := 0) rfl) ?_
        walk_at "go"
        refine ⟨_, DGet_enc (r := look m r.1) (Or.inl hm3) rfl, ?_⟩
        rw [get1]
        walk_at "go"
        refine ite_d (fun _ => ?_) fun _ => ?_
        · walk_at "go"
          refine r_ixT (SqT.of e13) (atI_nat (j := 0) rfl) ?_
          refine ⟨d, _, rfl, DPut_enc hm3 (szl (by omega)), put m r.1 (1 + ns.sum), _, _, _, _, rfl, upd_same, put_nodup nd, ?_, fun c o e n => ?_⟩
          · have := put_len m r.1 (1 + ns.sum)
            omega
          · rw [upd_ne n]
            exact s3 _ _ (k1 _ _ e n)
        · exact ⟨m, _, _, _, _, rfl, hm3, nd, by omega, fun c o e n => s3 _ _ (k1 _ _ e n)⟩
    · rintro σ H2 ⟨m, x2, x3, x4, x5, rfl, hm, nd, lm, k1⟩
      walk_at "go"
      rw [List.length_reverse, lts] at lm
      exact q d m H2 hd hm nd lm fun c o e => k1 _ _ (s0 _ _ e) (ne_of_none e hd)
end


theorem put_mem {m : AL} {k : Str} {n : Int} {p : Str × Int} (h : p ∈ put m k n) : p = (k, n) ∨ p ∈ m := by
  unfold put at h
  split at h
  · obtain ⟨q, hq, e⟩ := List.mem_map.mp h
    split at e
    · next c => rw [← e, c]; exact .inl rfl
    · rw [← e]; exact .inr hq
  · rcases List.mem_append.mp h with z | z
    · exact .inr z
    · exact .inl (List.mem_singleton.mp z)
section
variable {P : Program} {w : World} {K : PySem.W.Frag} {mg : Str → Option Value} {base : Heap}
abbrev sPieces : Stmt := top 39
theorem scPieces : FnScope ["_law_box_here", "_law_names_here", "_law_worths_here", "_law_most", "_law_some", "_law_turn", "_law_got", "_law_left", "_law_own"] ["_law_box_here", "_law_names_here", "_law_worths_here", "_law_most", "_law_some"] (defScope sPieces) := ⟨rfl, rfl, rfl, by decide +kernel, rfl, by decide +kernel, by decide +kernel⟩
def spPieces : Sp := fun vs H Q _ => ∃ (a l d : Addr) (ns : List Str) (m : AL) (b n : Nat) (most : Int), vs = [.ref a, .ref l, .ref d, .int most, .int n] ∧ Bx H a (b + n) ∧ H l = some (.lst (ns.map V.str)) ∧ l ≠ a ∧ ns ≠ [] ∧ ns.length ≤ 1000 ∧ H d = some (.dK (enc m)) ∧ n ≤ 30 ∧
  ∀ (p : Addr) (ts : List V) (qs : AL) (H' : Hp), H p = none → H' p = some (.tup ts) → Paired (PrA H') ts qs → (keys qs).Nodup → qs.Pairwise (fun a b => ple a b = true) → (∀ p ∈ qs, 0 < p.2 ∧ p.2 ≤ n ∧ p.1 ∈ ns) → qs.length ≤ n → Bx H' a b → Kp a H H' → Q (.ref p) H'
theorem ok_pieces {f : Addr} {fd : FuncData} (F : Fun K "_law_pieces" "_law_pieces" sPieces f fd) (T : Txt K mg) (Co : Cal P w K mg base CX0 2 "_law_of" ["_law_box_here", "_law_some"] spOf) (Cp : Cal P w K mg base CX0 2 "_law_pairs" ["_law_numbers_so"] spPairs) : FnOk P w K mg base CX0 3 f fd ["_law_box_here", "_law_names_here", "_law_worths_here", "_law_most", "_law_some"] spPieces := by
  refine F.ok scPieces (fun vs H Q E h => ?_) (fun cdv A outer s H vs Q E hr h => ?_)
  · obtain ⟨a, l, d, ns, m, b, n, most, rfl, _⟩ := h
    rfl
  · obtain ⟨a, l, d, ns, m, b, n, most, rfl, hb, hl, nla, nne, nl, hd, hn, q⟩ := h
    have hu := hu_of hr
    have nda : d ≠ a := fun z => by obtain ⟨_, _, _, e, _⟩ := hb; rw [z, e] at hd; cases hd
    refine ⟨_, (pss_cons (ps_par (i := 6) (j := 7) rfl scPieces.nd rfl rfl (by decide) rfl rfl (pa_cons pe_dnewK (pa_cons (pv 3) pa_nil)) (by rfl))
  (pss_cons (ps_for PassesOwn.never rfl (pi_range1 rfl T.range (pa_cons (pv 4) pa_nil)) (pg_name (i := 5) scPieces.nd rfl (Or.inl rfl))
  (pss_cons (ps_set (i := 8) scPieces.nd rfl (Or.inl rfl) (pe_cal Co (hr.mono (by decide)) pass0 (pa_cons (pv 0) (pa_cons (pv 1) pa_nil))))
  (pss_one (ps_if (pt_cmpR op_le (pe_dget2 hu (pv 2) (pv 8) pe_int ⟨rfl, rfl, rfl, rfl⟩) (pv 7) (nomark _))
  (pss_cons (ps_dput hu (pv 6) (pv 8) (pe_op op_add (pe_dget2 hu (pv 6) (pv 8) pe_int ⟨rfl, rfl, rfl, rfl⟩) pe_int) rfl)
  (pss_one (ps_set (i := 7) scPieces.nd rfl (Or.inl rfl) (pe_op op_sub (pv 7) (pe_dget2 hu (pv 2) (pv 8) pe_int ⟨rfl, rfl, rfl, rfl⟩)))))
  pss_nil))))
  (pss_one (ps_ret (pe_cal Cp (hr.mono (by decide)) pass0 (pa_cons (pv 6) pa_nil)))))), ?_⟩
    walk_at "in"
    walk_at "go"
    rename_i g hg
    have nga : a ≠ g := hb.ne hg
    have s0 : Same H (upd H g (.dK [])) := fun c o e => upd_at e (ne_of_none e hg)
    have hg1 : upd H g (.dK []) g = some (.dK (enc [])) := upd_same
    have bx1 := hb.same s0
    generalize upd H g (.dK []) = H1 at s0 hg1 bx1 ⊢
    have hl1 := s0 _ _ hl
    have hd1 := s0 _ _ hd
    have ndg : d ≠ g := ne_of_none hd hg
    refine for_it (walk_range (n := n)) (fun i σ H' => ∃ (mg : AL) (left : Int) (x5 x8 : Option V), σ = [some (.ref a), some (.ref l), some (.ref d), some (.int most), some (.int n), x5, some (.ref g), some (.int left), x8] ∧ H' g = some (.dK (enc mg)) ∧ (keys mg).Nodup ∧ (∀ p ∈ mg, 0 < p.2 ∧ p.2 ≤ i ∧ p.1 ∈ ns) ∧ mg.length ≤ i ∧ Bx H' a (b + (n - i)) ∧ (∀ c o, H1 c = some o → c ≠ a → c ≠ g → H' c = some o)) ?_ (fun _ _ _ _ _ => trivial) ?_ ?_
    · exact ⟨[], most, _, _, rfl, hg1, List.nodup_nil, fun _ h => (nomatch h), Nat.le_refl _, bx1, fun _ _ e _ _ => e⟩
    · rintro i x σ _ H2 hi ⟨mg, left, x5, x8, rfl, hg2, nd, hmg, lmg, bx2, kp2⟩ ⟨rfl, rfl⟩
      have nlg : l ≠ g := ne_of_none hl hg
      have hl2 := kp2 _ _ hl1 nla nlg
      have hd2 := kp2 _ _ hd1 nda ndg
      walk_at "go"
      refine ⟨a, l, b + (n - (i + 1)), ns.map V.str, rfl, by rw [show b + (n - (i + 1)) + 1 = b + (n - i) by omega]; exact bx2, hl2, nla, by rw [List.length_map]; exact List.length_pos_iff.mpr nne, by rw [List.length_map]; exact nl, fun x j H3 hx bx3 kp3 => ?_⟩
      obtain ⟨own, rfl, hown⟩ := map_some hx
      have hown := List.mem_of_getElem? hown
      have hg3 := kp3 _ _ hg2 nga.symm
      have hd3 := kp3 _ _ hd2 nda
      walk_at "go"
      refine ⟨Or.inl ⟨enc m, Or.inl hd3⟩, ?_⟩
      walk_at "go"
      refine ⟨_, DGet_enc (r := look m own) (Or.inl hd3) rfl, ?_⟩
      rw [get1]
      walk_at "go"
      refine ite_d (fun _ => ?_) fun _ => ?_
      · walk_at "go"
        refine ⟨Or.inl ⟨enc mg, Or.inl hg3⟩, ?_⟩
        walk_at "go"
        refine ⟨_, DGet_enc (r := look mg own) (Or.inl hg3) rfl, ?_⟩
        rw [get_look]
        walk_at "go"
        refine ⟨g, _, rfl, DPut_enc hg3 (szl (by omega)), ?_⟩
        have hd4 : upd H3 g (.dK (enc (put mg own (get mg own + 1)))) d = some (.dK (enc m)) := upd_at hd3 ndg
        walk_at "go"
        refine ⟨Or.inl ⟨enc m, Or.inl hd4⟩, ?_⟩
        walk_at "go"
        refine ⟨_, DGet_enc (r := look m own) (Or.inl hd4) rfl, ?_⟩
        rw [get1]
        walk_at "go"
        refine ⟨put mg own (get mg own + 1), _, _, _, rfl, upd_same, put_nodup nd, fun p hp => ?_, ?_, bx3.upd nga, fun c o e n1 n2 => ?_⟩
        · rcases put_mem hp with z | z
          · rw [z]
            have h0 : 0 ≤ get mg own ∧ get mg own ≤ i := by
              unfold get
              cases e : look mg own with
              | none => exact ⟨Int.le_refl _, Int.natCast_nonneg i⟩
              | some v =>
                have := hmg _ ((look_mem nd).mp e)
                exact ⟨Int.le_of_lt this.1, this.2.1⟩
            exact ⟨by show 0 < get mg own + 1; omega, by show get mg own + 1 ≤ _; omega, hown⟩
          · have := hmg p z
            exact ⟨this.1, by omega, this.2.2⟩
        · have := put_len mg own (get mg own + 1)
          omega
        · rw [upd_ne n2]
          exact kp3 _ _ (kp2 _ _ e n1 n2) n1
      · exact ⟨mg, left, _, _, rfl, hg3, nd, fun p hp => by have := hmg p hp; exact ⟨this.1, by omega, this.2.2⟩, by omega, bx3, fun c o e n1 n2 => kp3 _ _ (kp2 _ _ e n1 n2) n1⟩
    · rintro σ H2 ⟨mg, left, x5, x8, rfl, hg2, nd, hmg, lmg, bx2, kp2⟩
      walk_at "go"
      refine ⟨g, mg, rfl, hg2, nd, by omega, fun p ts qs H3 hp hp3 hts cn s3 => ?_⟩
      have kp : Kp a H H3 := fun c o e n1 => s3 _ _ (kp2 _ _ (s0 _ _ e) n1 (ne_of_none e hg))
      have inm : ∀ p ∈ qs, p ∈ mg := fun p hp => (List.mem_filter.mp (cn.1.mem_iff.mp hp)).1
      have sub : (pos mg).Sublist mg := List.filter_sublist
      refine q p ts qs H3 ?_ hp3 hts ?_ cn.2 (fun p hp => hmg p (inm p hp)) ?_ ((bx2.mono (by omega)).same s3) kp
      · cases e : H p with
        | none => rfl
        | some o =>
          have hpa : p ≠ a := fun z => by
            obtain ⟨_, _, _, e2, _⟩ := bx2
            rw [z, e2] at hp
            cases hp
          have := kp2 _ _ (s0 _ _ e) hpa (ne_of_none e hg)
          rw [hp] at this
          cases this
      · exact (cn.1.map fun p : Str × Int => p.1).nodup_iff.mpr ((sub.map fun p : Str × Int => p.1).nodup nd)
      · have h1 := cn.1.length_eq
        have h2 := sub.length_le
        omega
end


theorem hu65 {k : Nat} {A : Around} (h : Room k A) : A.units + 65 < cLine := by
  have := h.un
  omega
/-- a tuple of pairs -/
def FrV (H : Hp) (v : V) (qs : AL) : Prop := ∃ (u : Addr) (ts : List V), v = .ref u ∧ H u = some (.tup ts) ∧ Paired (PrA H) ts qs
theorem FrV.kl {H H' : Hp} {v : V} {qs : AL} (h : FrV H v qs) (k : KL H H') : FrV H' v qs := by
  obtain ⟨u, ts, e, h1, h2⟩ := h
  exact ⟨u, ts, e, k _ _ h1 (fun _ z => by cases z), Paired.mapP h2 fun _ _ z => z.kl k⟩
theorem fr_all {K : PySem.W.Frag} {H : Hp} : ∀ {vs : List V} {qss : List AL}, Paired (FrV H) vs qss → DpAll K H vs (qss.map pd)
  | _, _, .nil => .nil
  | _, _, .cons ⟨u, ts, e, h1, h2⟩ r => by subst e; exact .cons (dp_pairs h1 h2) (fr_all r)
theorem can_prs : ∀ {qss : List AL}, (∀ qs ∈ qss, ∀ p ∈ qs, KindS p.1) → (PyData.list (qss.map pd)).canLay0 = true
  | [], _ => rfl
  | q :: r, h => by
    have h1 := can_pd (h q List.mem_cons_self)
    have h2 := can_prs (qss := r) fun qs hq => h qs (List.mem_cons_of_mem _ hq)
    rw [List.map_cons]
    exact (Bool.and_eq_true _ _).mpr ⟨h1, h2⟩
theorem depth_prs : ∀ (qss : List AL), PyData.depthAll (qss.map pd) ≤ 2
  | [] => Nat.zero_le _
  | q :: r => by
    have h1 := depth_pd q
    have h2 := depth_prs r
    rw [List.map_cons]
    show max (PyData.depthAll (q.map pd1) + 1) (PyData.depthAll (r.map pd)) ≤ 2
    omega
theorem shaped_prs {qss : List AL} (h : ∀ qs ∈ qss, ∀ p ∈ qs, KindS p.1) : SeqAt.shaped (.list (qss.map pd)) = true := by
  unfold SeqAt.shaped
  rw [can_prs h, Bool.true_and]
  refine decide_eq_true ?_
  show PyData.depthAll (qss.map pd) + 1 ≤ 64
  have := depth_prs qss
  omega
theorem r_neNilT {K : PySem.W.Frag} {H : Hp} {Q : VK} {D p : Addr} {xs : List V} {qs : AL} (hD : H D = some (.tup xs)) (hx : Paired (PrA H) xs qs) (ks : ∀ p ∈ qs, KindS p.1) (hp : H p = some (.tup [])) (q : Q (.bl (!decide (qs = []))) H) : rNeD K (.ref D) (.ref p) H Q := by
  refine ⟨pd qs, .tuple [], dp_pairs hD hx, .tup (SqT.of hp) .nil, shaped_pd ks, by decide, ?_⟩
  have e : PyData.eqv (pd qs) (.tuple []) = decide (qs = []) := by
    cases qs with
    | nil => rfl
    | cons a r => rfl
  rw [e]
  exact q
theorem any_not {qss : List AL} {qs : AL} (h : (!(qss.map pd).any fun z => PyData.eqv z (pd qs)) = true) : qs ∉ qss := fun hm => by
  have : ((qss.map pd).any fun z => PyData.eqv z (pd qs)) = true := List.any_eq_true.mpr ⟨pd qs, List.mem_map.mpr ⟨qs, hm, rfl⟩, eqv_selfP _ (by show plD0 (PyData.tuple (qs.map pd1)) = true; exact plD0_pd qs)⟩
  rw [this] at h
  cases h
theorem kp_free {a p : Addr} {b : Nat} {H H' : Hp} (k : Kp a H H') (bx : Bx H' a b) (h : H' p = none) : H p = none := by
  cases e : H p with
  | none => rfl
  | some o =>
    have := k _ _ e (bx.ne h).symm
    rw [h] at this
    cases this
theorem esum_le {c : Nat} : ∀ {rows : List Row}, (∀ r ∈ rows, r.2.length ≤ c) → esum rows ≤ rows.length * c
  | [], _ => Nat.zero_le _
  | r :: rs, h => by
    have h1 := h r List.mem_cons_self
    have h2 := esum_le (rows := rs) fun x hx => h x (List.mem_cons_of_mem _ hx)
    rw [esum_cons, List.length_cons, Nat.add_mul]
    omega
theorem RowS.of2 {ns : List Str} {far : Int} {k : Nat} {own : Str} {qs : AL} (hk : ns[k]? = some own) (ne : qs ≠ []) (kn : (keys qs).Nodup) (so : qs.Pairwise fun a b => ple a b = true) (h : ∀ p ∈ qs, 0 < p.2 ∧ p.2 ≤ far ∧ p.1 ∈ ns.drop (k + 1)) : RowS ns far k (own, qs) := by
  refine ⟨hk, ne, ?_, fun p hp => ?_⟩
  · have h2 := List.Pairwise.and so (List.pairwise_map.mp kn)
    exact List.pairwise_map.mpr (List.Pairwise.imp (fun {a b} z => ple_lt z.1 z.2) h2)
  · obtain ⟨h1, h2, h3⟩ := h p hp
    obtain ⟨j, hj⟩ := List.mem_iff_getElem?.mp h3
    rw [List.getElem?_drop] at hj
    exact ⟨h1, h2, k + 1 + j, by omega, hj⟩
def Rng3 (R : It → Hp → Prop) (vs : List V) (H : Hp) : Prop := ∃ (i j c : Int) (n : Nat), vs = [.int i, .int j, .int c] ∧ RgC i j c n ∧ R (Itc i c n) H
theorem r_iRng3 {ta : TA} {σ : L2.St} {H : Hp} {R : It → Hp → Prop} (h : ta σ H (Rng3 R)) : iRng3 ta σ H R := h
section
variable {P : Program} {w : World} {K : PySem.W.Frag} {mg : Str → Option Value} {base : Heap}
abbrev sSmall : Stmt := top 41
theorem scSmall : FnScope ["_law_box_here", "_law_names_here", "_law_rows_so", "_law_k", "_law_turn", "_law_worths_here", "_law_fresh", "_law_inner"] ["_law_box_here", "_law_names_here"] (defScope sSmall) := ⟨rfl, rfl, rfl, by decide +kernel, rfl, by decide +kernel, by decide +kernel⟩
def spSmall : Sp := fun vs H Q _ => ∃ (a l : Addr) (ns : List Str) (b : Nat), vs = [.ref a, .ref l] ∧ Bx H a (b + 100) ∧ H l = some (.lst (ns.map V.str)) ∧ l ≠ a ∧ ns.Nodup ∧ (∀ k ∈ ns, KindS k) ∧ ns.length ≤ 8 ∧
  ∀ (p : Addr) (ts : List V) (rows : List Row) (H' : Hp), H p = none → H' p = some (.lst ts) → Paired (RwV H') ts rows → Drawn ns 3 rows → Bx H' a b → Kp a H H' → Q (.ref p) H'
theorem ok_small {f : Addr} {fd : FuncData} (F : Fun K "_law_small" "_law_small" sSmall f fd) (T : Txt K mg) (Ct : Cal P w K mg base CX0 1 "_law_take" ["_law_box_here", "_law_below"] spTake) (Cw : Cal P w K mg base CX0 1 "_law_worths" ["_law_rows_so"] (spWorths K)) (Cp : Cal P w K mg base CX0 3 "_law_pieces" ["_law_box_here", "_law_names_here", "_law_worths_here", "_law_most", "_law_some"] spPieces) : FnOk P w K mg base CX0 4 f fd ["_law_box_here", "_law_names_here"] spSmall := by
  refine F.ok scSmall (fun vs H Q E h => ?_) (fun cdv A outer s H vs Q E hr h => ?_)
  · obtain ⟨a, l, ns, b, rfl, _⟩ := h
    rfl
  · obtain ⟨a, l, ns, b, rfl, hb, hl, nla, nd, ks, ln, q⟩ := h
    refine ⟨_, (pss_cons (ps_set (i := 2) scSmall.nd rfl (Or.inl rfl) (pe_lst pa_nil))
  (pss_cons (ps_for PassesOwn.never rfl (pi_range3 rfl T.range (pa_cons (pe_op op_sub (pe_callB c_lenL (by rfl) T.len (by decide +kernel) (pa_cons (pv 1) pa_nil)) pe_int) (pa_cons (pe_un un_neg pe_int) (pa_cons (pe_un un_neg pe_int) pa_nil)))) (pg_name (i := 3) scSmall.nd rfl (Or.inr rfl))
  (pss_cons (ps_par (i := 5) (j := 6) rfl scSmall.nd rfl rfl (by decide) rfl rfl (pa_cons (pe_cal Cw (hr.mono (by decide)) pass0 (pa_cons (pv 2) pa_nil)) (pa_cons (pe_lst pa_nil) pa_nil)) (by rfl))
  (pss_cons (ps_for PassesOwn.never rfl (pi_range1 rfl T.range (pa_cons (pe_cal Ct (hr.mono (by decide)) pass0 (pa_cons (pv 0) (pa_cons pe_int pa_nil))) pa_nil)) (pg_name (i := 4) scSmall.nd rfl (Or.inl rfl))
  (pss_cons (ps_set (i := 7) scSmall.nd rfl (Or.inl rfl) (pe_cal Cp (hr.mono (by decide)) pass0 (pa_cons (pv 0) (pa_cons (pe_slice sl_list (pv 1) (po_some (pe_op op_add (pv 3) pe_int)) po_none) (pa_cons (pv 5) (pa_cons pe_int (pa_cons (pe_op op_add pe_int (pe_cal Ct (hr.mono (by decide)) pass0 (pa_cons (pv 0) (pa_cons pe_int pa_nil)))) pa_nil)))))))
  (pss_one (ps_if (PW.pt (pw_and (pt_cmpR (op_neD (hu64 hr)) (pv 7) (pe_tup pa_nil) (nomark _)) (pw_and (pt_cmpR (op_notInD (hu65 hr)) (pv 7) (pv 6) (by rfl)) (pw_and1 (pt_cmpR op_lt (pe_op op_add (pe_callB c_lenL (by rfl) T.len (by decide +kernel) (pa_cons (pv 2) pa_nil)) (pe_callB c_lenL (by rfl) T.len (by decide +kernel) (pa_cons (pv 6) pa_nil))) pe_int (nomark _))))))
  (pss_one (ps_expr (pe_bm PySem.F.plainAttrs_list PySem.F.slot_list_append PySem.F.type_list_append mt_append (pv 6) (pa_cons (pv 7) pa_nil))))
  pss_nil))))
  (pss_one (ps_set (i := 2) scSmall.nd rfl (Or.inl rfl) (pe_op op_cat (pe_lc (own := [("_law_inner", 7)]) (g := gName 7) (tt := tYes) rfl scSmall.nd (pi_list (pv 6)) (blkOk_by (N := ["_law_box_here", "_law_names_here", "_law_rows_so", "_law_k", "_law_turn", "_law_worths_here", "_law_fresh", "_law_inner"]) (sc := defScope sSmall) (by decide +kernel)) (fun _ _ _ _ _ => (pg_name (i := 7) scSmall.nd rfl (Or.inl rfl))) (fun _ _ _ _ _ => pts_nil) (fun _ _ _ _ _ => (pe_tup (pa_cons (pe_ix (ixK (r := rIxL) K ix_list) (pv 1) (pv 3) (fun _ _ => rfl)) (pa_cons (pv 7) pa_nil))))) (pv 2)))))))
  (pss_one (ps_ret (pv 2))))), ?_⟩
    walk_at "in"
    walk_at "go"
    rename_i R hR
    have naR : a ≠ R := hb.ne hR
    have s0 : Same H (upd H R (.lst [])) := fun c o e => upd_at e (ne_of_none e hR)
    have hR1 : upd H R (.lst []) R = some (.lst []) := upd_same
    have bx1 := hb.same s0
    generalize upd H R (.lst []) = H1 at s0 hR1 bx1 ⊢
    have lm : (ns.map V.str).length = ns.length := List.length_map _
    have hl1 := s0 _ _ hl
    refine r_iRng3 ?_
    walk_at "go"
    refine ⟨_, _, _, _, rfl, RgC.neg (by omega) (by omega) (by omega) (by omega), ?_⟩
    have e1 : (((ns.map V.str).length : Nat) - 2 - (-1) : Int).toNat = ns.length - 1 := by rw [lm]; omega
    rw [e1]
    refine for_it (walk_rangeC (n := ns.length - 1)) (fun i σ H' => ∃ (R : Addr) (ts : List V) (rows : List Row) (x3 x4 x5 x6 x7 : Option V), σ = [some (.ref a), some (.ref l), some (.ref R), x3, x4, x5, x6, x7] ∧ R ≠ a ∧ H R = none ∧ H' R = some (.lst ts) ∧ Paired (RwV H') ts rows ∧ (∀ r ∈ rows, r.2.length ≤ 3 ∧ ∃ k, ns.length - 1 ≤ k + i ∧ RowS ns 3 k r) ∧ rows.Nodup ∧ rows.length ≤ 7 ∧ Bx H' a (b + 10 * (8 - i)) ∧ Kp a H H') ?_ (fun _ _ _ _ _ => trivial) ?_ ?_
    · exact ⟨R, [], [], _, _, _, _, _, rfl, naR.symm, hR, hR1, .nil, fun _ h => (nomatch h), List.nodup_nil, Nat.zero_le _, bx1.mono (by omega), fun c o e _ => s0 _ _ e⟩
    · clear hR1 bx1 hl1 s0 hR naR
      rintro i x σ _ H2 hi ⟨R, ts, rows, x3, x4, x5, x6, x7, rfl, nRa, hR, hR2, hts, hrw, hnd, hlen, bx2, kp2⟩ ⟨rfl, rfl⟩
      have hl2 := kp2 _ _ hl nla
      obtain ⟨k, hk⟩ : ∃ k : Nat, k + 2 + i = ns.length := ⟨ns.length - 2 - i, by omega⟩
      have ek : (((ns.map V.str).length : Nat) : Int) - 2 + (i : Nat) * (-1) = (k : Nat) := by rw [lm]; omega
      dsimp only
      rw [ek]
      walk_at "go"
      refine ⟨R, ts, rows, rfl, hR2, hts, by omega, fun r hr => ⟨by have := (hrw r hr).1; omega, fun p hp => ?_⟩, fun d m H3 hd hd3 ndm lmm s3 => ?_⟩
      · obtain ⟨_, k2, _, z⟩ := hrw r hr
        have := z.ps p hp
        exact ⟨this.1, by omega⟩
      have bx3 := bx2.same s3
      have nda : d ≠ a := (bx2.ne hd).symm
      walk_at "go"
      rename_i F0 hF0
      have naF0 : a ≠ F0 := bx3.ne hF0
      have s4 : Same H3 (upd H3 F0 (.lst [])) := fun c o e => upd_at e (ne_of_none e hF0)
      have hF4 : upd H3 F0 (.lst []) F0 = some (.lst []) := upd_same
      have ndF : d ≠ F0 := ne_of_none hd3 hF0
      generalize upd H3 F0 (.lst []) = H4 at s4 hF4 ⊢
      have bx4 := bx3.same s4
      have hd4 := s4 _ _ hd3
      have s24 : Same H2 H4 := fun c o e => s4 _ _ (s3 _ _ e)
      have hR4 := s24 _ _ hR2
      have hl4 := s24 _ _ hl2
      have hts4 := RwV.all hts s24
      have kp4 : Kp a H H4 := fun c o e n => s24 _ _ (kp2 _ _ e n)
      have nRF : R ≠ F0 := ne_of_none (s3 _ _ hR2) hF0
      have hF0H : H F0 = none := kp_free (b := 0) (fun c o e n => s3 _ _ (kp2 _ _ e n)) (bx3.mono (by omega)) hF0
      clear hR2 hts bx2 kp2 hl2 hd hd3 s3 bx3 hF0 s4 s24
      refine ⟨a, b + 10 * (8 - i) - 1, 3, rfl, by rw [show b + 10 * (8 - i) - 1 + 1 = b + 10 * (8 - i) by omega]; exact bx4, by omega, by omega, fun dn H5 d0 d1 bx5 kp5 => ?_⟩
      walk_at "go"
      have hFa : F0 ≠ a := naF0.symm
      refine for_it (walk_range (n := dn.toNat)) (fun t σ H' => ∃ (fs : List V) (qss : List AL) (y4 y7 : Option V), σ = [some (.ref a), some (.ref l), some (.ref R), some (.int (k : Nat)), y4, some (.ref d), some (.ref F0), y7] ∧ H' F0 = some (.lst fs) ∧ Paired (FrV H') fs qss ∧ qss.Nodup ∧ (∀ qs ∈ qss, qs.length ≤ 3 ∧ RowS ns 3 k (ns[k]'(by omega), qs)) ∧ rows.length + qss.length ≤ 7 ∧ qss.length ≤ t ∧ Bx H' a (b + 10 * (8 - (i + 1)) + 4 * (2 - t)) ∧ (∀ c o, H4 c = some o → c ≠ a → c ≠ F0 → H' c = some o)) ?_ (fun _ _ _ _ _ => trivial) ?_ ?_
      · exact ⟨[], [], _, _, rfl, kp5 _ _ hF4 hFa, .nil, List.nodup_nil, fun _ h => (nomatch h), hlen, Nat.le_refl _, bx5.mono (by omega), fun c o e n _ => kp5 _ _ e n⟩
      · rintro t x σ _ H6 ht ⟨fs, qss, y4, y7, rfl, hF6, hfs, qnd, hqs, hq7, hqt, bx6, kp6⟩ ⟨rfl, rfl⟩
        have hl6 := kp6 _ _ hl4 nla (fun z => by rw [z, hF0H] at hl; cases hl)
        have hd6 := kp6 _ _ hd4 nda ndF
        have hR6 := kp6 _ _ hR4 nRa nRF
        walk_at "go"
        rename_i S hS
        have e2 : cutV (ns.map V.str) (some ((k : Int) + 1)) none = (ns.drop (k + 1)).map V.str := by rw [show ((k : Int) + 1) = ((k + 1 : Nat) : Int) by omega, cutV_from, List.map_drop]
        rw [e2]
        have naS : a ≠ S := bx6.ne hS
        have s7 : Same H6 (upd H6 S (.lst ((ns.drop (k + 1)).map V.str))) := fun c o e => upd_at e (ne_of_none e hS)
        have hS7 : upd H6 S (.lst ((ns.drop (k + 1)).map V.str)) S = some (.lst ((ns.drop (k + 1)).map V.str)) := upd_same
        generalize upd H6 S (.lst ((ns.drop (k + 1)).map V.str)) = H7 at s7 hS7 ⊢
        have bx7 := bx6.same s7
        have hd7 := s7 _ _ hd6
        have hR7 := s7 _ _ hR6
        have hF7 := s7 _ _ hF6
        have hfs7 : Paired (FrV H7) fs qss := Paired.mapP hfs fun _ _ z => z.kl (KL.of s7)
        refine ⟨a, b + 10 * (8 - (i + 1)) + 4 * (2 - t) - 1, 3, rfl, by rw [show b + 10 * (8 - (i + 1)) + 4 * (2 - t) - 1 + 1 = b + 10 * (8 - (i + 1)) + 4 * (2 - t) by omega]; exact bx7, by omega, by omega, fun pn H8 p0 p1 bx8 kp8 => ?_⟩
        obtain ⟨pn, rfl⟩ : ∃ j : Nat, pn = j := ⟨pn.toNat, by omega⟩
        walk_at "go"
        refine ⟨a, S, d, ns.drop (k + 1), m, b + 10 * (8 - (i + 1)) + 4 * (2 - (t + 1)), 1 + pn, 7, by rw [show ((1 + pn : Nat) : Int) = 1 + (pn : Int) by omega], bx8.mono (by omega), kp8 _ _ hS7 naS.symm, naS.symm, ?_, by rw [List.length_drop]; omega, kp8 _ _ hd7 nda, by omega, fun pt us qs H9 hpt hpt9 hus kn so hqp lq bx9 kp9 => ?_⟩
        · intro z
          have := congrArg List.length z
          rw [List.length_drop] at this
          simp at this
          omega
        have hF9 := kp9 _ _ (kp8 _ _ hF7 hFa) hFa
        have hR9 := kp9 _ _ (kp8 _ _ hR7 nRa) nRa
        have hfs9 : Paired (FrV H9) fs qss := Paired.mapP hfs7 fun _ _ z => (z.kl (KL.bx kp8 bx7)).kl (KL.bx kp9 bx8)
        have kp49 : ∀ c o, H4 c = some o → c ≠ a → c ≠ F0 → H9 c = some o := fun c o e n1 n2 => kp9 _ _ (kp8 _ _ (s7 _ _ (kp6 _ _ e n1 n2)) n1) n1
        have ksq : ∀ p ∈ qs, KindS p.1 := fun p hp => ks _ (List.mem_of_mem_drop (hqp p hp).2.2)
        have ksf : ∀ qs ∈ qss, ∀ p ∈ qs, KindS p.1 := fun q2 hq p hp => by
          obtain ⟨_, _, j, _, hj⟩ := (hqs q2 hq).2.ps p hp
          exact ks _ (List.mem_of_getElem? hj)
        clear bx6 bx7 bx8 kp8 kp9 hF7 hR7 hfs7 hfs hF6 hR6 hd6 hd7 hS7 s7 hl6
        have lfs := Paired.len hfs9
        have lts := Paired.len hts4
        walk_at "go"
        rename_i pe hpe
        have sa : Same H9 (upd H9 pe (.tup [])) := fun c o e => upd_at e (ne_of_none e hpe)
        refine r_neNilT (sa _ _ hpt9) (PrA.all hus sa) ksq upd_same ?_
        generalize upd H9 pe (.tup []) = Ha at sa ⊢
        have hFa2 := sa _ _ hF9
        have hRa := sa _ _ hR9
        have hpta := sa _ _ hpt9
        have husa := PrA.all hus sa
        have hfsa : Paired (FrV Ha) fs qss := Paired.mapP hfs9 fun _ _ z => z.kl (KL.of sa)
        have bxa := bx9.same sa
        have kpa : ∀ c o, H4 c = some o → c ≠ a → c ≠ F0 → Ha c = some o := fun c o e n1 n2 => sa _ _ (kp49 _ _ e n1 n2)
        have old : ∀ y4 y7 : Option V, ∃ (fs : List V) (qss : List AL) (y4' y7' : Option V), [some (V.ref a), some (V.ref l), some (V.ref R), some (V.int (k : Nat)), y4, some (V.ref d), some (V.ref F0), y7] = [some (.ref a), some (.ref l), some (.ref R), some (.int (k : Nat)), y4', some (.ref d), some (.ref F0), y7'] ∧ Ha F0 = some (.lst fs) ∧ Paired (FrV Ha) fs qss ∧ qss.Nodup ∧ (∀ qs ∈ qss, qs.length ≤ 3 ∧ RowS ns 3 k (ns[k]'(by omega), qs)) ∧ rows.length + qss.length ≤ 7 ∧ qss.length ≤ t + 1 ∧ Bx Ha a (b + 10 * (8 - (i + 1)) + 4 * (2 - (t + 1))) ∧ (∀ c o, H4 c = some o → c ≠ a → c ≠ F0 → Ha c = some o) :=
          fun y4 y7 => ⟨fs, qss, _, _, rfl, hFa2, hfsa, qnd, hqs, hq7, by omega, bxa, kpa⟩
        refine ⟨_, rfl, ite_b (fun e => ?_) fun e => old _ _⟩
        have e : qs ≠ [] := by simpa using e
        walk_at "go"
        refine ⟨pd qs, qss.map pd, dp_pairs hpta husa, .lst (SqL.of hFa2) (fr_all hfsa), shaped_pd ksq, shaped_prs ksf, ?_⟩
        refine ⟨_, rfl, ite_b (fun e3 => ?_) fun e3 => old _ _⟩
        walk_at "go"
        refine ite_b (fun e5 => ?_) fun _ => ?_
        rotate_left
        · exact old _ _
        have e5 : (ts.length : Int) + (fs.length : Int) < 7 := of_decide_eq_true e5
        walk_at "go"
        have kl := KL.lst (ys := fs ++ [V.ref pt]) hFa2
        have rs : RowS ns 3 k (ns[k]'(by omega), qs) := RowS.of2 (List.getElem?_eq_getElem (by omega)) e kn so fun p hp => by
          have := hqp p hp
          exact ⟨this.1, by omega, this.2.2⟩
        refine ⟨fs ++ [.ref pt], qss ++ [qs], _, _, rfl, upd_same, Paired.app (Paired.mapP hfsa fun _ _ z => z.kl kl) (.cons (FrV.kl ⟨pt, us, rfl, hpta, husa⟩ kl) .nil), ?_, fun q2 hq => ?_, by rw [List.length_append, List.length_singleton]; omega, by rw [List.length_append, List.length_singleton]; omega, bxa.upd naF0, fun c o e n1 n2 => ?_⟩
        · refine List.nodup_append.mpr ⟨qnd, by simp, fun r hr r2 hr2 e6 => ?_⟩
          rw [List.mem_singleton.mp hr2] at e6
          exact any_not e3 (by rw [← e6]; exact hr)
        · rcases List.mem_append.mp hq with z | z
          · exact hqs q2 z
          · rw [List.mem_singleton.mp z]
            exact ⟨by omega, rs⟩
        · rw [upd_ne n2]
          exact kpa _ _ e n1 n2
      · rintro σ H6 ⟨fs, qss, y4, y7, rfl, hF6, hfs, qnd, hqs, hq7, hqt, bx6, kp6⟩
        have hR6 := kp6 _ _ hR4 nRa nRF
        have hl6 := kp6 _ _ hl4 nla (fun z => by rw [z, hF0H] at hl; cases hl)
        have naR : a ≠ R := nRa.symm
        have lfs := Paired.len hfs
        have lts := Paired.len hts4
        walk_at "go"
        intro D hD
        have naD : a ≠ D := bx6.ne hD
        refine lc_it (walk_list (xs := fs)) (fun j H' => ∃ ds, H' D = some (.lst ds) ∧ Paired (RwV H') ds ((qss.take j).map fun qs => (ns[k]'(by omega), qs)) ∧ Same H6 H') ?_ ?_ ?_ ?_
        · exact ⟨[], upd_same, .nil, fun c o e => upd_at e (ne_of_none e hD)⟩
        · rintro j H' _ ⟨_, _, _, s7⟩
          exact SqL.of (s7 _ _ hF6)
        · rintro j x _ H7 hj ⟨ds, hD7, hds, s7⟩ ⟨rfl, hx⟩
          obtain ⟨qs, hq, u, us, rfl, hu1, hu2⟩ := Paired.at hfs hx
          have hl7 := s7 _ _ hl6
          have lds := Paired.len hds
          rw [List.length_map, List.length_take] at lds
          walk_at "go"
          refine ⟨rfl, r_yes (iteT ?_)⟩
          walk_at "go"
          refine r_ixL (SqL.of hl7) (atI_nat (List.getElem?_eq_getElem (by rw [List.length_map]; omega))) ?_
          rw [List.getElem_map]
          walk_at "go"
          rename_i v hv
          have s8 : Same H7 (upd H7 v (.tup [V.str (ns[k]'(by omega)), V.ref u])) := fun c o e => upd_at e (ne_of_none e hv)
          have hv8 : upd H7 v (.tup [V.str (ns[k]'(by omega)), V.ref u]) v = some (.tup [V.str (ns[k]'(by omega)), V.ref u]) := upd_same
          generalize upd H7 v (.tup [V.str (ns[k]'(by omega)), V.ref u]) = H8 at s8 hv8 ⊢
          have hD8 := s8 _ _ hD7
          refine ⟨ds, hD8, szl (by omega), ds ++ [.ref v], upd_same, ?_, fun c o e => upd_at (s8 _ _ (s7 _ _ e)) (ne_of_none e hD)⟩
          rw [List.take_add_one, hq, List.map_append]
          exact rw_push hD8 (RwV.all hds s8) ⟨v, u, us, rfl, hv8, s8 _ _ (s7 _ _ hu1), PrA.all (PrA.all hu2 s7) s8⟩
        · rintro H7 ⟨ds, hD7, hds, s7⟩
          rw [lfs, List.take_length] at hds
          have lds := Paired.len hds
          rw [List.length_map] at lds
          have hR7 := s7 _ _ hR6
          have kp47 : Kp a H H7 := fun c o e n => s7 _ _ (kp6 _ _ (kp4 _ _ e n) n (ne_of_none e hF0H))
          have hts7 : Paired (RwV H7) ts rows := RwV.all (Paired.mapP hts4 fun _ _ z => RwV.kl z fun c o e n => kp6 _ _ e (fun z2 => by obtain ⟨_, _, _, e2, _⟩ := bx4; rw [z2, e2] at e; cases e; exact n _ rfl) (fun z2 => by rw [z2, hF4] at e; cases e; exact n _ rfl)) s7
          have bx7 := bx6.same s7
          walk_at "go"
          rename_i N hN
          have s8 : Same H7 (upd H7 N (.lst (ds ++ ts))) := fun c o e => upd_at e (ne_of_none e hN)
          have naN : N ≠ a := (bx7.ne hN).symm
          have hN0 : H N = none := kp_free kp47 bx7 hN
          have rdis : ∀ r ∈ rows, r.1 ≠ ns[k]'(by omega) := fun r hr e => by
            obtain ⟨_, k2, h1, z⟩ := hrw r hr
            have h2 := z.hd
            rw [e, ← List.getElem?_eq_getElem] at h2
            have := (List.getElem?_inj (List.getElem?_eq_some_iff.mp z.hd).1 nd).mp h2
            omega
          refine ⟨N, ds ++ ts, (qss.map fun qs => (ns[k]'(by omega), qs)) ++ rows, _, _, _, _, _, rfl, naN, hN0, upd_same, Paired.app (RwV.all hds s8) (RwV.all hts7 s8), fun r hr => ?_, ?_, by rw [List.length_append, List.length_map]; omega, (bx7.mono (by omega)).same s8, fun c o e n => s8 _ _ (kp47 _ _ e n)⟩
          · rcases List.mem_append.mp hr with z | z
            · obtain ⟨qs, hq, rfl⟩ := List.mem_map.mp z
              exact ⟨(hqs qs hq).1, k, by omega, (hqs qs hq).2⟩
            · obtain ⟨h1, k2, h2, h3⟩ := hrw r z
              exact ⟨h1, k2, by omega, h3⟩
          · refine List.nodup_append.mpr ⟨?_, hnd, fun r hr r2 hr2 e => ?_⟩
            · exact List.pairwise_map.mpr (List.Pairwise.imp (fun {a b} (z : a ≠ b) e => z (Prod.mk.inj e).2) qnd)
            · obtain ⟨qs, hq, rfl⟩ := List.mem_map.mp hr
              exact rdis r2 hr2 (by rw [← e])
    · rintro σ H2 ⟨R, ts, rows, x3, x4, x5, x6, x7, rfl, nRa, hR, hR2, hts, hrw, hnd, hlen, bx2, kp2⟩
      walk_at "go"
      refine q R ts rows H2 hR hR2 hts ⟨fun r hr => let ⟨_, k, _, z⟩ := hrw r hr; ⟨k, z⟩, hnd, ?_⟩ (bx2.mono (by omega)) kp2
      have := esum_le (c := 3) fun r hr => (hrw r hr).1
      omega
end


theorem Bx.nls {H : Hp} {a c : Addr} {b : Nat} {xs : List V} (h : Bx H a b) (e : H c = some (.lst xs)) (n : ∀ x ∈ xs, (∃ o, x = .ref o) ∨ ∃ s, x = .str s) : c ≠ a := fun z => by
  obtain ⟨x, y, w, h1, _⟩ := h
  rw [z, h1] at e
  have e := Option.some.inj e
  injection e with e
  have := n (.int x) (by rw [← e]; exact List.mem_cons_self)
  rcases this with ⟨_, z⟩ | ⟨_, z⟩ <;> cases z
theorem BookA.kp {CO CB : Addr} {H H' : Hp} {a c : Addr} {b : Nat} {rows : List Row} (h : BookA CO CB H c rows) (k : Kp a H H') (bx : Bx H a b) : BookA CO CB H' c rows := by
  obtain ⟨dx, lo, dp, os, h1, h2, h3, ⟨m, ms, es, g1, g2, g3, g4, g5⟩, ok, asc, ln, rk⟩ := h
  have kl := KL.bx k bx
  refine ⟨dx, lo, dp, os, kl _ _ h1 (fun _ z => by cases z), k _ _ h2 (bx.nls h2 fun x hx => ?_), Paired.mapP h3 fun _ _ z => z.kl kl, ⟨m, ms, es, kl _ _ g1 (fun _ z => by cases z), ⟨g2.ke, g2.nd, fun j a2 ps e1 e2 => ?_, g2.inj⟩, g3, g4, g5⟩, ok, asc, ln, rk⟩
  · obtain ⟨i, hi⟩ := List.mem_iff_getElem?.mp hx
    obtain ⟨r, _, o, e, _⟩ := Paired.at h3 hi
    exact .inl ⟨o, e⟩
  · have e := g2.at_ j a2 ps e1 e2
    refine k _ _ e (bx.nls e fun x hx => ?_)
    obtain ⟨s, _, rfl⟩ := List.mem_map.mp hx
    exact .inr ⟨s, rfl⟩
theorem paired_permG {α : Type} {R : V → α → Prop} {ys xs : List V} (p : ys.Perm xs) : ∀ {ps : List α}, Paired R xs ps → ∃ ps' : List α, ps'.Perm ps ∧ Paired R ys ps' := by
  induction p with
  | nil => exact fun {ps} h => ⟨ps, .refl _, h⟩
  | cons x _ ih =>
    intro ps h
    match ps, h with
    | k :: r, .cons e h =>
      obtain ⟨ks', p', h'⟩ := ih h
      exact ⟨k :: ks', p'.cons k, .cons e h'⟩
  | swap x y l =>
    intro ps h
    match ps, h with
    | k :: j :: r, .cons e (.cons e2 h) => exact ⟨j :: k :: r, .swap k j r, .cons e2 (.cons e h)⟩
  | trans _ _ i1 i2 =>
    intro ps h
    obtain ⟨k1, p1, h1⟩ := i2 h
    obtain ⟨k2, p2, h2⟩ := i1 h1
    exact ⟨k2, p2.trans p1, h2⟩
section
variable {P : Program} {w : World} {K : PySem.W.Frag} {mg : Str → Option Value} {base : Heap} {C CO CB : Addr}
abbrev sMade : Stmt := top 43
theorem scMade : FnScope ["_law_box_here", "_law_rows_so", "_law_row"] ["_law_box_here", "_law_rows_so"] (defScope sMade) := ⟨rfl, rfl, rfl, by decide +kernel, rfl, by decide +kernel, by decide +kernel⟩
def spMade (CO CB : Addr) : Sp := fun vs H Q _ => ∃ (a l : Addr) (ts : List V) (rows : List Row) (b : Nat), vs = [.ref a, .ref l] ∧ Bx H a (b + 62) ∧ H l = some (.lst ts) ∧ Paired (RwV H) ts rows ∧ (∀ r ∈ rows, RowOk r) ∧ Ranked rows ∧ rows.length ≤ 31 ∧ esum rows ≤ 31 ∧
  ∀ (c : Addr) (rs : List Row) (H' : Hp), H c = none → BookA CO CB H' c rs → (∀ r, r ∈ rs ↔ r ∈ rows) → Bx H' a b → Kp a H H' → Q (.ref c) H'
theorem ok_made {f : Addr} {fd : FuncData} (F : Fun K "_law_made" "_law_made" sMade f fd) (CmL : Cal P w K mg base CX0 2 "_law_mixed" ["_law_box_here", "_law_rows_so"] (spMixedL K)) (CmT : Cal P w K mg base CX0 2 "_law_mixed" ["_law_box_here", "_law_rows_so"] (spMixed K)) (Om : OMk P w K mg base CX0 2 C "Lot" ["self", "pairs"] (spLotInit K C)) (Oop : OMk P w K mg base CX0 3 CO "Opening" ["self", "kind", "contents"] (spOpInit C CO)) (Bm : OMk P w K mg base CX0 7 CB "Book" ["self", "openings"] (spBookInit K CO CB)) : FnOk P w K mg base CX0 9 f fd ["_law_box_here", "_law_rows_so"] (spMade CO CB) := by
  refine F.ok scMade (fun vs H Q E h => ?_) (fun cdv A outer s H vs Q E hr h => ?_)
  · obtain ⟨a, l, ts, rows, b, rfl, _⟩ := h
    rfl
  · obtain ⟨a, l, ts, rows, b, rfl, hb, hl, hts, ok, rk, lr, le, q⟩ := h
    refine ⟨_, (pss_one (ps_ret (pe_makeO Bm (hr.mono (by decide)) pass0 (pa_cons (pe_lc (own := [("_law_row", 2)]) (g := gName 2) (tt := tYes) rfl scMade.nd (pi_list (pe_cal CmL (hr.mono (by decide)) pass0 (pa_cons (pv 0) (pa_cons (pv 1) pa_nil)))) (blkOk_by (N := ["_law_box_here", "_law_rows_so", "_law_row"]) (sc := defScope sMade) (by decide +kernel)) (fun _ _ _ _ _ => (pg_name (i := 2) scMade.nd rfl (Or.inl rfl))) (fun _ _ _ _ _ => pts_nil) (fun _ _ _ _ _ => (pe_makeO Oop (hr.mono (by decide)) pass0 (pa_cons (pe_ix (ixK (r := rIxT) K ix_tup) (pv 2) pe_int (fun _ _ => rfl)) (pa_cons (pe_makeO Om (hr.mono (by decide)) pass0 (pa_cons (pe_cal CmT (hr.mono (by decide)) pass0 (pa_cons (pv 0) (pa_cons (pe_ix (ixK (r := rIxT) K ix_tup) (pv 2) pe_int (fun _ _ => rfl)) pa_nil))) pa_nil)) pa_nil))))) pa_nil)))), ?_⟩
    have lts := Paired.len hts
    walk_at "in"
    walk_at "go"
    refine r_mk ?_
    walk_at "go"
    refine ⟨a, l, b + esum rows, ts, rfl, hb.mono (by omega), SqL.of hl, by omega, fun yl ys H1 hyl pm hy bx1 kp1 => ?_⟩
    have hts1 : Paired (RwV H1) ts rows := Paired.mapP hts fun _ _ z => RwV.kl z (KL.bx kp1 hb)
    obtain ⟨rows2, pm2, hys⟩ := paired_permG pm hts1
    have lys := Paired.len hys
    have lp := pm2.length_eq
    have nya : yl ≠ a := by
      obtain ⟨_, _, _, e, _⟩ := hb
      intro z
      rw [z, e] at hyl
      cases hyl
    have es2 : esum rows2 = esum rows := (pm2.map fun r : Row => r.2.length).sum_nat
    refine ⟨yl, rfl, ⟨_, SqL.of hy⟩, fun D hD => ?_⟩
    have naD : a ≠ D := bx1.ne hD
    refine lc_it (walk_list (xs := ys)) (fun i H' => ∃ os, H' D = some (.lst os) ∧ Paired (OpV CO H') os (rows2.take i) ∧ Bx H' a (b + (esum rows - esum (rows2.take i))) ∧ Kp a H1 H') ?_ ?_ ?_ ?_
    · exact ⟨[], upd_same, .nil, by rw [List.take_zero]; exact bx1.upd naD, fun c o e n => upd_at e (ne_of_none e hD)⟩
    · rintro i H' _ ⟨_, _, _, _, k2⟩
      exact SqL.of (k2 _ _ hy nya)
    · rintro i x _ H2 hi ⟨os, hD2, hos, bx2, kp2⟩ ⟨rfl, hx⟩
      obtain ⟨r, hr1, hrv⟩ := Paired.at hys hx
      obtain ⟨t, u, us, rfl, e1, e2, e3⟩ := RwV.kl hrv (KL.bx kp2 bx1)
      have rok := ok r (pm2.mem_iff.mp (List.mem_of_getElem? hr1))
      have rln := rok.ln
      have los := Paired.len hos
      rw [List.length_take] at los
      have lus := Paired.len e3
      have ek := esum_take hr1
      have ek2 := esum_sub (List.take_sublist (i + 1) rows2)
      walk_at "go"
      refine ⟨rfl, r_yes (iteT ?_)⟩
      refine r_mk ?_
      walk_at "go"
      refine r_ixT (SqT.of e1) (atI_nat (j := 0) rfl) ?_
      walk_at "go"
      refine r_mk ?_
      walk_at "go"
      refine r_ixT (SqT.of e1) (atI_nat (j := 1) rfl) ?_
      walk_at "go"
      refine ⟨a, u, b + (esum rows - esum (rows2.take (i + 1))), us, rfl, ?_, SqT.of e2, by omega, fun pl vs H3 hpl pmv hvs bx3 kp3 => ?_⟩
      · rw [show b + (esum rows - esum (rows2.take (i + 1))) + us.length = b + (esum rows - esum (rows2.take i)) by omega]
        exact bx2
      walk_at "go"
      have e33 : Paired (PrA H3) us r.2 := Paired.mapP e3 fun _ _ z => z.kl (KL.bx kp3 bx2)
      obtain ⟨qs2, pmq, hvq⟩ := paired_permG pmv e33
      have lq := pmq.length_eq
      refine init_end hvs hvq (by have := Paired.len hvq; omega) (fun q hq => Int.le_of_lt (rok.pos q (pmq.mem_iff.mp hq)).1) fun y m' H4 hy4 Ly hg s4 => ?_
      have cn : My.Cn m' r.2 := cn_tot Ly.lo.nd rok.nd (fun p hp => (rok.pos p hp).1) (up_ple rok.up) fun k => by rw [hg, tot_perm pmq]
      refine r_nil ?_
      refine opInit_end Ly.lo (fun z => rok.ne (by have := cn.len Ly.lo.ps; rw [z] at this; exact List.eq_nil_of_length_eq_zero this)) ?_ fun o qs H5 ho hop cn2 s5 => ?_
      · have h1 : r.1 ∉ keys m' := fun z => rok.no ((keys_cn cn Ly.lo.ps r.1).mp z)
        unfold get
        rw [look_none.mpr h1]
        rfl
      obtain rfl : qs = r.2 := cn_unique Ly.lo.nd Ly.lo.nd cn2 cn fun _ _ => rfl
      have s35 : Same H3 H5 := fun c o e => s5 _ _ (s4 _ _ e)
      have hD5 := s35 _ _ (kp3 _ _ hD2 naD.symm)
      have hos5 : Paired (OpV CO H5) os (rows2.take i) := Paired.mapP hos fun _ _ z => (z.kl (KL.bx kp3 bx2)).kl (KL.of s35)
      refine ⟨os, hD5, szl (by omega), os ++ [.ref o], upd_same, ?_, (bx3.same s35).upd naD, fun c o e n => upd_at (s35 _ _ (kp3 _ _ (kp2 _ _ e n) n)) (ne_of_none e hD)⟩
      rw [List.take_add_one, hr1]
      exact os_push hD5 hos5 ⟨o, rfl, hop⟩
    · rintro H2 ⟨os, hD2, hos, bx2, kp2⟩
      rw [lys, List.take_length] at hos
      refine r_nil ?_
      refine bookInit_end (.inl (SqL.of hD2)) hos (by omega) (fun r h => ok r (pm2.mem_iff.mp h)) (Ranked.mem (fun r => pm2.mem_iff) rk) fun c rs H3 hc hbk me s3 => ?_
      have kp : Kp a H H2 := fun c o e n => kp2 _ _ (kp1 _ _ e n) n
      exact q c rs H3 (kp_free kp bx2 hc) hbk (fun r => (me r).trans pm2.mem_iff) ((bx2.mono (by omega)).same s3) fun c o e n => s3 _ _ (kp _ _ e n)
end


theorem RingOf.mem {a b : List Row} (h : ∀ r, r ∈ a ↔ r ∈ b) {xs : List Str} (rg : RingOf a xs) : RingOf b xs := ⟨rg.1, fun i x y e1 e2 => (Edge.mem h x y).mp (rg.2 i x y e1 e2)⟩
section
variable {P : Program} {w : World} {K : PySem.W.Frag} {mg : Str → Option Value} {base : Heap} {C CO CB CR : Addr}
def spBookInitX (K : PySem.W.Frag) (CO CB CR : Addr) : Sp := fun vs H Q E => ∃ (p dx l : Addr) (os : List V) (rows : List Row), vs = [.ref p, .ref l] ∧ H p = some (.ins CB dx []) ∧ SqA K H l os ∧ Paired (OpV CO H) os rows ∧ rows.length ≤ 63 ∧ (∀ r ∈ rows, RowOk r) ∧
  (∀ (rs : List Row) (H' : Hp), BookA CO CB H' p rs → (∀ r, r ∈ rs ↔ r ∈ rows) → (∀ c o, H c = some o → c ≠ p → H' c = some o) → Q .non H') ∧
  ∀ (d t : Addr) (xs : List Str) (H' : Hp), H d = none → (∀ c o, H c = some o → c ≠ p → H' c = some o) → RingOf rows xs → xs.length ≤ 3001 → H' t = some (.tup (xs.map V.str)) → H' d = some (.xd [("ring", .ref t)]) → E (.ref CR) (some d) H'
theorem ok_bookInitX {f t0 : Addr} {fd : FuncData} (F : FunD K "__init__" "Book.__init__" (defArgs sBookInit) (defBody sBookInit) (defScope sBookInit) [.ref t0] [] f fd) (T : Txt K mg) (L : TxL K C) (O : TxO K CO) (B : TxB K CB) (OR : E1 P w K mg base CR "Ringed" "ring") (Opl : OCal P w K mg base CX0 1 CO "place" ["self"] (spOpPlace CO)) (OmT : OMk P w K mg base CX0 2 C "Lot" ["self", "pairs"] (spLotInitT K C)) (Oop : OMk P w K mg base CX0 3 CO "Opening" ["self", "kind", "contents"] (spOpInit C CO))
    (Cpo : Cal P w K mg base CX0 6 "_parts_of" ["openings"] (spPartsOf CO)) (Cri : Cal P w K mg base CX0 2 "_ring" ["parts"] spRing) : FnOk P w K mg base (CX P w) 7 f fd ["self", "openings"] (spBookInitX K CO CB CR) := by
  refine F.ok scBookInit (fun vs H Q E h => ?_) (fun cdv A outer s H vs Q E hr h => ?_)
  · obtain ⟨p, dx, l, os, rows, rfl, _⟩ := h
    rfl
  · obtain ⟨p, dx, l, os, rows, rfl, hp, hl, hos, lr, ok, q, qe⟩ := h
    obtain ⟨fR, fdR, iR, tR, FR, _, _, bR⟩ := OR.ex
    refine ⟨_, (pss_cons (ps_set (i := 2) scBookInit.nd rfl (Or.inl rfl) (pe_callB (cr_sortedN rfl (hu64 hr)) (by rfl) T.sorted (by decide +kernel) (pa_cons (pe_callTy (cr_setN rfl (hu64 hr)) (by rfl) T.set (by decide +kernel) (pa_cons (pe_lc (own := [("opening", 6)]) (g := gName 6) (tt := tYes) rfl scBookInit.nd (pi_seq (pv 1)) (blkOk_by (N := ["self", "openings", "places", "ring", "kind", "pairs", "opening"]) (sc := defScope sBookInit) (by decide +kernel)) (fun _ _ _ _ _ => (pg_name (i := 6) scBookInit.nd rfl (Or.inl rfl))) (fun _ _ _ _ _ => pts_nil) (fun _ _ _ _ _ => (pe_methO0 Opl O.oc.cl (hr.mono (by decide)) pass0 (pv 6)))) pa_nil)) pa_nil)))
  (pss_cons (ps_fld (pv 0) (pe_lc (own := [("kind", 4), ("pairs", 5)]) (g := gTup _ 2 (gCons (gName 4) (gCons (gName 5) gNil))) (tt := tYes) rfl scBookInit.nd (pi_list (pv 2)) (blkOk_by (N := ["self", "openings", "places", "ring", "kind", "pairs", "opening"]) (sc := defScope sBookInit) (by decide +kernel)) (fun _ _ _ _ _ => (pg_tup rfl (pgs_cons (pg_name (i := 4) scBookInit.nd rfl (Or.inl rfl)) (pgs_cons (pg_name (i := 5) scBookInit.nd rfl (Or.inl rfl)) pgs_nil)))) (fun _ _ _ _ _ => pts_nil) (fun _ _ _ _ _ => (pe_makeO Oop (hr.mono (by decide)) pass0 (pa_cons (pv 4) (pa_cons (pe_makeO OmT (hr.mono (by decide)) pass0 (pa_cons (pv 5) pa_nil)) pa_nil))))) rfl)
  (pss_cons (ps_fld (pv 0) (pe_cal Cpo hr pass0 (pa_cons (pe_fld (pv 0) rfl) pa_nil)) rfl)
  (pss_cons (ps_set (i := 3) scBookInit.nd rfl (Or.inl rfl) (pe_cal Cri (hr.mono (by decide)) pass0 (pa_cons (pe_fld (pv 0) rfl) pa_nil)))
  (pss_one (ps_if (pt_cmpR o_notN (pv 3) pe_non (nomark _))
  (pss_one (ps_raise rfl (takes_of rfl rfl rfl rfl) (pmk_oex OR.T iR tR FR (hr.mono (by decide)) bR .nil pass0 (by rfl) OR.gC (pa_cons (pv 3) pa_nil))))
  pss_nil)))))), ?_⟩
    walk_at "in"
    walk_at "go"
    unfold iSeq
    refine r_var rfl ⟨l, os, rfl, ?_⟩
    refine r_seqA hl fun J G wk hG => ?_
    intro D hD
    have lo := Paired.len hos
    refine lc_it wk (fun i H' => ∃ ts, H' D = some (.lst ts) ∧ Paired (RwV H') ts (rows.take i) ∧ Same H H') ?_ ?_ ?_ ?_
    · exact ⟨[], upd_same, .nil, fun c o e => upd_at e (ne_of_none e hD)⟩
    · rintro i H' _ ⟨_, _, _, s1⟩
      exact hG H' fun o e => s1 _ _ e
    · rintro i x _ H1 hi ⟨ts, hD1, hts, s1⟩ ⟨rfl, hx⟩
      obtain ⟨r, hr1, o, rfl, hop⟩ := Paired.at hos hx
      obtain ⟨dx1, t1, ts1, e1, _, _⟩ := id (hop.same s1)
      walk_at "go"
      refine ⟨rfl, r_yes (iteT ?_)⟩
      refine r_meth0 (r_var rfl ⟨o, dx1, _, rfl, e1, look2, o, r.1, r.2, rfl, hop.same s1, fun t H2 ht hpl s2 => ?_⟩)
      have lts := Paired.len hts
      rw [List.length_take] at lts
      refine ⟨ts, s2 _ _ hD1, szl (by omega), ts ++ [.ref t], upd_same, ?_, fun c o e => upd_at (s2 _ _ (s1 _ _ e)) (ne_of_none e hD)⟩
      have hD2 := s2 _ _ hD1
      have k2 : KL H2 (upd H2 D (.lst (ts ++ [V.ref t]))) := KL.lst hD2
      rw [List.take_add_one, hr1]
      exact Paired.app (Paired.mapP (RwV.all hts s2) fun _ _ z => z.kl k2) (.cons (RwV.kl hpl k2) .nil)
    · rintro H1 ⟨ts, hD1, hts, s1⟩
      rw [lo, List.take_length] at hts
      obtain ⟨ks, ets, ek, hks⟩ := rows_keys hts
      have lks : ks.length = rows.length := by
        have := congrArg List.length ek
        rwa [List.length_map, List.length_map] at this
      refine r_nil ⟨D, ks, rfl, SqL.of (by rw [← ets]; exact hD1), fun p hp => ?_, by omega, fun a L' ha sub all nd => ?_⟩
      · obtain ⟨r, hr2, e, hw⟩ := hks p hp
        obtain ⟨p1, p2⟩ := p
        subst e
        exact hw.key
      have hL : ∀ p ∈ L', ∃ r ∈ rows, p.2 = rowD r ∧ RwV H1 (.ref p.1) r := fun p hp => hks p (sub p hp)
      have lL : L'.length ≤ 63 := by
        haveI : DecidableEq PyData := fun a b => Classical.propDecidable (a = b)
        have h1 := nodup_sub_len (m := ks.map (·.2)) nd fun d hd => by
          obtain ⟨p, hp, rfl⟩ := List.mem_map.mp hd
          exact List.mem_map.mpr ⟨p, sub p hp, rfl⟩
        rw [List.length_map, List.length_map] at h1
        omega
      have sa : Same H1 (upd H1 a (SetNO w a L')) := fun c o e => upd_at e (ne_of_none e ha)
      have ha1 : upd H1 a (SetNO w a L') a = some (SetNO w a L') := upd_same
      refine r_nil ?_
      show rSortedN K w [V.ref a] (upd H1 a (SetNO w a L')) _
      generalize upd H1 a (SetNO w a L') = Hs at sa ha1 ⊢
      refine ⟨a, L', rfl, ha1, fun p hp => ?_, by omega, ?_, ?_, fun L2 pl pm asc hpl => ?_⟩
      · obtain ⟨r, hr2, e, hw⟩ := hL p hp
        obtain ⟨p1, p2⟩ := p
        subst e
        exact (hw.same sa).key
      · intro d hd d' hd'
        obtain ⟨p, hp, rfl⟩ := List.mem_map.mp hd
        obtain ⟨p', hp', rfl⟩ := List.mem_map.mp hd'
        obtain ⟨r, _, e, _⟩ := hL p hp
        obtain ⟨r', _, e', _⟩ := hL p' hp'
        rw [e, e']
        exact alike_row r r'
      · refine .inl fun d hd => ?_
        obtain ⟨p, hp, rfl⟩ := List.mem_map.mp hd
        obtain ⟨r, _, e, _⟩ := hL p hp
        exact ⟨_, _, e⟩
      have hL2 : ∀ p ∈ L2, ∃ r ∈ rows, p.2 = rowD r ∧ RwV Hs (.ref p.1) r := fun p hp => by
        obtain ⟨r, h1, h2, h3⟩ := hL p (pm.mem_iff.mp hp)
        exact ⟨r, h1, h2, h3.same sa⟩
      obtain ⟨rs, hrs, ers, srs⟩ := keys_rows hL2
      have nd2 : (L2.map (·.2)).Nodup := (pm.map _).nodup_iff.mpr nd
      have ras := asc_rows ers nd2 asc
      have mem : ∀ r, r ∈ rs ↔ r ∈ rows := fun r => by
        refine ⟨srs r, fun hr2 => ?_⟩
        have h1 : rowD r ∈ ks.map (·.2) := by rw [ek]; exact List.mem_map.mpr ⟨r, hr2, rfl⟩
        obtain ⟨p, hp, e⟩ := List.mem_map.mp h1
        have h2 : p.2 ∈ L2.map (·.2) := ((pm.map _).mem_iff).mpr (all p hp)
        rw [e, ers] at h2
        obtain ⟨r', h3, e'⟩ := List.mem_map.mp h2
        rw [← rowD_inj e']
        exact h3
      have lrs : rs.length ≤ 63 := by
        have := congrArg List.length ers
        rw [List.length_map, List.length_map, pm.length_eq] at this
        omega
      have s2 : Same H (upd Hs pl (.lst (L2.map fun r => V.ref r.1))) := fun c o e => upd_at (sa _ _ (s1 _ _ e)) (ne_of_none (sa _ _ (s1 _ _ e)) hpl)
      have h2 : upd Hs pl (.lst (L2.map fun r => V.ref r.1)) pl = some (.lst (L2.map fun r => V.ref r.1)) := upd_same
      have hrs2 := RwV.all hrs (H' := upd Hs pl (.lst (L2.map fun r => V.ref r.1))) fun c o e => upd_at e (ne_of_none e hpl)
      generalize upd Hs pl (.lst (L2.map fun r => V.ref r.1)) = H2 at s2 h2 hrs2 ⊢
      generalize L2.map (fun r => V.ref r.1) = ps at h2 hrs2
      clear hrs hpl sa hL hL2 hks
      walk_at "ps"
      walk_at "ps"
      refine r_sfld ?_
      walk_at "ps"
      walk_at "go"
      intro D2 hD2
      have lps := Paired.len hrs2
      have okr : ∀ r ∈ rs, RowOk r := fun r hr2 => ok r (srs r hr2)
      refine lc_it (walk_list (xs := ps)) (fun i H' => ∃ os2, H' D2 = some (.lst os2) ∧ Paired (OpV CO H') os2 (rs.take i) ∧ Same H2 H') ?_ ?_ ?_ ?_
      · exact ⟨[], upd_same, .nil, fun c o e => upd_at e (ne_of_none e hD2)⟩
      · rintro i H' _ ⟨_, _, _, s3⟩
        exact SqL.of (s3 _ _ h2)
      · rintro i x _ H3 hi ⟨os2, hD3, hos2, s3⟩ ⟨rfl, hx⟩
        obtain ⟨r, hr1, t, u, ts2, rfl, e1, e2, e3⟩ := Paired.at hrs2 hx
        have rok := okr r (List.mem_of_getElem? hr1)
        have e13 := s3 _ _ e1
        have e23 := s3 _ _ e2
        have e33 := PrA.all e3 s3
        walk_at "go"
        refine ⟨rfl, r_yes (iteT ?_)⟩
        refine r_mk ?_
        walk_at "go"
        refine r_mk ?_
        walk_at "go"
        have lts2 := Paired.len e33
        refine initT_end (SqT.of e23) e33 (by have := rok.ln; omega) (fun q hq => Int.le_of_lt (rok.pos q hq).1) fun y m' H4 hy Ly hg s4 => ?_
        have cn : My.Cn m' r.2 := cn_tot Ly.lo.nd rok.nd (fun p hp => (rok.pos p hp).1) (up_ple rok.up) hg
        refine r_nil ?_
        refine opInit_end Ly.lo (fun z => rok.ne (by have := cn.len Ly.lo.ps; rw [z] at this; exact List.eq_nil_of_length_eq_zero this)) ?_ fun o qs H5 ho hop cn2 s5 => ?_
        · have h1 : r.1 ∉ keys m' := fun z => rok.no ((keys_cn cn Ly.lo.ps r.1).mp z)
          unfold get
          rw [look_none.mpr h1]
          rfl
        obtain rfl : qs = r.2 := cn_unique Ly.lo.nd Ly.lo.nd cn2 cn fun _ _ => rfl
        have s35 : Same H3 H5 := fun c o e => s5 _ _ (s4 _ _ e)
        have hD5 := s35 _ _ hD3
        have los := Paired.len hos2
        rw [List.length_take] at los
        have k2 : KL H5 (upd H5 D2 (.lst (os2 ++ [V.ref o]))) := KL.lst hD5
        refine ⟨os2, hD5, szl (by omega), os2 ++ [.ref o], upd_same, ?_, fun c o e => upd_at (s35 _ _ (s3 _ _ e)) (ne_of_none e hD2)⟩
        rw [List.take_add_one, hr1]
        exact Paired.app (Paired.mapP (OpV.all hos2 s35) fun _ _ z => z.kl k2) (.cons (OpV.kl ⟨o, rfl, hop⟩ k2) .nil)
      · rintro H3 ⟨os2, hD3, hos2, s3⟩
        rw [lps, List.take_length] at hos2
        have s03 : Same H H3 := fun c o e => s3 _ _ (s2 _ _ e)
        have hp3 := s03 _ _ hp
        have npD : D2 ≠ p := fun z => by rw [z, hp3] at hD3; cases hD3
        refine r_var rfl ⟨p, CB, dx, [], rfl, hp3, B.oc.cl, B.no, by show 0 < 1000; decide, ?_⟩
        have hD4 : upd H3 p (.ins CB dx (putF "_openings" (V.ref D2) [])) D2 = some (.lst os2) := upd_at hD3 npD
        have hp4 : upd H3 p (.ins CB dx (putF "_openings" (V.ref D2) [])) p = some (.ins CB dx (putF "_openings" (V.ref D2) [])) := upd_same
        have kp4 : Kp p H3 (upd H3 p (.ins CB dx (putF "_openings" (V.ref D2) []))) := fun c o e n => upd_at e n
        have hos4 : Paired (OpV CO (upd H3 p (.ins CB dx (putF "_openings" (V.ref D2) [])))) os2 rs := Paired.mapP hos2 fun v r z => z.kp1 kp4 hp3 (by decide)
        generalize upd H3 p (.ins CB dx (putF "_openings" (V.ref D2) [])) = H4 at hD4 hp4 kp4 hos4 ⊢
        walk_at "ps"
        refine r_sfld ?_
        walk_at "go"
        refine r_var rfl ?_
        refine ⟨p, CB, dx, _, _, rfl, hp4, B.oc.cl, B.no, rfl, r_nil ⟨D2, os2, rs, rfl, hD4, hos4, lrs, okr, fun dp H5 hdp pts s5 => ?_⟩⟩
        have hp5 := s5 _ _ hp4
        refine r_var rfl ⟨p, CB, dx, _, rfl, hp5, B.oc.cl, B.np, by show 1 < 1000; decide, ?_⟩
        have kp6 : Kp p H5 (upd H5 p (.ins CB dx (putF "_parts" (V.ref dp) (putF "_openings" (V.ref D2) [])))) := fun c o e n => upd_at e n
        have hp6 : upd H5 p (.ins CB dx (putF "_parts" (V.ref dp) (putF "_openings" (V.ref D2) []))) p = some (.ins CB dx [("_openings", V.ref D2), ("_parts", V.ref dp)]) := upd_same
        generalize upd H5 p (.ins CB dx (putF "_parts" (V.ref dp) (putF "_openings" (V.ref D2) []))) = H6 at kp6 hp6 ⊢
        have pts6 := pts.ki (KI.kp kp6 hp5)
        have hos6 : Paired (OpV CO H6) os2 rs := Paired.mapP (OpV.all hos4 s5) fun v r z => z.kp1 kp6 hp5 (by show 1 ≠ 2; decide)
        have hD6 : H6 D2 = some (.lst os2) := kp6 _ _ (s5 _ _ hD4) npD
        walk_at "go"
        refine r_var rfl ⟨p, CB, dx, _, _, rfl, hp6, B.oc.cl, B.np, rfl, r_nil ⟨dp, rs, rfl, pts6, fun H7 rk s7 => ?_, fun t xs H7 rg lx ht s7 => ?_⟩⟩
        · walk_at "go"
          refine ite_ndF rfl ?_
          walk_at "go"
          exact q rs H7 ⟨dx, D2, dp, os2, s7 _ _ hp6, s7 _ _ hD6, OpV.all hos6 s7, pts6.same s7, okr, ras, lrs, rk⟩ mem (fun c o e n => s7 _ _ (kp6 _ _ (s5 _ _ (kp4 _ _ (s03 _ _ e) n)) n))
        · walk_at "go"
          refine ite_ndT (by intro z; cases z) ?_
          have k7 : ∀ c o, H c = some o → c ≠ p → H7 c = some o := fun c o e n => s7 _ _ (kp6 _ _ (s5 _ _ (kp4 _ _ (s03 _ _ e) n)) n)
          refine r_cons (r_var rfl (r_nil ⟨by simp, fun a ha => end1X (Q := E) ha fun d' H' hd' s' hx => qe d' t xs H' ?_ (fun c o e n => s' _ _ (k7 c o e n)) (rg.mem mem) lx (s' _ _ ht) hx⟩))
          cases e : H d' with
          | none => rfl
          | some o =>
            by_cases n : d' = p
            · rw [n, s7 _ _ hp6] at hd'
              cases hd'
            · rw [k7 _ _ e n] at hd'
              cases hd'
end


section
variable {P : Program} {w : World} {K : PySem.W.Frag} {mg : Str → Option Value} {base : Heap} {C CO CB CR : Addr}
theorem bookInitX_end {H : Hp} {l : Addr} {os : List V} {rows : List Row} {R : Addr → Hp → Prop} {E : XK} (hl : SqA K H l os) (hos : Paired (OpV CO H) os rows) (lr : rows.length ≤ 63) (ok : ∀ r ∈ rows, RowOk r)
    (q : ∀ (b : Addr) (rs : List Row) (H' : Hp), H b = none → BookA CO CB H' b rs → (∀ r, r ∈ rs ↔ r ∈ rows) → Same H H' → R b H')
    (q2 : ∀ (d t : Addr) (xs : List Str) (H' : Hp), Same H H' → RingOf rows xs → xs.length ≤ 3001 → H' t = some (.tup (xs.map V.str)) → H' d = some (.xd [("ring", .ref t)]) → E (.ref CR) (some d) H') :
    ∀ x dx, H x = none → H dx = none → dx ≠ x → spBookInitX K CO CB CR [.ref x, .ref l] (upd (upd H dx (.own x)) x (.ins CB dx [])) (fun v H2 => v = .non ∧ R x H2) E := by
  intro x dx hx hdx n
  have s : Same H (upd (upd H dx (.own x)) x (.ins CB dx [])) := fun c o e => by rw [upd_ne (ne_of_none e hx), upd_ne (ne_of_none e hdx)]; exact e
  exact ⟨x, dx, l, os, rows, rfl, upd_same, hl.same s, OpV.all hos s, lr, ok, fun rs H' b m k => ⟨rfl, q x rs H' hx b m fun c o e => k c o (s _ _ e) (ne_of_none e hx)⟩, fun d t xs H' _ k rg lx ht hd => q2 d t xs H' (fun c o e => k c o (s _ _ e) (ne_of_none e hx)) rg lx ht hd⟩
end


section
variable {P : Program} {w : World} {K : PySem.W.Frag} {mg : Str → Option Value} {base : Heap} {C CO CB CN CH CR CL : Addr}
abbrev sBookOf : Stmt := inClass (top 25) 1
theorem scBookOf : FnScope ["cls", "text", "rows", "number", "line", "row", "kind", "contents"] ["cls", "text"] (defScope sBookOf) := ⟨rfl, rfl, rfl, by decide +kernel, rfl, by decide +kernel, by decide +kernel⟩
/-- a row as it was read -/
def RdV (C : Addr) (H : Hp) (v : V) (r : Row) : Prop := ∃ p x, v = .ref p ∧ H p = some (.tup [.str r.1, .ref x]) ∧ LotA C H x r.2
theorem RdV.kl {H H' : Hp} {v : V} {r : Row} (h : RdV C H v r) (K : KL H H') : RdV C H' v r := by
  obtain ⟨p, x, rfl, h1, m, ⟨⟨d, dx, g1, g2⟩, g3, g4, g5⟩, cn⟩ := h
  exact ⟨p, x, rfl, K _ _ h1 fun _ z => (by cases z), m, ⟨⟨d, dx, K _ _ g1 fun _ z => (by cases z), K _ _ g2 fun _ z => (by cases z)⟩, g3, g4, g5⟩, cn⟩
theorem Paired.tk1 {α β : Type} {R : α → β → Prop} {xs : List α} {ys : List β} {i : Nat} {x : α} {y : β} (h : Paired R (xs.take i) ys) (e : xs[i]? = some x) (r : R x y) : Paired R (xs.take (i + 1)) (ys ++ [y]) := by
  rw [List.take_add_one, e]
  exact Paired.app h (.cons r .nil)
theorem GoodL.ne {z : Str} {r : Row} (g : GoodL z r) : r.2 ≠ [] := fun e => by
  rcases g.rd.ex with ⟨h, _⟩ | ⟨_, o, h⟩
  · exact g.nd h
  · have l := qsOf_len o.ev
    rw [← h, e] at l
    have := words_len (Txt.partition z eqs).2.2
    have := o.ev
    simp only [List.length_nil] at l
    omega
theorem GoodL.row {z : Str} {r : Row} (g : GoodL z r) (ft : Fit z) (no : r.1 ∉ keys r.2) : RowOk r := by
  rcases g.rd.ex with ⟨h, _⟩ | ⟨_, o, h⟩
  · exact absurd h g.nd
  · have l := qsOf_len o.ev
    have wl := words_len (Txt.partition z eqs).2.2
    have b := (part_fit ft).2.bl
    refine ⟨g.kk, g.ne, fun p hp => ?_, ?_, no, ?_⟩
    · rw [h] at hp
      have := qsOf_pos o p hp
      exact ⟨this.1, this.2.1⟩
    · rw [h, keys_qsOf o.ev]
      exact o.up
    · rw [h, l]
      omega
def spBookOf (CO CB CR CL : Addr) : Sp := fun vs H Q E => ∃ z : Str, vs = [.ref CB, .str z] ∧ z.length ≤ 10000000 ∧ (lines z).length ≤ 63 ∧ (∀ l ∈ lines z, Fit l) ∧
  (z = dash → ∀ (b : Addr) (H' : Hp), H b = none → BookA CO CB H' b [] → Same H H' → Q (.ref b) H') ∧
  (z ≠ dash → (∀ (n : Nat) (l : Str) (d : Addr) (H' : Hp), (lines z)[n]? = some l → BadL l → (∀ (i : Nat) l, i < n → (lines z)[i]? = some l → ∃ r, GoodL l r) → H d = none → Same H H' → H' d = some (.xd [("number", .int n)]) → E (.ref CL) (some d) H') ∧
    ∀ rs, Paired GoodL (lines z) rs → (∀ (b : Addr) (rs' : List Row) (H' : Hp), H b = none → BookA CO CB H' b rs' → (∀ r, r ∈ rs' ↔ r ∈ rs) → Same H H' → Q (.ref b) H') ∧
      ∀ (d t : Addr) (xs : List Str) (H' : Hp), Same H H' → RingOf rs xs → xs.length ≤ 3001 → H' t = some (.tup (xs.map V.str)) → H' d = some (.xd [("ring", .ref t)]) → E (.ref CR) (some d) H')
theorem ok_bookOf {f t0 : Addr} {fd : FuncData} (F : Fun K "of" "Book.of" sBookOf f fd) (T : Txt K mg) (L : TxL K C) (O : TxO K CO) (B : TxB K CB) (OL : E1 P w K mg base CL "BadLine" "number") (BmD : OMkD P w K mg base CX0 7 CB ["self", "openings"] [.ref t0] (spBookInit K CO CB)) (e0 : ∀ H, SqT K H t0 [])
    (BmX : OMk P w K mg base (CX P w) 7 CB "Book" ["self", "openings"] (spBookInitX K CO CB CR)) (OoX : OMk P w K mg base (CX P w) 3 CO "Opening" ["self", "kind", "contents"] (spOpInitX C CO CH CR)) (Crl : Cal P w K mg base CX0 5 "_read_line" ["line"] (spReadLine C)) : FnOk P w K mg base (CX P w) 9 f fd ["cls", "text"] (spBookOf CO CB CR CL) := by
  refine F.okX scBookOf (fun vs H Q E h => ?_) (fun cdv A outer s H vs Q E hr h => ?_)
  · obtain ⟨z, rfl, _⟩ := h
    rfl
  · obtain ⟨z, rfl, lz, ln, ft, q1, q2⟩ := h
    obtain ⟨fL, fdL, iL, tL, FL, _, _, bL⟩ := OL.ex
    refine ⟨_, (pss_cons (ps_if (pt_cmpR op_eq (pv 1) pe_str (nomark _))
  (pss_one (ps_ret (pe_makeV0 (i := 0) BmD (hr.mono (by decide)) pass0 rfl (Or.inl rfl))))
  pss_nil)
  (pss_cons (ps_set (i := 2) scBookOf.nd rfl (Or.inl rfl) (pe_lst pa_nil))
  (pss_cons (ps_for (passes_of rfl) rfl (pi_enum (by rfl) T.enumerate (pa_cons (pe_split (pv 1) pe_str) pa_nil)) (pg_tup rfl (pgs_cons (pg_name (i := 3) scBookOf.nd rfl (Or.inl rfl)) (pgs_cons (pg_name (i := 4) scBookOf.nd rfl (Or.inl rfl)) pgs_nil)))
  (pss_cons (ps_set (i := 5) scBookOf.nd rfl (Or.inl rfl) (pe_cal Crl (hr.mono (by decide)) pass0 (pa_cons (pv 4) pa_nil)))
  (pss_cons (ps_if (pt_cmpR o_isN (pv 5) pe_non (nomark _))
  (pss_one (ps_raise rfl (takes_of rfl rfl rfl rfl) (pmk_oex OL.T iL tL FL (hr.mono (by decide)) bL .nil pass0 (by rfl) OL.gC (pa_cons (pv 3) pa_nil))))
  pss_nil)
  (pss_one (ps_expr (pe_bm PySem.F.plainAttrs_list PySem.F.slot_list_append PySem.F.type_list_append mt_append (pv 2) (pa_cons (pv 5) pa_nil)))))))
  (pss_one (ps_ret (pe_makeV (i := 0) BmX (hr.mono (by decide)) (passes_call (takes_of rfl rfl rfl rfl) (fun _ _ _ _ h => h)) rfl (Or.inl rfl) (pa_cons (pe_lcE (E := E) (own := [("kind", 6), ("contents", 7)]) (g := gTup _ 2 (gCons (gName 6) (gCons (gName 7) gNil))) (tt := tYes) rfl rfl (takes_of rfl rfl rfl rfl) rfl scBookOf.nd (pi_list (pv 2)) (blkOk_by (N := ["cls", "text", "rows", "number", "line", "row", "kind", "contents"]) (sc := defScope sBookOf) (by decide +kernel)) (fun _ _ _ _ _ => (pg_tup rfl (pgs_cons (pg_name (i := 6) scBookOf.nd rfl (Or.inl rfl)) (pgs_cons (pg_name (i := 7) scBookOf.nd rfl (Or.inl rfl)) pgs_nil)))) (fun _ _ _ _ _ => pts_nil) (fun _ _ _ _ _ xb hx => (pe_makeS OoX (hr.mono (by decide)) hx (pa_cons (pv 6) (pa_cons (pv 7) pa_nil))))) pa_nil))))))), ?_⟩
    walk_at "in"
    walk_at "go"
    refine ite_d (fun c => ?_) fun c => ?_
    · have ez : z = dash := by injection c
      walk_at "go"
      refine ⟨rfl, r_mk (r_nil ?_)⟩
      intro x dx hx hdx hne
      have sI : Same H (upd (upd H dx (.own x)) x (.ins CB dx [])) := fun c o e => by
        have e1 := upd_at (a := dx) (o := HO.own x) e (ne_of_none e hdx)
        exact upd_at e1 (ne_of_none e hx)
      refine ⟨x, dx, t0, [], [], rfl, upd_same, .inr (e0 _), .nil, by decide, fun _ h => (nomatch h), ⟨fun _ => 0, fun _ _ ⟨_, h, _⟩ => nomatch h⟩, fun rs H' bk me kp _ => ⟨rfl, ?_⟩⟩
      obtain rfl : rs = [] := List.eq_nil_iff_forall_not_mem.mpr fun r hr => nomatch (me r).mp hr
      exact q1 ez x H' hx bk fun c o e => kp c o (sI _ _ e) (ne_of_none e hx)
    · have nz : z ≠ dash := fun e => c (by rw [e]; rfl)
      obtain ⟨qa, qb⟩ := q2 nz
      have hsl := PySem.sizeLine_eq
      walk_at "go"
      rename_i R hR
      refine ⟨z, lnf, rfl, rfl, by decide +kernel, by omega, fun S hS => ?_⟩
      have sR : Same H (upd H R (.lst [])) := fun c o e => upd_at e (ne_of_none e hR)
      have nRS : R ≠ S := fun z => by rw [← z, upd_same] at hS; cases hS
      have s2 : Same H (upd (upd H R (.lst [])) S (.lst ((lines z).map V.str))) := fun c o e => upd_at (sR _ _ e) (ne_of_none (sR _ _ e) hS)
      have hR2 : upd (upd H R (.lst [])) S (.lst ((lines z).map V.str)) R = some (.lst []) := upd_at upd_same nRS
      have hS2 : upd (upd H R (.lst [])) S (.lst ((lines z).map V.str)) S = some (.lst ((lines z).map V.str)) := upd_same
      show _
      walk_at "go"
      refine ⟨_, _, rfl, SqL.of hS2, ?_⟩
      generalize upd (upd H R (.lst [])) S (.lst ((lines z).map V.str)) = H2 at s2 hR2 hS2 ⊢
      have lml : ((lines z).map V.str).length = (lines z).length := List.length_map _
      refine for_it (walk_enum (xs := (lines z).map V.str)) (fun i σ H' => ∃ (ts : List V) (rs : List Row) (x3 x4 x5 x6 x7 : Option V), σ = [some (.ref CB), some (.str z), some (.ref R), x3, x4, x5, x6, x7] ∧ H' R = some (.lst ts) ∧ Paired (RdV C H') ts rs ∧ Paired GoodL ((lines z).take i) rs ∧ Kp R H2 H') ?_ ?_ ?_ ?_
      · exact ⟨[], [], _, _, _, _, _, rfl, hR2, .nil, .nil, fun _ _ e _ => e⟩
      · rintro i σ H3 _ ⟨_, _, _, _, _, _, _, _, _, _, _, k3⟩
        exact SqL.of (k3 _ _ hS2 nRS.symm)
      · rintro i x σ H3 H4 hi ⟨ts, rs, x3, x4, x5, x6, x7, rfl, hR3, hts, gd, k3⟩ ⟨t, u, v, rfl, ht, rfl, hu, hv⟩
        obtain rfl : V.int (i : Nat) = u := Option.some.inj hu
        obtain ⟨l, rfl, hl⟩ := map_some hv
        rw [lml] at hi
        have s4 : Same H3 (upd H3 t (.tup [V.int (i : Nat), V.str l])) := fun c o e => upd_at e (ne_of_none e ht)
        have ht4 : upd H3 t (.tup [V.int (i : Nat), V.str l]) t = some (.tup [V.int (i : Nat), V.str l]) := upd_same
        generalize upd H3 t (.tup [V.int (i : Nat), V.str l]) = H4 at s4 ht4 ⊢
        have lts := Paired.len hts
        have lrs := Paired.len gd
        rw [List.length_take] at lrs
        walk_at "go"
        refine ⟨l, rfl, ft l (List.mem_of_getElem? hl), fun r p x H5 g hp hp5 lo s5 => ?_, fun H5 bad s5 => ?_⟩
        · have s35 : Same H3 H5 := fun c o e => s5 _ _ (s4 _ _ e)
          walk_at "go"
          refine ite_dF (by intro z; cases z) ?_
          have hR5 := s35 _ _ hR3
          walk_at "go"
          refine ⟨ts ++ [.ref p], rs ++ [r], _, _, _, _, _, rfl, upd_same, ?_, Paired.tk1 gd hl g, fun c o e n => by rw [upd_ne n]; exact s35 _ _ (k3 _ _ e n)⟩
          exact Paired.app (Paired.mapP hts fun _ _ y => RdV.kl y ((KL.of s35).trans (KL.lst hR5))) (.cons (RdV.kl ⟨p, x, rfl, hp5, lo⟩ (KL.lst hR5)) .nil)
        · have s35 : Same H3 H5 := fun c o e => s5 _ _ (s4 _ _ e)
          have sZ : Same H H5 := fun c o e => s35 _ _ (k3 _ _ (s2 _ _ e) (ne_of_none e hR))
          walk_at "go"
          refine ite_dT rfl ?_
          refine r_cons (r_var rfl (r_nil ⟨by simp, fun a ha => end1X (Q := E) ha fun d' H' hd' s' hx => qa i l d' H' hl bad (fun i' l' hi' hl' => ?_) (sZ.free hd') (fun c o e => s' _ _ (sZ _ _ e)) hx⟩))
          obtain ⟨r, _, g⟩ := Paired.at gd (show ((lines z).take i)[i']? = some l' by rw [List.getElem?_take, if_pos hi']; exact hl')
          exact ⟨r, g⟩
      · rintro σ H3 ⟨ts, rs, x3, x4, x5, x6, x7, rfl, hR3, hts, gd, k3⟩
        rw [lml, List.take_length] at gd
        obtain ⟨qo, qe⟩ := qb rs gd
        have lts := Paired.len hts
        have lrs := Paired.len gd
        have s3 : Same H H3 := fun c o e => k3 _ _ (s2 _ _ e) (ne_of_none e hR)
        walk_at "go"
        refine ⟨rfl, r_mk (r_cons ?_)⟩
        walk_at "go"
        intro D hD
        refine lc_it (walk_list (xs := ts)) (fun i H' => ∃ os, H' D = some (.lst os) ∧ Paired (OpV CO H') os (rs.take i) ∧ (∀ r ∈ rs.take i, RowOk r) ∧ Same H3 H') ?_ ?_ ?_ ?_
        · exact ⟨[], upd_same, .nil, fun _ h => (nomatch h), fun c o e => upd_at e (ne_of_none e hD)⟩
        · rintro i H' _ ⟨_, _, _, _, s4⟩
          exact SqL.of (s4 _ _ hR3)
        · rintro i v _ H4 hi ⟨os, hD4, hos, okb, s4⟩ ⟨rfl, hv⟩
          obtain ⟨r, hr1, p, x, rfl, hp, m, Lx, cn⟩ := Paired.at hts hv
          have hp4 := s4 _ _ hp
          have Lx4 := Lx.same s4
          have los := Paired.len hos
          rw [List.length_take] at los
          walk_at "go"
          refine ⟨rfl, r_yes (iteT ?_)⟩
          refine r_mkS (r_cons (r_var rfl (r_cons (r_var rfl (r_nil ?_)))))
          intro o dx ho hdx hne
          have sI : Same H4 (upd (upd H4 dx (.own o)) o (.ins CO dx [])) := fun c o' e => by
            have e1 := upd_at (a := dx) (o := HO.own o) e (ne_of_none e hdx)
            exact upd_at e1 (ne_of_none e ho)
          obtain ⟨_, nd, mp, _⟩ := id Lx
          obtain ⟨l, hl⟩ : ∃ l, (lines z)[i]? = some l := ⟨_, List.getElem?_eq_getElem (by omega)⟩
          obtain ⟨r', hr', g⟩ := Paired.at gd hl
          obtain rfl : r = r' := Option.some.inj (hr1.symm.trans hr')
          have ne' : m ≠ [] := fun e => g.ne (List.eq_nil_iff_forall_not_mem.mpr fun q hq => by
            have := (cn.mem mp q).mp hq
            rw [e] at this
            cases this)
          by_cases self : r.1 ∈ keys r.2
          · have g0 : 0 < get m r.1 := by
              obtain ⟨q, hq, e⟩ := List.mem_map.mp self
              have := (mem_pos nd).mp (cn.1.mem_iff.mp (show (q.1, q.2) ∈ r.2 from hq))
              rw [← e]
              omega
            refine ⟨o, dx, x, r.1, m, rfl, upd_same, Lx4.same sI, .inr (.inl ⟨ne', g0, fun d t H' _ s' ht hd => qe d t [r.1] H' (fun c o e => s' _ _ (sI _ _ (s4 _ _ (s3 _ _ e)))) ⟨by simp, fun i x y e1 e2 => ?_⟩ (by show 1 ≤ 3001; decide) ht hd⟩)⟩
            cases i with
            | zero =>
              obtain rfl : r.1 = y := Option.some.inj e1
              obtain rfl : r.1 = x := Option.some.inj e2
              exact ⟨r, List.mem_of_getElem? hr1, rfl, self⟩
            | succ j => simp at e1
          · have g0 : get m r.1 = 0 := by
              have h0 := get_nn mp nd r.1
              by_cases c : 0 < get m r.1
              · exact absurd (List.mem_map.mpr ⟨(r.1, get m r.1), cn.1.mem_iff.mpr ((mem_pos nd).mpr ⟨rfl, c⟩), rfl⟩) self
              · omega
            refine ⟨o, dx, x, r.1, m, rfl, upd_same, Lx4.same sI, .inr (.inr ⟨ne', g0, fun qs H5 op cq kp => ⟨rfl, ?_⟩⟩)⟩
            obtain rfl : qs = r.2 := cn_unique nd nd cq cn fun _ _ => rfl
            have s45 : Same H4 H5 := fun c o' e => kp _ _ (sI _ _ e) (ne_of_none e ho)
            have hD5 := s45 _ _ hD4
            have tk : rs.take (i + 1) = rs.take i ++ [r] := by rw [List.take_add_one, hr1]; rfl
            refine ⟨os, hD5, szl (by omega), os ++ [.ref o], upd_same, ?_, fun q hq => ?_, fun c o' e => upd_at (s45 _ _ (s4 _ _ e)) (ne_of_none e hD)⟩
            · rw [tk]
              exact Paired.app (Paired.mapP (OpV.all hos s45) fun _ _ y => OpV.kl y (KL.lst hD5)) (.cons (OpV.kl ⟨o, rfl, op⟩ (KL.lst hD5)) .nil)
            · rw [tk] at hq
              rcases List.mem_append.mp hq with hq | hq
              · exact okb q hq
              · rw [List.mem_singleton.mp hq]
                exact g.row (ft l (List.mem_of_getElem? hl)) self
        · rintro H4 ⟨os, hD4, hos, okb, s4⟩
          rw [lts, List.take_length] at hos okb
          have s04 : Same H H4 := fun c o e => s4 _ _ (s3 _ _ e)
          refine r_nil (bookInitX_end (.inl (SqL.of hD4)) hos (by omega) okb (fun c rs' H5 hc hbk me s5 => ?_) fun d t xs H5 s5 rg lx ht hd => ?_)
          · exact qo c rs' H5 (s04.free hc) hbk me fun c o e => s5 _ _ (s04 _ _ e)
          · exact qe d t xs H5 (fun c o e => s5 _ _ (s04 _ _ e)) rg lx ht hd
end


/-! lists of rows, held against each other -/
def SL (H : Hp) (u v : V) : Prop := ∃ (x y : Addr) (ds ds2 : List V) (rws : List Row), u = .ref x ∧ v = .ref y ∧ H x = some (.lst ds) ∧ H y = some (.lst ds2) ∧ Paired (RwV H) ds rws ∧ Paired (RwV H) ds2 rws ∧ rws.length ≤ 100 ∧ ∀ r ∈ rws, r.2.length ≤ 100
theorem SL.same {H H' : Hp} {u v : V} (h : SL H u v) (s : Same H H') : SL H' u v := by
  obtain ⟨x, y, ds, ds2, rws, e1, e2, h1, h2, h3, h4, h5⟩ := h
  exact ⟨x, y, ds, ds2, rws, e1, e2, s _ _ h1, s _ _ h2, RwV.all h3 s, RwV.all h4 s, h5⟩
def El (H : Hp) (u v : V) : Prop := (∃ n : Int, u = .int n ∧ v = .int n) ∨ (∃ n : Bool, u = .bl n ∧ v = .bl n) ∨ SL H u v
theorem El.same {H H' : Hp} {u v : V} (h : El H u v) (s : Same H H') : El H' u v := h.imp id fun h => h.imp id fun z => z.same s
theorem sm_row {K : PySem.W.Frag} {n : Nat} {H : Hp} {u v : V} {r : Row} (h1 : RwV H u r) (h2 : RwV H v r) (l : r.2.length ≤ 1000) : Sm K (n + 4) u v H := by
  obtain ⟨a, b, xs, rfl, a1, a2, a3⟩ := h1
  obtain ⟨c, d, ys, rfl, c1, c2, c3⟩ := h2
  exact sm_tupl a1 c1 rfl (by show 2 ≤ 1000; omega) (at2 (sm_str rfl) (sm_prs a2 c2 a3 c3 l))
theorem El.sm {K : PySem.W.Frag} {n : Nat} {H : Hp} {u v : V} (h : El H u v) : Sm K (n + 5) u v H := by
  rcases h with ⟨i, rfl, rfl⟩ | ⟨i, rfl, rfl⟩ | ⟨x, y, ds, ds2, rws, rfl, rfl, h1, h2, h3, h4, h5, h6⟩
  · exact sm_int rfl
  · exact sm_bl rfl
  · have l1 := Paired.len h3
    have l2 := Paired.len h4
    refine sm_lst h1 h2 (by omega) (by omega) fun i u v hu hv => ?_
    obtain ⟨r, hr, g1⟩ := Paired.at h3 hu
    obtain ⟨r2, hr2, g2⟩ := Paired.at h4 hv
    rw [hr] at hr2
    cases hr2
    exact sm_row g1 g2 (Nat.le_trans (h6 r (List.mem_of_getElem? hr)) (by omega))
def Els (H : Hp) (us vs : List V) : Prop := us.length = vs.length ∧ ∀ (j : Nat) (u v : V), us[j]? = some u → vs[j]? = some v → El H u v
theorem Els.same {H H' : Hp} {us vs : List V} (h : Els H us vs) (s : Same H H') : Els H' us vs := ⟨h.1, fun j u v hu hv => (h.2 j u v hu hv).same s⟩
theorem Els.nil {H : Hp} : Els H [] [] := ⟨rfl, fun _ _ _ h => by simp at h⟩
theorem Els.snoc {H : Hp} {us vs : List V} {u v : V} (h : Els H us vs) (e : El H u v) : Els H (us ++ [u]) (vs ++ [v]) := by
  refine ⟨by rw [List.length_append, List.length_append, h.1]; rfl, fun j a b ha hb => ?_⟩
  by_cases c : j < us.length
  · rw [List.getElem?_append_left c] at ha
    rw [List.getElem?_append_left (by rw [← h.1]; exact c)] at hb
    exact h.2 j a b ha hb
  · rw [List.getElem?_append_right (by omega)] at ha
    rw [List.getElem?_append_right (by rw [← h.1]; omega), ← h.1] at hb
    have : j - us.length = 0 := by
      have := (List.getElem?_eq_some_iff.mp ha).1
      simp at this
      omega
    rw [this] at ha hb
    cases ha
    cases hb
    exact e
theorem Els.sm {K : PySem.W.Frag} {n : Nat} {H : Hp} {a b : Addr} {us vs : List V} (ha : H a = some (.lst us)) (hb : H b = some (.lst vs)) (h : Els H us vs) (l : us.length ≤ 1000) : Sm K (n + 6) (.ref a) (.ref b) H :=
  sm_lst ha hb h.1 l fun j u v hu hv => (h.2 j u v hu hv).sm
theorem paired_zip {α : Type} {R : V → α → Prop} : ∀ {xs : List V} {rs : List α}, Paired R xs rs → ∃ ps : List (V × α), ps.map (·.1) = xs ∧ ps.map (·.2) = rs ∧ ∀ p ∈ ps, R p.1 p.2
  | _, _, .nil => ⟨[], rfl, rfl, fun _ h => (nomatch h)⟩
  | x :: _, r :: _, .cons h t => by
    obtain ⟨ps, e1, e2, e3⟩ := paired_zip t
    refine ⟨(x, r) :: ps, by rw [List.map_cons, e1], by rw [List.map_cons, e2], fun p hp => ?_⟩
    rcases List.mem_cons.mp hp with z | z
    · rw [z]; exact h
    · exact e3 p z
theorem zip_paired {α : Type} {R : V → α → Prop} : ∀ {ps : List (V × α)}, (∀ p ∈ ps, R p.1 p.2) → Paired R (ps.map (·.1)) (ps.map (·.2))
  | [], _ => .nil
  | p :: ps, h => .cons (h p List.mem_cons_self) (zip_paired fun q hq => h q (List.mem_cons_of_mem _ hq))
theorem ordRow : OrdD Row rowD := ⟨alike_row, plD0_row, fun _ e => (nomatch e), fun r => Nat.le_trans (depth_row r) (by decide)⟩
theorem rows_rise {K : PySem.W.Frag} {H : Hp} {Q : VK} {E : XK} {l : Addr} {ts : List V} {rows : List Row} (hl : SqL K H l ts) (hts : Paired (RwV H) ts rows) (lr : rows.length ≤ 1000) (nd : rows.Nodup) (q : ∀ (p : Addr) (gs : List V) (rs : List Row) (H' : Hp), H p = none → H' p = some (.lst gs) → Paired (RwV H') gs rs → RAsc rs → rs.Perm rows → Same H H' → Q (.ref p) H') : spRisingD K [.ref l] H Q E := by
  obtain ⟨ps, e1, e2, e3⟩ := paired_zip hts
  subst e1
  subst e2
  refine ⟨Row, rowD, l, ps, rfl, hl, ordRow, fun H' s p hp => ?_, by rwa [List.length_map] at lr, fun p qs H' hp hp' pm pw s => ?_⟩
  · exact PlA.dp ((e3 p hp).same s)
  · have pm2 := pm.map (·.2)
    have nd2 := pm2.nodup_iff.mpr nd
    refine q p _ (qs.map (·.2)) H' hp hp' (zip_paired fun z hz => RwV.same (e3 z (pm.mem_iff.mp hz)) s) ?_ pm2 s
    refine List.pairwise_map.mpr (List.Pairwise.imp (fun {a b} z => ?_) (List.Pairwise.and pw (List.pairwise_map.mp nd2)))
    rcases (oLe_iff (alike_row _ _) (plD0_row _) (plD0_row _)).mp z.1 with h | h
    · exact absurd (rowD_inj h) z.2
    · exact h
theorem eqV_str (a b : Str) : eqV (.str a) (.str b) = decide (a = b) := by
  by_cases h : a = b
  · subst h
    simp [eqV]
  · simp [eqV, h]
theorem lookB {m : Str} {v u : V} (h : (m == ("_openings" : Str)) = false := by decide +kernel) (h2 : (m == ("_parts" : Str)) = false := by decide +kernel) : List.lookup m [(("_openings" : Str), v), ("_parts", u)] = none := by
  rw [List.lookup_cons, h, List.lookup_cons, h2]
  rfl
theorem pi_tupK {X : Cx} {tg l : Expr} {tl : TE} (K : PySem.W.Frag) (hl : PE X l tl) (e : X.K = K := by rfl) : PI X tg l (iTup K tl) := by
  subst e
  exact pi_tup hl
section
variable {P : Program} {w : World} {K : PySem.W.Frag} {mg : Str → Option Value} {base : Heap} {C CO CB : Addr}
end


theorem data_str (a b : Str) : PySem.W.dataLt (.str a) (.str b) = decide (cds a < cds b) := by
  show (PyProof.Rows.itemLt (.inr a.cps.toList) (.inr b.cps.toList) || (!_ && false)) = _
  rw [Bool.and_false, Bool.or_false]
  rfl
theorem ordStr : OrdD Str PyData.str := ⟨fun _ _ => rfl, fun _ => rfl, fun _ e => (nomatch e), fun _ => Nat.zero_le _⟩
theorem oLe_str {a b : Str} (h : oLe (.str a) (.str b) = true) (n : a ≠ b) : cds a < cds b := by
  have h2 := data_lt (show PySem.W.alike (.str a) (.str b) = true from rfl) rfl rfl (fun e => n (by injection e)) (by unfold oLe at h; simpa using h)
  rw [data_str] at h2
  exact of_decide_eq_true h2
theorem strs_rise {K : PySem.W.Frag} {H : Hp} {Q : VK} {E : XK} {l : Addr} {ks : List Str} (hl : SqL K H l (ks.map V.str)) (lr : ks.length ≤ 1000) (nd : ks.Nodup) (q : ∀ (p : Addr) (ys : List Str) (H' : Hp), H p = none → H' p = some (.lst (ys.map V.str)) → (ys.Pairwise fun a b => cds a < cds b) → ys.Perm ks → Same H H' → Q (.ref p) H') : spRisingD K [.ref l] H Q E := by
  refine ⟨Str, PyData.str, l, ks.map fun k => (V.str k, k), rfl, by rw [List.map_map]; exact hl, ordStr, fun H' s p hp => ?_, by rwa [List.length_map], fun p qs H' hp hp' pm pw s => ?_⟩
  · obtain ⟨k, _, rfl⟩ := List.mem_map.mp hp
    exact .str k
  · have pm2 := pm.map (·.2)
    rw [List.map_map, show ((fun x : V × Str => x.2) ∘ fun k => (V.str k, k)) = id from rfl, List.map_id] at pm2
    have e : qs.map (·.1) = (qs.map (·.2)).map V.str := by
      rw [List.map_map]
      refine List.map_congr_left fun z hz => ?_
      obtain ⟨k, _, rfl⟩ := List.mem_map.mp (pm.mem_iff.mp hz)
      rfl
    rw [e] at hp'
    refine q p (qs.map (·.2)) H' hp hp' ?_ pm2 s
    have nd2 := pm2.nodup_iff.mpr nd
    exact List.pairwise_map.mpr (List.Pairwise.imp (fun {a b} z => oLe_str z.1 z.2) (List.Pairwise.and pw (List.pairwise_map.mp nd2)))
section
variable {P : Program} {w : World} {K : PySem.W.Frag} {mg : Str → Option Value} {base : Heap} {C CO CB : Addr}
end


def lineS (r : Row) : Str := (r.1 ++ eqs) ++ ltx r.2
/-- a row whose line can be read -/
structure LnR (r : Row) : Prop where
  kk : KindS r.1
  ne : r.2 ≠ []
  ln : r.2.length ≤ 20
  ps : ∀ p ∈ r.2, 0 < p.2 ∧ p.2 < 10 ^ 20 ∧ KindS p.1
  up : (keys r.2).Pairwise fun a b => cds a < cds b
theorem lw_wd (p : Str × Int) : wd p = lw p := by
  unfold wd lw
  rw [empty_app]
  rfl
theorem txt_ltx (qs : AL) : txt qs = ltx qs := by
  unfold txt ltx
  rw [List.map_congr_left fun p _ => lw_wd p]
  rfl
theorem otx_line (k : Str) (qs : AL) : otx k qs = lineS (k, qs) := by
  unfold otx lineS
  rw [empty_app, txt_ltx]
  rfl
theorem LnR.b (h : LnR r) : ∀ p ∈ r.2, p.2.natAbs < 2 ^ 300 := fun p hp => by
  have := (h.ps p hp).1
  have h2 := (h.ps p hp).2.1
  have : (10 : Int) ^ 20 < 2 ^ 300 := by decide +kernel
  omega
theorem LnR.codes (r : Row) : cds (lineS r) = cds r.1 ++ (32 :: 61 :: 32 :: cds (ltx r.2)) := by
  unfold lineS
  rw [cds_app, cds_app, cds_eqs, List.append_assoc]
  rfl
theorem LnR.good {r : Row} (h : LnR r) : GoodL (lineS r) r := by
  have rd := reads_ltx h.ne (fun p hp => ⟨(h.ps p hp).1, (h.ps p hp).2.1⟩) (fun p hp => (h.ps p hp).2.2) h.up
  rcases rd.ex with ⟨_, e⟩ | ⟨nd, o, _⟩
  · exact absurd e h.ne
  · exact good_of (LnR.codes r) h.kk o nd rd
theorem LnR.fit {r : Row} (h : LnR r) : Fit (lineS r) ∧ (lineS r).length ≤ 10100 := by
  have e := LnR.codes r
  have k8 := h.kk.2.1
  have e1 := congrArg List.length e
  rw [List.length_append] at e1
  simp only [List.length_cons] at e1
  have tl := txt_len h.b (fun p hp => (h.ps p hp).2.2) (Nat.le_trans h.ln (by decide))
  rw [txt_ltx, len_cds] at tl
  have e2 := congrArg (List.count 32) e
  rw [List.count_append, List.count_eq_zero.mpr (kind_free h.kk (by decide)), List.count_cons_self, List.count_cons_of_ne (by decide), List.count_cons_self] at e2
  have w1 := words_len (ltx r.2)
  rw [words_ltx h.ne (fun p hp => (h.ps p hp).1) fun p hp => (h.ps p hp).2.2, flat2_len] at w1
  have := h.ln
  exact ⟨⟨by rw [len_cds]; omega, by omega⟩, by rw [len_cds]; omega⟩
section
variable {P : Program} {w : World} {K : PySem.W.Frag} {mg : Str → Option Value} {base : Heap} {C CO CB CN CH CR CL : Addr}
abbrev sLine : Stmt := top 44
theorem scLine : FnScope ["_law_row", "_law_own", "_law_far"] ["_law_row"] (defScope sLine) := ⟨rfl, rfl, rfl, by decide +kernel, rfl, by decide +kernel, by decide +kernel⟩
def spLine : Sp := fun vs H Q _ => ∃ (v : V) (r : Row), vs = [v] ∧ RwV H v r ∧ LnR r ∧ ∀ H', Same H H' → Q (.str (lineS r)) H'
theorem ok_line {f : Addr} {fd : FuncData} (F : Fun K "_law_line" "_law_line" sLine f fd) (T : Txt K mg) : FnOk P w K mg base CX0 1 f fd ["_law_row"] spLine := by
  refine F.ok scLine (fun vs H Q E h => ?_) (fun cdv A outer s H vs Q E hr h => ?_)
  · obtain ⟨v, r, rfl, _⟩ := h
    rfl
  · obtain ⟨v, r, rfl, ⟨t, p, ts, rfl, ht, hp, hts⟩, ln, q⟩ := h
    refine ⟨_, (pss_one (ps_ret (pe_op o_catS (pe_op o_catS (pe_ix ix_tup (pv 0) pe_int (fun _ _ => rfl)) pe_str) (pe_joinR pe_str (pe_lc (own := [("_law_own", 1), ("_law_far", 2)]) (g := gTup _ 2 (gCons (gName 1) (gCons (gName 2) gNil))) (tt := tYes) rfl scLine.nd (pi_tupK K (pe_ix ix_tup (pv 0) pe_int (fun _ _ => rfl))) (blkOk_by (N := ["_law_row", "_law_own", "_law_far"]) (sc := defScope sLine) (by decide +kernel)) (fun _ _ _ _ _ => (pg_tup rfl (pgs_cons (pg_name (i := 1) scLine.nd rfl (Or.inl rfl)) (pgs_cons (pg_name (i := 2) scLine.nd rfl (Or.inl rfl)) pgs_nil)))) (fun _ _ _ _ _ => pts_nil) (fun _ _ _ _ _ => (pe_op o_catS (pe_op o_catS (pe_callTy call_str_int (by rfl) T.str (by decide +kernel) (pa_cons (pv 2) pa_nil)) pe_str) (pv 1)))))))), ?_⟩
    have hsl := PySem.sizeLine_eq
    have lts := Paired.len hts
    have k8 := ln.kk.2.1
    rw [← len_cds] at k8
    have n3 : (Str.ofString " = ").length = 3 := by decide +kernel
    walk_at "in"
    walk_at "go"
    refine r_ixT (SqT.of ht) rfl ?_
    walk_at "go"
    refine r_catS (by omega) ?_
    walk_at "go"
    refine r_ixT (SqT.of ht) rfl ?_
    walk_at "go"
    intro D hD
    refine lc_it (walk_tup (xs := ts)) (fun i H' => H' D = some (.lst (((r.2.take i).map lw).map V.str)) ∧ Same H H') ?_ ?_ ?_ ?_
    · exact ⟨upd_same, fun c o e => upd_at e (ne_of_none e hD)⟩
    · rintro i H' _ ⟨_, s2⟩
      exact SqT.of (s2 _ _ hp)
    · rintro i x' _ H2 hi ⟨hD2, s2⟩ ⟨rfl, hx'⟩
      obtain ⟨g, hr1, u, rfl, hu⟩ := Paired.at hts hx'
      have hu2 := s2 _ _ hu
      have hrm := List.mem_of_getElem? hr1
      have j8 := (ln.ps g hrm).2.2.2.1
      rw [← len_cds] at j8
      have nl := num_len2 (ln.b g hrm)
      have n4 : (Str.ofString " ").length = 1 := by decide +kernel
      have l20 := ln.ln
      walk_at "go"
      refine ⟨rfl, ?_⟩
      walk_at "go"
      refine iteT ?_
      walk_at "go"
      refine ⟨by have := num_len (ln.b g hrm); omega, ?_⟩
      walk_at "go"
      refine r_catS (by omega) ?_
      walk_at "go"
      refine r_catS (by rw [Str.length_append]; omega) ?_
      refine ⟨_, hD2, szl (by rw [List.length_map, List.length_map, List.length_take]; omega), ?_, fun c o e => upd_at (s2 _ _ e) (ne_of_none e hD)⟩
      rw [List.take_add_one, hr1, List.map_append, List.map_append]
      exact upd_same
    rintro H2 ⟨hD2, s2⟩
    rw [lts, List.take_length] at hD2
    have l20 := ln.ln
    have h2 := sum_bound (B := 310) (r.2.map lw) fun s hs => by
      obtain ⟨p, hp, rfl⟩ := List.mem_map.mp hs
      rw [← lw_wd]
      exact wd_len (ln.b p hp) (ln.ps p hp).2.2
    rw [List.length_map] at h2
    have n4 : (Str.ofString " ").length = 1 := by decide +kernel
    refine r_join (ys := r.2.map lw) (SqL.of hD2) (by rw [List.length_map, n4]; omega) ?_
    have fl := ln.fit.2
    unfold lineS at fl
    rw [Str.length_append] at fl
    refine r_catS (Nat.le_trans fl (by rw [hsl]; decide)) ?_
    exact q H2 s2
end


section
variable {P : Program} {w : World} {K : PySem.W.Frag} {mg : Str → Option Value} {base : Heap} {C CO CB CN CH CR CL : Addr}
/-- the errors BadLine and Ringed -/
structure TxR3 (K : PySem.W.Frag) (mg : Str → Option Value) (CL CR CH : Addr) : Prop where
  gL : mg "BadLine" = some (.ref CL)
  gR : mg "Ringed" = some (.ref CR)
  gH : mg "Hollow" = some (.ref CH)
  gv : mg "ValueError" = none
  mL : PySem.W.exmOne K (.ref CL) (.ref CL) = some true
  mRL : PySem.W.exmOne K (.ref CR) (.ref CL) = some false
  mR : PySem.W.exmOne K (.ref CR) (.ref CR) = some true
  cL : ExcC K CL
  cR : ExcC K CR
  fL : XfC K CL
  fR : XfC K CR
  vL : PySem.W.kitOne K (.ref CL) (.type "ValueError") = some true
  lh : PySem.W.kitOne K (.ref CL) (.ref CH) = some false
  rl : PySem.W.kitOne K (.ref CR) (.ref CL) = some false
  nL : PySem.W.findIn K (.ref CL) "number" = some none
  nR : PySem.W.findIn K (.ref CR) "ring" = some none
abbrev sRead : Stmt := top 45
theorem scRead : FnScope ["_law_text_so", "_law_near", "error_a", "error_b", "error_c", "_law_told", "_law_made_here", "_law_bad_so", "_law_ringed_so", "_law_hollow_so"] ["_law_text_so", "_law_near"] (defScope sRead) := ⟨rfl, rfl, rfl, by decide +kernel, rfl, by decide +kernel, by decide +kernel⟩
/-- what reading gives -/
def spRead (CO CB : Addr) : Sp := fun vs H Q _ => ∃ (z : Str) (near : Int), vs = [.str z, .int near] ∧ z.length ≤ 10000000 ∧ (lines z).length ≤ 63 ∧ (∀ l ∈ lines z, Fit l) ∧
  (z = dash → ∀ (b r t : Addr) (H' : Hp), H b = none → BookA CO CB H' b [] → H' r = some (.lst [.ref b, .ref t]) → H' t = some (.lst [.non, .non]) → Same H H' → Q (.ref r) H') ∧
  (z ≠ dash → (∀ (n : Nat) (l : Str) (r t u : Addr) (H' : Hp), (lines z)[n]? = some l → BadL l → (∀ (i : Nat) l, i < n → (lines z)[i]? = some l → ∃ r, GoodL l r) → H' r = some (.lst [.non, .ref t]) → H' t = some (.lst [.ref u, .non]) → H' u = some (.lst [.int n, .bl true, .bl false]) → Same H H' → Q (.ref r) H') ∧
    ∀ rs, Paired GoodL (lines z) rs → (∀ (b r t : Addr) (rs' : List Row) (H' : Hp), H b = none → BookA CO CB H' b rs' → (∀ r, r ∈ rs' ↔ r ∈ rs) → H' r = some (.lst [.ref b, .ref t]) → H' t = some (.lst [.non, .non]) → Same H H' → Q (.ref r) H') ∧
      ∀ (r t u x : Addr) (xs : List Str) (H' : Hp), RingOf rs xs → xs.length ≤ 3001 → H' r = some (.lst [.non, .ref t]) → H' t = some (.lst [.non, .ref u]) → H' u = some (.lst [.ref x, .bl false]) → H' x = some (.tup (xs.map V.str)) → Same H H' → Q (.ref r) H')
theorem if_via {c : Prop} [Decidable c] {A B G : Prop} (h1 : c → G → A) (h2 : ¬ c → G → B) (g : G) : if c then A else B := by
  by_cases h : c
  · rw [if_pos h]; exact h1 h g
  · rw [if_neg h]; exact h2 h g
theorem ok_read {f : Addr} {fd : FuncData} (F : Fun K "_law_read" "_law_read" sRead f fd) (T : Txt K mg) (Y : TxR3 K mg CL CR CH) (gCB : mg "Book" = some (.ref CB)) (Co : CCal P w K mg base (CX P w) 9 CB "of" ["cls", "text"] ["text"] (spBookOf CO CB CR CL)) : FnOk P w K mg base CX0 10 f fd ["_law_text_so", "_law_near"] (spRead CO CB) := by
  refine F.ok scRead (fun vs H Q E h => ?_) (fun cdv A outer s H vs Q E hr h => ?_)
  · obtain ⟨z, near, rfl, _⟩ := h
    rfl
  · obtain ⟨z, near, rfl, lz, ln, ft, q1, q2⟩ := h
    refine ⟨_, pss_cons (ps_asg (pe_tup (pa_cons pe_non (pa_cons pe_non (pa_cons pe_non (pa_cons pe_non pa_nil))))) (pg_tup rfl (pgs_cons (pg_name (i := 6) scRead.nd rfl (Or.inl rfl)) (pgs_cons (pg_name (i := 7) scRead.nd rfl (Or.inl rfl)) (pgs_cons (pg_name (i := 8) scRead.nd rfl (Or.inl rfl)) (pgs_cons (pg_name (i := 9) scRead.nd rfl (Or.inl rfl)) pgs_nil))))))
      (pss_cons (ps_try_as12r (i := 2) (i2 := 3) rfl rfl scRead.nd rfl rfl rfl rfl (by rfl) (by decide) Y.gL (by rfl) (by decide) Y.gR rfl
        (fun W pn xe tk _ => pss_one (ps_set (i := 6) scRead.nd rfl (Or.inl rfl) (pe_ifExp (pt_cmpR op_eq (pv 1) pe_int (nomark _)) (pe_cmS Co (hr.mono (by decide)) (passTk tk) (pe_glob (v := .ref CB) (by rfl) gCB rfl) (pa_cons (pv 0) pa_nil)) (pe_cmSK Co (hr.mono (by decide)) (passTk tk) (pe_glob (v := .ref CB) (by rfl) gCB rfl) (pk_cons (pv 0) pk_nil)))))
        (fun a oe cls d pn hz hf => pss_one (ps_set (i := 7) scRead.nd rfl (Or.inl rfl) (pv 2)))
        (fun a oe cls d pn hz hf => pss_one (ps_set (i := 8) scRead.nd rfl (Or.inl rfl) (pv 3))))
      (pss_cons (ps_set (i := 5) scRead.nd rfl (Or.inl rfl) (pe_lst (pa_cons pe_non (pa_cons pe_non pa_nil))))
      (pss_cons (ps_if (pt_cmpR o_notN (pv 7) pe_non (nomark _)) (pss_one (ps_asg (pe_lst (pa_cons (pe_xd K (pv 7)) (pa_cons (pe_callB (call_isD K) (by rfl) T.isinstance (by decide +kernel) (pa_cons (pv 7) (pa_cons (pe_bltn (v := .ty "ValueError") (by rfl) Y.gv (by decide +kernel) rfl) pa_nil))) (pa_cons (pe_callB (call_isD K) (by rfl) T.isinstance (by decide +kernel) (pa_cons (pv 7) (pa_cons (pe_glob (v := .ref CH) (by rfl) Y.gH rfl) pa_nil))) pa_nil)))) (pg_sub (pv 5) pe_int set_list))) pss_nil)
      (pss_cons (ps_if (pt_cmpR o_notN (pv 8) pe_non (nomark _)) (pss_one (ps_asg (pe_lst (pa_cons (pe_xd K (pv 8)) (pa_cons (pe_callB (call_isD K) (by rfl) T.isinstance (by decide +kernel) (pa_cons (pv 8) (pa_cons (pe_glob (v := .ref CL) (by rfl) Y.gL rfl) pa_nil))) pa_nil))) (pg_sub (pv 5) pe_int set_list))) pss_nil)
      (pss_one (ps_ret (pe_lst (pa_cons (pv 6) (pa_cons (pe_ifExp (pt_cmpR o_isN (pv 9) pe_non (nomark _)) (pv 5) (pe_lst (pa_cons (pe_xd K (pv 9)) (pa_cons pe_non pa_nil)))) pa_nil))))))))), ?_⟩
    walk_at "in"
    walk_at "go"
    rename_i p0 hp0
    have s00 : Same H (upd H p0 (.tup [V.non, V.non, V.non, V.non])) := fun c o e => upd_at e (ne_of_none e hp0)
    obtain ⟨H0, e0⟩ : ∃ H0, H0 = upd H p0 (.tup [V.non, V.non, V.non, V.non]) := ⟨_, rfl⟩
    rw [← e0] at s00 ⊢
    clear e0 hp0
    refine if_via (G := spBookOf CO CB CR CL [.ref CB, .str z] H0 _ _) (fun _ g => r_cmS (r_c ⟨rfl, r_cons (r_var rfl (r_nil g))⟩)) (fun _ g => r_cmSK (r_c ⟨rfl, r_cons (r_var rfl (r_nil g))⟩)) ?_
    refine ⟨z, rfl, lz, ln, ft, fun ez b H1 hb bk s1 => ?_, fun nz => ⟨fun n l d H1 hl bad prev hd s1 hx => ?_, fun rs gd => ⟨fun b rs' H1 hb bk me s1 => ?_, fun d u xs H1 s1 rg lx hu hx => ?_⟩⟩⟩
    · have s01 : Same H H1 := fun c o e => s1 _ _ (s00 _ _ e)
      walk_at "go"
      rename_i tl htl
      have s2 : Same H1 (upd H1 tl (.lst [V.non, V.non])) := fun c o e => upd_at e (ne_of_none e htl)
      have ht2 : (upd H1 tl (.lst [V.non, V.non])) tl = some (.lst [V.non, V.non]) := upd_same
      obtain ⟨H2, e2⟩ : ∃ H2, H2 = upd H1 tl (.lst [V.non, V.non]) := ⟨_, rfl⟩
      rw [← e2] at s2 ht2 ⊢
      clear e2
      refine ite_ndF rfl ?_
      walk_at "go"
      refine ite_ndF rfl ?_
      walk_at "go"
      refine ite_dT rfl ?_
      walk_at "go"
      rename_i r hr1
      have s3 : Same H1 (upd H2 r (.lst [V.ref b, V.ref tl])) := fun c o e => upd_at (s2 _ _ e) (ne_of_none (s2 _ _ e) hr1)
      exact q1 ez b r tl _ (s00.free hb) (bk.same s3) upd_same (upd_at ht2 (ne_of_none ht2 hr1)) fun c o e => s3 _ _ (s01 _ _ e)
    · obtain ⟨qa, _⟩ := q2 nz
      refine .inl ⟨Y.mL, fun e he => ?_⟩
      walk_at "go"
      intro _
      have s2 : Same H (upd H1 e (ExD (.ref CL) (some d) e)) := fun c o e' => by
        have := s1 _ _ (s00 _ _ e')
        exact upd_at this (ne_of_none this he)
      have er1 : Er (upd H1 e (ExD (.ref CL) (some d) e)) e CL [("number", .int n)] := ⟨some d, upd_same, .inr ⟨d, rfl, upd_at hx (ne_of_none hx he)⟩⟩
      obtain ⟨H2, e2⟩ : ∃ H2, H2 = upd H1 e (ExD (.ref CL) (some d) e) := ⟨_, rfl⟩
      rw [← e2] at s2 er1 ⊢
      clear e2 he s1 hx
      walk_at "go"
      rename_i tl htl
      have er2 := er1.same (H' := upd H2 tl (.lst [V.non, V.non])) fun c o e => upd_at e (ne_of_none e htl)
      have s3 : Same H (upd H2 tl (.lst [V.non, V.non])) := fun c o e => upd_at (s2 _ _ e) (ne_of_none (s2 _ _ e) htl)
      have ht3 : (upd H2 tl (.lst [V.non, V.non])) tl = some (.lst [V.non, V.non]) := upd_same
      have htl0 : H tl = none := s2.free htl
      obtain ⟨H3, e3⟩ : ∃ H3, H3 = upd H2 tl (.lst [V.non, V.non]) := ⟨_, rfl⟩
      rw [← e3] at er2 s3 ht3 ⊢
      clear e3 htl er1 s2
      refine ite_ndT (by intro z; cases z) ?_
      walk_at "go"
      refine r_xdv rfl er2 Y.fL Y.nL rfl ?_
      walk_at "go"
      refine ⟨e, CL, _, .ty "ValueError", .type "ValueError", _, rfl, er2, Y.cL, fun u hu => hu, Y.vL, ?_⟩
      walk_at "go"
      refine ⟨e, CL, _, .ref CH, .ref CH, _, rfl, er2, Y.cL, fun u hu => hu, Y.lh, ?_⟩
      walk_at "go"
      rename_i t0 ht0
      refine ite_ndF rfl ?_
      walk_at "go"
      refine ite_dT rfl ?_
      walk_at "go"
      rename_i r hr1
      have n1 : t0 ≠ tl := Ne.symm (ne_of_none ht3 ht0)
      have h1 : r ≠ tl := fun z => by rw [z, upd_same] at hr1; cases hr1
      have h2 : r ≠ t0 := fun z => by rw [z, upd_ne n1, upd_same] at hr1; cases hr1
      have n0 : H3 r = none := by rw [upd_ne h1, upd_ne h2] at hr1; exact hr1
      refine qa n l r tl t0 _ hl bad prev upd_same (by rw [upd_ne h1.symm]; exact upd_same) (by rw [upd_ne h2.symm, upd_ne n1]; exact upd_same) fun c o e => ?_
      have e4 := s3 _ _ e
      rw [upd_ne (ne_of_none e4 n0), upd_ne (ne_of_none e htl0), upd_ne (ne_of_none e4 ht0)]
      exact e4
    · have s01 : Same H H1 := fun c o e => s1 _ _ (s00 _ _ e)
      obtain ⟨_, qb⟩ := q2 nz
      obtain ⟨qo, _⟩ := qb rs gd
      walk_at "go"
      rename_i tl htl
      have s2 : Same H1 (upd H1 tl (.lst [V.non, V.non])) := fun c o e => upd_at e (ne_of_none e htl)
      have ht2 : (upd H1 tl (.lst [V.non, V.non])) tl = some (.lst [V.non, V.non]) := upd_same
      obtain ⟨H2, e2⟩ : ∃ H2, H2 = upd H1 tl (.lst [V.non, V.non]) := ⟨_, rfl⟩
      rw [← e2] at s2 ht2 ⊢
      clear e2
      refine ite_ndF rfl ?_
      walk_at "go"
      refine ite_ndF rfl ?_
      walk_at "go"
      refine ite_dT rfl ?_
      walk_at "go"
      rename_i r hr1
      have s3 : Same H1 (upd H2 r (.lst [V.ref b, V.ref tl])) := fun c o e => upd_at (s2 _ _ e) (ne_of_none (s2 _ _ e) hr1)
      exact qo b r tl rs' _ (s00.free hb) (bk.same s3) me upd_same (upd_at ht2 (ne_of_none ht2 hr1)) fun c o e => s3 _ _ (s01 _ _ e)
    · obtain ⟨_, qb⟩ := q2 nz
      obtain ⟨_, qr⟩ := qb rs gd
      refine .inr ⟨Y.mRL, Y.mR, fun e he => ?_⟩
      walk_at "go"
      intro _
      have s2 : Same H (upd H1 e (ExD (.ref CR) (some d) e)) := fun c o e' => by
        have := s1 _ _ (s00 _ _ e')
        exact upd_at this (ne_of_none this he)
      have er1 : Er (upd H1 e (ExD (.ref CR) (some d) e)) e CR [("ring", .ref u)] := ⟨some d, upd_same, .inr ⟨d, rfl, upd_at hx (ne_of_none hx he)⟩⟩
      have hu2 : (upd H1 e (ExD (.ref CR) (some d) e)) u = some (.tup (xs.map V.str)) := upd_at hu (ne_of_none hu he)
      obtain ⟨H2, e2⟩ : ∃ H2, H2 = upd H1 e (ExD (.ref CR) (some d) e) := ⟨_, rfl⟩
      rw [← e2] at s2 er1 hu2 ⊢
      clear e2 he s1 hx
      walk_at "go"
      rename_i tl htl
      have er2 := er1.same (H' := upd H2 tl (.lst [V.non, V.non])) fun c o e => upd_at e (ne_of_none e htl)
      have s3 : Same H (upd H2 tl (.lst [V.non, V.non])) := fun c o e => upd_at (s2 _ _ e) (ne_of_none (s2 _ _ e) htl)
      have ht3 : (upd H2 tl (.lst [V.non, V.non])) tl = some (.lst [V.non, V.non]) := upd_same
      have hu3 : (upd H2 tl (.lst [V.non, V.non])) u = some (.tup (xs.map V.str)) := upd_at hu2 (ne_of_none hu2 htl)
      have htl0 : H tl = none := s2.free htl
      obtain ⟨H3, e3⟩ : ∃ H3, H3 = upd H2 tl (.lst [V.non, V.non]) := ⟨_, rfl⟩
      rw [← e3] at er2 s3 ht3 hu3 ⊢
      clear e3 htl er1 s2
      refine ite_ndF rfl ?_
      walk_at "go"
      refine ite_ndT (by intro z; cases z) ?_
      walk_at "go"
      refine r_xdv rfl er2 Y.fR Y.nR rfl ?_
      walk_at "go"
      refine ⟨e, CR, _, .ref CL, .ref CL, _, rfl, er2, Y.cR, fun u hu => hu, Y.rl, ?_⟩
      walk_at "go"
      rename_i t0 ht0
      refine ite_dT rfl ?_
      walk_at "go"
      rename_i r hr1
      have n1 : t0 ≠ tl := Ne.symm (ne_of_none ht3 ht0)
      have h1 : r ≠ tl := fun z => by rw [z, upd_same] at hr1; cases hr1
      have h2 : r ≠ t0 := fun z => by rw [z, upd_ne n1, upd_same] at hr1; cases hr1
      have n0 : H3 r = none := by rw [upd_ne h1, upd_ne h2] at hr1; exact hr1
      have n4 : u ≠ tl := fun z => by rw [z, ht3] at hu3; cases hu3
      refine qr r tl t0 u xs _ rg lx upd_same (by rw [upd_ne h1.symm]; exact upd_same) (by rw [upd_ne h2.symm, upd_ne n1]; exact upd_same) (by rw [upd_ne (ne_of_none hu3 n0), upd_ne n4, upd_ne (ne_of_none hu3 ht0)]; exact hu3) fun c o e => ?_
      have e4 := s3 _ _ e
      rw [upd_ne (ne_of_none e4 n0), upd_ne (ne_of_none e htl0), upd_ne (ne_of_none e4 ht0)]
      exact e4
end


section
variable {P : Program} {w : World} {K : PySem.W.Frag} {mg : Str → Option Value} {base : Heap} {C CO CB CN CH CR CL : Addr}
abbrev sBad : Stmt := top 46
theorem scBad : FnScope ["_law_box_here", "_law_names_here", "_law_some", "_law_one_so", "_law_two_so", "_law_low_so", "_law_high_so"] ["_law_box_here", "_law_names_here"] (defScope sBad) := ⟨rfl, rfl, rfl, by decide +kernel, rfl, by decide +kernel, by decide +kernel⟩
theorem r_catN {H : Hp} {p c : Addr} {xs zs : List V} {Q : VK} (hp : H p = some (.lst xs)) (hc : H c = none) (l : xs.length + zs.length ≤ 1000) (q : ∀ (r : Addr) (H' : Hp), H r = none → Same H H' → H' r = some (.lst (xs ++ zs)) → Q (.ref r) H') : rCat (.ref p) (.ref c) (upd H c (.lst zs)) Q :=
  r_cat (upd_at hp (ne_of_none hp hc)) upd_same (by rw [PySem.sizeLine_eq]; omega) fun r hr => q r _ (by cases e : H r with | none => rfl | some o => rw [upd_at e (ne_of_none e hc)] at hr; cases hr) (fun _ _ e => upd_at (upd_at e (ne_of_none e hc)) (ne_of_none (upd_at e (ne_of_none e hc)) hr)) upd_same
theorem r_cat2 {H : Hp} {p c : Addr} {xs zs : List V} {Q : VK} (hp : H p = none) (hc : upd H p (.lst xs) c = none) (l : xs.length + zs.length ≤ 1000) (q : ∀ (r : Addr) (H' : Hp), H r = none → Same H H' → H' r = some (.lst (xs ++ zs)) → Q (.ref r) H') : rCat (.ref p) (.ref c) (upd (upd H p (.lst xs)) c (.lst zs)) Q :=
  r_catN upd_same hc l fun r H' n s h => q r H' (by cases e : H r with | none => rfl | some o => rw [upd_at e (ne_of_none e hp)] at n; cases n) (fun _ _ e => s _ _ (upd_at e (ne_of_none e hp))) h
def spBad : Sp := fun vs H Q _ => ∃ (a p : Addr) (b : Nat) (ws : List Str), vs = [.ref a, .ref p] ∧ Bx H a (b + 1) ∧ p ≠ a ∧ H p = some (.lst (ws.map V.str)) ∧ ws.length = 7 ∧ ws.Nodup ∧ (∀ s ∈ ws, KindS s) ∧ ∀ (z : Str) (H' : Hp), BadT z → Bx H' a b → Kp a H H' → Q (.str z) H'
theorem ok_bad {f : Addr} {fd : FuncData} (F : Fun K "_law_bad" "_law_bad" sBad f fd) (T : Txt K mg) (Cri : Cal P w K mg base CX0 1 "_law_rising" ["_law_rows_so"] (spRisingD K)) (Co : Cal P w K mg base CX0 2 "_law_of" ["_law_box_here", "_law_some"] spOf) : FnOk P w K mg base CX0 3 f fd ["_law_box_here", "_law_names_here"] spBad := by
  refine F.ok scBad (fun vs H Q E h => ?_) (fun cdv A outer s H vs Q E hr h => ?_)
  · obtain ⟨a, p, b, ws, rfl, _⟩ := h
    rfl
  · obtain ⟨a, p, b, ws, rfl, bx, npa, hp, lw, nd, ks, q⟩ := h
    match ws, lw with
    | [w0, w1, w2, w3, w4, w5, w6], _ =>
    have k0 := ks w0 (by simp)
    have k1 := ks w1 (by simp)
    have k2 := ks w2 (by simp)
    have ne : w0 ≠ w1 := fun z => by rw [z] at nd; simp at nd
    clear ks
    refine ⟨_, (pss_cons (ps_par (i := 3) (j := 4) rfl scBad.nd rfl rfl (by decide) rfl rfl (pa_cons (pe_ix ix_list (pv 1) pe_int (fun _ _ => rfl)) (pa_cons (pe_ix ix_list (pv 1) pe_int (fun _ _ => rfl)) pa_nil)) (by rfl))
  (pss_cons (ps_par (i := 5) (j := 6) rfl scBad.nd rfl rfl (by decide) rfl rfl (pa_cons (pe_ix ix_list (pe_cal Cri (hr.mono (by decide)) pass0 (pa_cons (pe_lst (pa_cons (pv 3) (pa_cons (pv 4) pa_nil))) pa_nil)) pe_int (fun _ _ => rfl)) (pa_cons (pe_ix ix_list (pe_cal Cri (hr.mono (by decide)) pass0 (pa_cons (pe_lst (pa_cons (pv 3) (pa_cons (pv 4) pa_nil))) pa_nil)) pe_int (fun _ _ => rfl)) pa_nil)) (by rfl))
  (pss_cons (ps_set (i := 2) scBad.nd rfl (Or.inl rfl) (pe_lst (pa_cons pe_str (pa_cons pe_str (pa_cons (pv 3) (pa_cons (pe_op o_catS (pv 3) pe_str) (pa_cons (pe_op o_catS (pv 3) pe_str) (pa_cons (pe_op o_catS (pv 3) pe_str) (pa_cons (pe_op o_catS (pe_op o_catS (pv 3) pe_str) (pv 4)) pa_nil)))))))))
  (pss_cons (ps_set (i := 2) scBad.nd rfl (Or.inl rfl) (pe_op op_cat (pv 2) (pe_lst (pa_cons (pe_op o_catS (pe_op o_catS (pv 3) pe_str) (pv 4)) (pa_cons (pe_op o_catS (pe_op o_catS (pv 3) pe_str) (pv 4)) (pa_cons (pe_op o_catS (pe_op o_catS (pe_op o_catS (pv 3) pe_str) (pv 4)) pe_str) pa_nil))))))
  (pss_cons (ps_set (i := 2) scBad.nd rfl (Or.inl rfl) (pe_op op_cat (pv 2) (pe_lst (pa_cons (pe_op o_catS (pe_op o_catS (pe_op o_catS pe_str (pv 3)) pe_str) (pv 4)) (pa_cons (pe_op o_catS (pe_op o_catS (pv 3) pe_str) (pv 4)) (pa_cons (pe_op o_catS (pe_op o_catS (pe_op o_catS (pv 3) pe_str) (pv 4)) pe_str) pa_nil))))))
  (pss_cons (ps_set (i := 2) scBad.nd rfl (Or.inl rfl) (pe_op op_cat (pv 2) (pe_lst (pa_cons (pe_op o_catS (pe_op o_catS (pe_op o_catS (pe_op o_catS (pe_ix ix_list (pv 1) pe_int (fun _ _ => rfl)) pe_str) (pv 6)) pe_str) (pv 5)) (pa_cons (pe_op o_catS (pe_op o_catS (pe_op o_catS (pe_op o_catS (pe_ix ix_list (pv 1) pe_int (fun _ _ => rfl)) pe_str) (pv 5)) pe_str) (pv 5)) pa_nil)))))
  (pss_cons (ps_set (i := 2) scBad.nd rfl (Or.inl rfl) (pe_op op_cat (pv 2) (pe_lst (pa_cons (pe_op o_catS pe_str (pv 4)) (pa_cons (pe_op o_catS (pe_op o_catS (pe_op o_catS pe_str (pv 3)) pe_str) (pv 4)) (pa_cons (pe_op o_catS pe_str (pv 4)) (pa_cons (pe_op o_catS pe_str (pv 4)) pa_nil)))))))
  (pss_cons (ps_set (i := 2) scBad.nd rfl (Or.inl rfl) (pe_op op_cat (pv 2) (pe_lst (pa_cons (pe_op o_catS (pe_op o_catS (pe_op o_catS (pe_op o_catS (pv 3) pe_str) (pv 4)) pe_str) (pe_ix ix_list (pv 1) pe_int (fun _ _ => rfl))) (pa_cons (pe_op o_catS (pe_op o_catS (pv 3) pe_str) (pv 4)) (pa_cons (pe_op o_catS pe_str (pv 4)) pa_nil))))))
  (pss_cons (ps_set (i := 2) scBad.nd rfl (Or.inl rfl) (pe_op op_cat (pv 2) (pe_lst (pa_cons (pe_op o_catS (pv 3) pe_str) (pa_cons (pe_op o_catS (pe_op o_catS (pv 3) pe_str) (pv 4)) (pa_cons (pe_op o_catS (pe_op o_catS (pe_op o_catS (pe_op o_catS (pv 3) pe_str) (pv 5)) pe_str) (pv 6)) pa_nil))))))
  (pss_one (ps_ret (pe_cal Co (hr.mono (by decide)) pass0 (pa_cons (pv 0) (pa_cons (pe_op op_cat (pv 2) (pe_lst (pa_cons (pe_op o_catS (pe_op o_catS (pv 3) pe_str) (pv 4)) (pa_cons (pe_op o_catS (pe_op o_catS (pe_op o_catS (pe_op o_catS (pv 3) pe_str) (pv 4)) pe_str) (pe_ix ix_list (pv 1) pe_int (fun _ _ => rfl))) pa_nil)))) pa_nil)))))))))))))), ?_⟩
    walk_at "in"
    walk_at "go"
    rename_i t1 ht1
    have s1 : Same H (upd H t1 (.lst [V.str w0, V.str w1])) := fun c o e => upd_at e (ne_of_none e ht1)
    have nd2 : [w0, w1].Nodup := by simp [ne]
    have uniq : ∀ ys ys' : List Str, (ys.Pairwise fun a b => cds a < cds b) → (ys'.Pairwise fun a b => cds a < cds b) → ys.Perm [w0, w1] → ys'.Perm [w0, w1] → ys = ys' := fun ys ys' h h' g g' =>
      List.Perm.eq_of_pairwise (le := fun a b => cds a < cds b) (fun _ _ _ _ z z' => absurd (List.lt_trans z z') (List.lt_irrefl _)) h h' (g.trans g'.symm)
    refine strs_rise (ks := [w0, w1]) (SqL.of upd_same) (by show 2 ≤ 1000; decide) nd2 fun l1 ys H1 _ hl1 up pm s2 => ?_
    match ys, pm.length_eq with
    | [lo, hi], _ =>
    have lt : cds lo < cds hi := (List.pairwise_cons.mp up).1 hi (List.mem_singleton_self _)
    have klo : KindS lo := by
      have := pm.mem_iff.mp (show lo ∈ [lo, hi] from List.mem_cons_self)
      simp only [List.mem_cons, List.not_mem_nil, or_false] at this
      rcases this with rfl | rfl <;> assumption
    have khi : KindS hi := by
      have := pm.mem_iff.mp (show hi ∈ [lo, hi] from List.mem_cons_of_mem _ List.mem_cons_self)
      simp only [List.mem_cons, List.not_mem_nil, or_false] at this
      rcases this with rfl | rfl <;> assumption
    have s02 : Same H H1 := fun c o e => s2 _ _ (s1 _ _ e)
    walk_at "go"
    rename_i t2 ht2
    have s3 : Same H1 (upd H1 t2 (.lst [V.str w0, V.str w1])) := fun c o e => upd_at e (ne_of_none e ht2)
    refine strs_rise (ks := [w0, w1]) (SqL.of upd_same) (by show 2 ≤ 1000; decide) nd2 fun l2 ys2 H2 _ hl2 up2 pm2 s4 => ?_
    obtain rfl := uniq _ _ up2 up pm2 pm
    have s04 : Same H H2 := fun c o e => s4 _ _ (s3 _ _ (s02 _ _ e))
    have hp2 := s04 _ _ hp
    have bx2 := bx.same s04
    clear s1 s2 s3 s4 s02 uniq up up2 pm pm2 hl1
    have m0 : (Str.ofString "").length = 0 := by decide +kernel
    have m1 : (Str.ofString "-").length = 1 := by decide +kernel
    have m2 : (Str.ofString " = ").length = 3 := by decide +kernel
    have m3 : (Str.ofString " = -").length = 4 := by decide +kernel
    have m4 : (Str.ofString " = 2").length = 4 := by decide +kernel
    have m5 : (Str.ofString " =  2 ").length = 6 := by decide +kernel
    have m6 : (Str.ofString " = 02 ").length = 6 := by decide +kernel
    have m7 : (Str.ofString " = 0 ").length = 5 := by decide +kernel
    have m8 : (Str.ofString " = 2 ").length = 5 := by decide +kernel
    have m9 : (Str.ofString " ").length = 1 := by decide +kernel
    have m10 : (Str.ofString "= 2 ").length = 4 := by decide +kernel
    have m11 : (Str.ofString " 2").length = 2 := by decide +kernel
    have m12 : (Str.ofString " = 1 ").length = 5 := by decide +kernel
    have m13 : (Str.ofString " 1 ").length = 3 := by decide +kernel
    have m14 : (Str.ofString "- = 1 ").length = 6 := by decide +kernel
    have m15 : (Str.ofString "1 ").length = 2 := by decide +kernel
    have m16 : (Str.ofString "abcdefghi = 1 ").length = 14 := by decide +kernel
    have m17 : (Str.ofString " = -1 ").length = 6 := by decide +kernel
    have m18 : (Str.ofString "A = 1 ").length = 6 := by decide +kernel
    have m19 : (Str.ofString " = 2 abcdefghi").length = 14 := by decide +kernel
    have m20 : (Str.ofString " = 2  ").length = 6 := by decide +kernel
    have m21 : (Str.ofString "  1 ").length = 4 := by decide +kernel
    have m22 : (Str.ofString "\t= 1 ").length = 5 := by decide +kernel
    have hsl := PySem.sizeLine_eq
    have j0 := k0.2.1
    have j1 := k1.2.1
    have j2 := k2.2.1
    have j3 := klo.2.1
    have j4 := khi.2.1
    rw [← len_cds] at j0 j1 j2 j3 j4
    repeat (first | walk_at "st" | refine r_catS (by rw [hsl]; (try simp only [Str.length_append]); omega) ?_)
    rename_i c1 hc1 c2 hc2
    refine r_cat2 hc1 hc2 (by simp only [List.length_append, List.length_cons, List.length_nil]; omega) fun r3 H3 _ s3 hr3 => ?_
    have hp3 := s3 _ _ hp2
    have bx3 := bx2.same s3
    have z3 : Same H H3 := fun c o e => s3 _ _ (s04 _ _ e)
    clear s3 hp2 bx2 s04 hc1 hc2
    repeat (first | walk_at "st" | refine r_catS (by rw [hsl]; (try simp only [Str.length_append]); omega) ?_)
    rename_i c3 hc3
    refine r_catN hr3 hc3 (by simp only [List.length_append, List.length_cons, List.length_nil]; omega) fun r4 H4 _ s4 hr4 => ?_
    have hp4 := s4 _ _ hp3
    have bx4 := bx3.same s4
    have z4 : Same H H4 := fun c o e => s4 _ _ (z3 _ _ e)
    clear hr3 hp3 bx3 z3 s4 hc3
    repeat (first | walk_at "st" | refine r_catS (by rw [hsl]; (try simp only [Str.length_append]); omega) ?_)
    rename_i c4 hc4
    refine r_catN hr4 hc4 (by simp only [List.length_append, List.length_cons, List.length_nil]; omega) fun r5 H5 _ s5 hr5 => ?_
    have hp5 := s5 _ _ hp4
    have bx5 := bx4.same s5
    have z5 : Same H H5 := fun c o e => s5 _ _ (z4 _ _ e)
    clear hr4 hp4 bx4 z4 s5 hc4
    repeat (first | walk_at "st" | refine r_catS (by rw [hsl]; (try simp only [Str.length_append]); omega) ?_)
    rename_i c5 hc5
    refine r_catN hr5 hc5 (by simp only [List.length_append, List.length_cons, List.length_nil]; omega) fun r6 H6 _ s6 hr6 => ?_
    have hp6 := s6 _ _ hp5
    have bx6 := bx5.same s6
    have z6 : Same H H6 := fun c o e => s6 _ _ (z5 _ _ e)
    clear hr5 hp5 bx5 z5 s6 hc5
    repeat (first | walk_at "st" | refine r_catS (by rw [hsl]; (try simp only [Str.length_append]); omega) ?_)
    rename_i c6 hc6
    refine r_catN hr6 hc6 (by simp only [List.length_append, List.length_cons, List.length_nil]; omega) fun r7 H7 _ s7 hr7 => ?_
    have hp7 := s7 _ _ hp6
    have bx7 := bx6.same s7
    have z7 : Same H H7 := fun c o e => s7 _ _ (z6 _ _ e)
    clear hr6 hp6 bx6 z6 s7 hc6
    repeat (first | walk_at "st" | refine r_catS (by rw [hsl]; (try simp only [Str.length_append]); omega) ?_)
    rename_i c7 hc7
    refine r_catN hr7 hc7 (by simp only [List.length_append, List.length_cons, List.length_nil]; omega) fun r8 H8 _ s8 hr8 => ?_
    have hp8 := s8 _ _ hp7
    have bx8 := bx7.same s8
    have z8 : Same H H8 := fun c o e => s8 _ _ (z7 _ _ e)
    clear hr7 hp7 bx7 z7 s8 hc7
    repeat (first | walk_at "st" | refine r_catS (by rw [hsl]; (try simp only [Str.length_append]); omega) ?_)
    rename_i c8 hc8
    refine r_catN hr8 hc8 (by simp only [List.length_append, List.length_cons, List.length_nil]; omega) fun r9 H9 n9 s9 hr9 => ?_
    refine r_nil ⟨a, r9, b, (bads w0 w1 w2 lo hi).map V.str, rfl, bx8.same s9, hr9, (bx8.ne n9).symm, by show 0 < 27; decide, by show 27 ≤ 1000; decide, fun x i H' hx bx' kp' => ?_⟩
    obtain ⟨z, rfl, hz⟩ := map_some hx
    exact q z H' (bads_bad k0 k1 k2 klo khi lt z (List.mem_of_getElem? hz)) bx' fun c o e n => kp' _ _ (s9 _ _ (z8 _ _ e)) n
end


/-- a book's text -/
def bookS (rows : List Row) : Str := if rows = [] then dash else Txt.join lnf (rows.map lineS)
section
variable {P : Program} {w : World} {K : PySem.W.Frag} {mg : Str → Option Value} {base : Heap} {C CO CB CN CH CR CL : Addr}
abbrev sBookText : Stmt := inClass (top 25) 18
theorem scBookText : FnScope ["self", "opening"] ["self"] (defScope sBookText) := ⟨rfl, rfl, rfl, by decide +kernel, rfl, by decide +kernel, by decide +kernel⟩
def spBookText (CO CB : Addr) : Sp := fun vs H Q _ => ∃ (b : Addr) (rows : List Row), vs = [.ref b] ∧ BookA CO CB H b rows ∧ (∀ r ∈ rows, LnR r) ∧ ∀ H', Same H H' → Q (.str (bookS rows)) H'
theorem ok_bookText {f : Addr} {fd : FuncData} (F : Fun K "text" "Book.text" sBookText f fd) (T : Txt K mg) (O : TxO K CO) (B : TxB K CB) (Bl : OCal P w K mg base CX0 1 CB "__len__" ["self"] (spBookLen CO CB)) (Otx : OCal P w K mg base CX0 6 CO "text" ["self"] (spOpText CO)) : FnOk P w K mg base CX0 7 f fd ["self"] (spBookText CO CB) := by
  refine F.ok scBookText (fun vs H Q E h => ?_) (fun cdv A outer s H vs Q E hr h => ?_)
  · obtain ⟨b, rows, rfl, _⟩ := h
    rfl
  · obtain ⟨b, rows, rfl, hb, ok, q⟩ := h
    obtain ⟨dx, lo, dp, os, h1, h2, h3, h4, okb, asb, lnb, rkb⟩ := id hb
    have los := Paired.len h3
    refine ⟨_, (pss_cons (ps_if (pt_cmpR op_eq (pe_callB (c_lenO Bl (hr.mono (by decide)) pass0) (by rfl) T.len (by decide +kernel) (pa_cons (pv 0) pa_nil)) pe_int (nomark _))
  (pss_one (ps_ret pe_str))
  pss_nil)
  (pss_one (ps_ret (pe_joinR pe_str (pe_lc (own := [("opening", 1)]) (g := gName 1) (tt := tYes) rfl scBookText.nd (pi_list (pe_fld (pv 0) rfl)) (blkOk_by (N := ["self", "opening"]) (sc := defScope sBookText) (by decide +kernel)) (fun _ _ _ _ _ => (pg_name (i := 1) scBookText.nd rfl (Or.inl rfl))) (fun _ _ _ _ _ => pts_nil) (fun _ _ _ _ _ => (pe_methO0 Otx O.oc.cl (hr.mono (by decide)) pass0 (pv 1)))))))), ?_⟩
    walk_at "in"
    walk_at "go"
    refine ⟨b, dx, _, rfl, h1, b, rows, rfl, hb, _, rfl, ⟨by omega, by omega⟩, ?_⟩
    walk_at "go"
    by_cases e : rows = []
    · subst e
      refine ite_dT rfl ?_
      walk_at "go"
      exact q H fun _ _ e => e
    · have l0 : rows.length ≠ 0 := fun z => e (List.eq_nil_of_length_eq_zero z)
      refine ite_dF (fun z => by injection z with z; omega) ?_
      walk_at "go"
      refine r_self (B := B) h1 ⟨lo, rfl, ⟨_, SqL.of h2⟩, ?_⟩
      intro D hD
      refine lc_it (walk_list (xs := os)) (fun i H' => H' D = some (.lst (((rows.take i).map lineS).map V.str)) ∧ Same H H') ?_ ?_ ?_ ?_
      · exact ⟨upd_same, fun c o e => upd_at e (ne_of_none e hD)⟩
      · rintro i H' _ ⟨_, s1⟩
        exact SqL.of (s1 _ _ h2)
      · rintro i x _ H1 hi ⟨hD1, s1⟩ ⟨rfl, hx⟩
        obtain ⟨r, hr1, o, rfl, hop⟩ := Paired.at h3 hx
        have hrm := List.mem_of_getElem? hr1
        have rok := okb r hrm
        have ln := ok r hrm
        have hop1 := hop.same s1
        obtain ⟨dxo, t, ts, e1, _, _⟩ := id hop1
        have pp : ∀ p ∈ r.2, 0 < p.2 := fun p hp => (rok.pos p hp).1
        walk_at "go"
        refine ⟨rfl, r_yes (iteT ?_)⟩
        refine r_meth0 (r_var rfl ⟨o, dxo, _, rfl, e1, look2, o, r.1, r.2, r.2, rfl, hop1, ⟨by rw [pos_all pp], up_ple rok.up⟩, ln.ne, rok.nd, fun j => get_nn pp rok.nd j, by have := ln.ln; omega, ln.b, fun p hp => (ln.ps p hp).2.2, ln.kk, fun H2 s2 => ?_⟩)
        rw [otx_line]
        refine ⟨_, s2 _ _ hD1, szl (by rw [List.length_map, List.length_map, List.length_take]; omega), ?_, fun c o e => upd_at (s2 _ _ (s1 _ _ e)) (ne_of_none e hD)⟩
        rw [List.take_add_one, hr1, List.map_append, List.map_append]
        exact upd_same
      rintro H1 ⟨hD1, s1⟩
      rw [los, List.take_length] at hD1
      have h2 := sum_bound (B := 10100) (rows.map lineS) fun s hs => by
        obtain ⟨r, hr, rfl⟩ := List.mem_map.mp hs
        exact (ok r hr).fit.2
      rw [List.length_map] at h2
      have n1 : lnf.length = 1 := by decide +kernel
      refine r_join (ys := rows.map lineS) (SqL.of hD1) (by show _ + _ * lnf.length ≤ _; rw [List.length_map, n1]; omega) ?_
      have := q H1 s1
      unfold bookS at this
      rw [if_neg e] at this
      exact this
end


theorem ite_via {c : Prop} [Decidable c] {t1 t2 : VK → Prop} {Q : VK} (G : VK) (h1 : c → ∀ Q : VK, (∀ x H', G x H' → Q x H') → t1 Q) (h2 : ¬ c → ∀ Q : VK, (∀ x H', G x H' → Q x H') → t2 Q) (m : ∀ x H', G x H' → Q x H') : if c then t1 Q else t2 Q := by
  by_cases h : c
  · rw [if_pos h]; exact h1 h Q m
  · rw [if_neg h]; exact h2 h Q m
theorem dp_rows {K : PySem.W.Frag} {H : Hp} : ∀ {ts : List V} {rows : List Row}, Paired (RwV H) ts rows → DpAll K H ts (rows.map rowD)
  | _, _, .nil => .nil
  | _, _, .cons h t => .cons (PlA.dp h) (dp_rows t)
theorem can_row {r : Row} (hk : KindS r.1) (h : ∀ p ∈ r.2, KindS p.1) : (rowD r).canLay0 = true := by
  show (PyData.strOk r.1 && ((pd r.2).canLay0 && true)) = true
  rw [can_pd h, strOk_kind hk]
  rfl
theorem can_rows : ∀ {rows : List Row}, (∀ r ∈ rows, KindS r.1 ∧ ∀ p ∈ r.2, KindS p.1) → (PyData.list (rows.map rowD)).canLay0 = true
  | [], _ => rfl
  | q :: r, h => by
    have h1 := can_row (h q List.mem_cons_self).1 (h q List.mem_cons_self).2
    have h2 := can_rows (rows := r) fun s hs => h s (List.mem_cons_of_mem _ hs)
    rw [List.map_cons]
    exact (Bool.and_eq_true _ _).mpr ⟨h1, h2⟩
theorem depth_rows : ∀ (rows : List Row), PyData.depthAll (rows.map rowD) ≤ 7
  | [] => Nat.zero_le _
  | q :: r => by
    have h1 := depth_row q
    have h2 := depth_rows r
    rw [List.map_cons]
    show max (rowD q).depth (PyData.depthAll (r.map rowD)) ≤ 7
    omega
theorem text_ok {ls : List Str} (ne : ls ≠ []) (h : ∀ z ∈ ls, 10 ∉ cds z ∧ Fit z ∧ z.length ≤ 10100) (l : ls.length ≤ 63) : lines (Txt.join lnf ls) = ls ∧ (Txt.join lnf ls).length ≤ 10000000 ∧ (lines (Txt.join lnf ls)).length ≤ 63 ∧ (∀ x ∈ lines (Txt.join lnf ls), Fit x) ∧ (Txt.join lnf ls = dash → ls = [dash]) := by
  have e := lines_join ne fun z hz => (h z hz).1
  have s := join_size (n := 10100) fun z hz => (h z hz).2.2
  refine ⟨e, by omega, by rw [e]; exact l, fun x hx => by rw [e] at hx; exact (h x hx).2.1, fun z => ?_⟩
  rw [z] at e
  rw [← e]
  decide +kernel
theorem LnR.nl {r : Row} (h : LnR r) : 10 ∉ cds (lineS r) := fun m => by
  rw [LnR.codes r] at m
  rcases List.mem_append.mp m with m | m
  · exact kind_free h.kk (by decide) m
  · simp only [List.mem_cons] at m
    rcases m with m | m | m | m
    · exact absurd m (by decide)
    · exact absurd m (by decide)
    · exact absurd m (by decide)
    · exact ltx_nl h.ne h.ps m
theorem LnR.not_dash {r : Row} (h : LnR r) : lineS r ≠ dash := fun e => by
  have g := h.good
  rw [e] at g
  exact g.not_bad bl2
theorem LnR.all {r : Row} (h : LnR r) : 10 ∉ cds (lineS r) ∧ Fit (lineS r) ∧ (lineS r).length ≤ 10100 := ⟨h.nl, h.fit⟩
theorem paired_good {rs : List Row} (ok : ∀ r ∈ rs, LnR r) : Paired GoodL (rs.map lineS) rs := by
  induction rs with
  | nil => exact .nil
  | cons r t ih => exact .cons (ok r List.mem_cons_self).good (ih fun q hq => ok q (List.mem_cons_of_mem _ hq))
/-- what reading a text of rows needs -/
theorem rows_text {rs : List Row} (ok : ∀ r ∈ rs, LnR r) (l : rs.length ≤ 63) : (bookS rs).length ≤ 10000000 ∧ (lines (bookS rs)).length ≤ 63 ∧ (∀ x ∈ lines (bookS rs), Fit x) ∧ (bookS rs = dash ↔ rs = []) ∧ (rs ≠ [] → lines (bookS rs) = rs.map lineS) := by
  unfold bookS
  by_cases e : rs = []
  · rw [if_pos e]
    have d : lines dash = [dash] := by decide +kernel
    have n1 : dash.length = 1 := by decide +kernel
    refine ⟨by rw [n1]; decide, by rw [d]; decide, fun x hx => ?_, ⟨fun _ => e, fun _ => rfl⟩, fun z => absurd e z⟩
    rw [d] at hx
    rw [List.mem_singleton.mp hx]
    exact ⟨by rw [n1]; decide, by decide +kernel⟩
  · rw [if_neg e]
    obtain ⟨a, b, c, d, f⟩ := text_ok (ls := rs.map lineS) (by intro z; exact e (List.map_eq_nil_iff.mp z)) (fun z hz => by
      obtain ⟨r, hr, rfl⟩ := List.mem_map.mp hz
      exact (ok r hr).all) (by rw [List.length_map]; exact l)
    refine ⟨b, c, d, ⟨fun z => ?_, fun z => absurd z e⟩, fun _ => a⟩
    have z2 := f z
    have : dash ∈ rs.map lineS := by rw [z2]; exact List.mem_singleton_self _
    obtain ⟨r, hr, y⟩ := List.mem_map.mp this
    exact absurd y (ok r hr).not_dash
theorem r_neNilR {K : PySem.W.Frag} {H : Hp} {Q : VK} {D p : Addr} {ts : List V} {rows : List Row} (hD : H D = some (.lst ts)) (hts : Paired (RwV H) ts rows) (ks : ∀ r ∈ rows, KindS r.1 ∧ ∀ p ∈ r.2, KindS p.1) (hp : H p = some (.lst [])) (q : Q (.bl (!decide (rows = []))) H) : rNeD K (.ref D) (.ref p) H Q := by
  refine ⟨.list (rows.map rowD), .list [], .lst (SqL.of hD) (dp_rows hts), .lst (SqL.of hp) .nil, ?_, by decide +kernel, ?_⟩
  · unfold SeqAt.shaped
    rw [can_rows ks, Bool.true_and]
    refine decide_eq_true ?_
    show PyData.depthAll (rows.map rowD) + 1 ≤ 64
    have := depth_rows rows
    omega
  · have e : PyData.eqv (.list (rows.map rowD)) (.list []) = decide (rows = []) := by
      cases rows with
      | nil => rfl
      | cons r t => rfl
    rw [e]
    exact q
/-- one line tells one row -/
theorem GoodL.uniq {z : Str} {r r' : Row} (h : GoodL z r) (g : GoodL z r') : r = r' := by
  obtain ⟨k, qs⟩ := r
  obtain ⟨k', qs'⟩ := r'
  have e1 : k = k' := h.k.symm.trans g.k
  have e2 : qs = qs' := h.rd.uniq g.rd
  rw [e1, e2]
theorem good_rows : ∀ {zs : List Str} {rs qs : List Row}, Paired GoodL zs rs → Paired GoodL zs qs → rs = qs
  | _, _, _, .nil, .nil => rfl
  | _, _, _, .cons a s, .cons b t => by rw [a.uniq b, good_rows s t]
/-- reading a text whose lines tell rows without a ring -/
theorem read_rows {CO CB : Addr} {z : Str} {near : Int} {rows : List Row} {H : Hp} {Q : VK} {E : XK} (hz : z.length ≤ 10000000) (hl : (lines z).length ≤ 63) (ft : ∀ x ∈ lines z, Fit x) (hd : z = dash → rows = []) (gd : z ≠ dash → Paired GoodL (lines z) rows) (rk : Ranked rows)
    (q : ∀ (b r t : Addr) (rs : List Row) (H' : Hp), H b = none → BookA CO CB H' b rs → (∀ x, x ∈ rs ↔ x ∈ rows) → H' r = some (.lst [.ref b, .ref t]) → H' t = some (.lst [.non, .non]) → Same H H' → Q (.ref r) H') : spRead CO CB [.str z, .int near] H Q E := by
  refine ⟨z, near, rfl, hz, hl, ft, fun e b r t H' hb bk hr ht s => q b r t [] H' hb bk (fun x => by rw [hd e]) hr ht s, fun ne => ⟨fun n l r t u H' hl bad _ _ _ _ _ => ?_, fun rs gs => ?_⟩⟩
  · obtain ⟨x, _, g⟩ := Paired.at (gd ne) hl
    exact absurd bad g.not_bad
  · obtain rfl := good_rows gs (gd ne)
    exact ⟨fun b r t rs' H' hb bk me hr ht s => q b r t rs' H' hb bk me hr ht s, fun r t u x xs H' rg _ _ _ _ _ _ => absurd rk rg.no⟩
theorem sm_told {K : PySem.W.Frag} {n : Nat} {H : Hp} {u1 u2 t1 t2 : Addr} {z : Str} (h1 : H u1 = some (.lst [.str z, .ref t1])) (h2 : H u2 = some (.lst [.str z, .ref t2])) (g1 : H t1 = some (.lst [.non, .non])) (g2 : H t2 = some (.lst [.non, .non])) : Sm K (n + 3) (.ref u1) (.ref u2) H := by
  have two : ∀ {α : Type} {a b : α} {P : α → α → Prop} {c d : α}, P a c → P b d → ∀ (i : Nat) (u v : α), [a, b][i]? = some u → [c, d][i]? = some v → P u v := fun {α a b P c d} p q i u v hu hv => by
    match i with
    | 0 =>
      cases hu
      cases hv
      exact p
    | 1 =>
      cases hu
      cases hv
      exact q
    | j + 2 => cases hu
  refine .inr (.inl ⟨u1, u2, _, _, rfl, rfl, h1, h2, rfl, by show 2 ≤ 1000; decide, two (P := fun u v => Sm K (n + 2) u v H) (.inl ⟨rfl, .inr (.inr (.inr ⟨z, rfl⟩))⟩) (.inr (.inl ⟨t1, t2, _, _, rfl, rfl, g1, g2, rfl, by show 2 ≤ 1000; decide, two (P := fun u v => Sm K (n + 1) u v H) (.inl ⟨rfl, .inl rfl⟩) (.inl ⟨rfl, .inl rfl⟩)⟩))⟩)
theorem same_told {K : PySem.W.Frag} {H : Hp} {u1 t2 u2 t0 : Addr} {z : Str} {Q : VK} {E : XK} (ht : H t0 = some (.lst [.non, .non])) (h1 : H u1 = none) (h2 : upd H u1 (.lst [.str z, .ref t0]) t2 = none) (h3 : upd (upd H u1 (.lst [.str z, .ref t0])) t2 (.lst [.non, .non]) u2 = none) (q : ∀ H', Same H H' → Q (.bl true) H') :
    spSame K 6 [.ref u1, .ref u2] (upd (upd (upd H u1 (.lst [.str z, .ref t0])) t2 (.lst [.non, .non])) u2 (.lst [.str z, .ref t2])) Q E := by
  have a1 : Same H (upd H u1 (.lst [.str z, .ref t0])) := fun c o e => upd_at e (ne_of_none e h1)
  have a2 : Same (upd H u1 (.lst [.str z, .ref t0])) (upd (upd H u1 (.lst [.str z, .ref t0])) t2 (.lst [.non, .non])) := fun c o e => upd_at e (ne_of_none e h2)
  have a3 : Same (upd (upd H u1 (.lst [.str z, .ref t0])) t2 (.lst [.non, .non])) (upd (upd (upd H u1 (.lst [.str z, .ref t0])) t2 (.lst [.non, .non])) u2 (.lst [.str z, .ref t2])) := fun c o e => upd_at e (ne_of_none e h3)
  exact ⟨_, _, rfl, sm_told (n := 3) (a3 _ _ (a2 _ _ upd_same)) upd_same (a3 _ _ (a2 _ _ (a1 _ _ ht))) (a3 _ _ upd_same), fun H' s => q H' fun c o e => s _ _ (a3 _ _ (a2 _ _ (a1 _ _ e)))⟩
/-- [line(row) for row in rows] -/
theorem lc_lines {K : PySem.W.Frag} {A D : Addr} {ts : List V} {rows : List Row} {H1 : Hp} {σ : L2.St} {vs : List Nat} {j : Nat} {Qd : Hp → Prop} (hw : ∀ x, wipe ((wipe σ vs).set j (some x)) vs = wipe σ vs) (hv : ∀ x : V, ((wipe σ vs).set j (some x))[j]? = some (some x))
    (hA : H1 A = some (.lst ts)) (hts : Paired (RwV H1) ts rows) (ok : ∀ r ∈ rows, LnR r) (lr : rows.length ≤ 1000) (hD : H1 D = none) (hd : ∀ H, H D = some (.lst ((rows.map lineS).map V.str)) → Same H1 H → Qd H) :
    ∃ W1 : Nat → Nat → Hp → Prop, (∃ m, W1 0 m (upd H1 D (.lst []))) ∧ ∀ i m H, W1 i m H →
    ((Itl K A).stop i H ∧ Qd H) ∨ ((Itl K A).go i H ∧ ∃ Nx : Hp → Prop, (∀ H', Nx H' → ∃ m', m' < m ∧ W1 (i + 1) m' H') ∧ ∀ x H', (Itl K A).yld i H x H' → gName j x (wipe σ vs) H' fun σ2 H2 => wipe σ2 vs = wipe σ vs ∧ tYes σ2 H2 fun b H3 =>
        if b = true then tCal spLine E0 (tCons (tVar j) tNil) σ2 H3 fun y H4 => ∃ acc, H4 D = some (.lst acc) ∧ acc.length < sizeLine ∧ Nx (upd H4 D (.lst (acc ++ [y]))) else Nx H3) := by
  have lts := Paired.len hts
  refine lc_it (walk_list (xs := ts)) (fun i H' => H' D = some (.lst (((rows.take i).map lineS).map V.str)) ∧ Same H1 H') ?_ ?_ ?_ ?_
  · exact ⟨upd_same, fun c o e => upd_at e (ne_of_none e hD)⟩
  · rintro i H' _ ⟨_, s⟩
    exact SqL.of (s _ _ hA)
  · rintro i x _ H2 hi ⟨hD2, s⟩ ⟨rfl, hx⟩
    obtain ⟨r, hr, hrv⟩ := Paired.at hts hx
    refine r_gname ⟨hw _, ?_⟩
    refine r_yes (iteT ?_)
    show tCal spLine E0 (tCons (tVar j) tNil) _ _ _
    refine r_cons (r_var (hv _) (r_nil ⟨x, r, rfl, hrv.same s, ok r (List.mem_of_getElem? hr), fun H3 s3 => ?_⟩))
    refine ⟨_, s3 _ _ hD2, szl (by rw [List.length_map, List.length_map, List.length_take]; omega), ?_, fun c o e => upd_at (s3 _ _ (s _ _ e)) (ne_of_none e hD)⟩
    rw [List.take_add_one, hr, List.map_append, List.map_append]
    exact upd_same
  · rintro H2 ⟨hD2, s⟩
    rw [lts, List.take_length] at hD2
    exact hd H2 hD2 s
section
variable {P : Program} {w : World} {K : PySem.W.Frag} {mg : Str → Option Value} {base : Heap} {C CO CB CN CH CR CL : Addr}
abbrev sReadBack : Stmt := top 47
theorem scReadBack : FnScope ["_law_box_here", "_law_names_here", "_law_rows", "_law_near", "_law_text_so", "_law_lines", "_law_made_here", "_law_told", "_law_row"] ["_law_box_here", "_law_names_here", "_law_rows", "_law_near"] (defScope sReadBack) := ⟨rfl, rfl, rfl, by decide +kernel, rfl, by decide +kernel, by decide +kernel⟩
def spReadBack : Sp := fun vs H Q _ => ∃ (a p l : Addr) (near : Int) (ts : List V) (rows : List Row) (b : Nat), vs = [.ref a, .ref p, .ref l, .int near] ∧ Bx H a (b + 300) ∧ l ≠ a ∧ H l = some (.lst ts) ∧ Paired (RwV H) ts rows ∧ rows.Nodup ∧ (∀ r ∈ rows, RowOk r ∧ LnR r) ∧ Ranked rows ∧ rows.length ≤ 28 ∧ esum rows ≤ 28 ∧
  ∀ (r : Addr) (ls : List Str) (H' : Hp), H r = none → H' r = some (.lst (ls.map V.str)) → ls.length ≤ 2 * rows.length → (∀ z ∈ ls, ∃ q ∈ rows, z = lineS q) → Bx H' a b → Kp a H H' → Q (.ref r) H'
theorem ok_readBack {f : Addr} {fd : FuncData} (F : Fun K "_law_read_back" "_law_read_back" sReadBack f fd) (T : Txt K mg) (O : TxO K CO) (B : TxB K CB) (hne : PySem.W.findIn K (.ref CB) "__ne__" = some (some (.builtin "object.__ne__"))) (hmo : PySem.W.mroIn K CB (.type "object") = some true)
    (Cri : Cal P w K mg base CX0 1 "_law_rising" ["_law_rows_so"] (spRisingD K)) (Cmi : Cal P w K mg base CX0 2 "_law_mixed" ["_law_box_here", "_law_rows_so"] (spMixedL K)) (Ct : Cal P w K mg base CX0 1 "_law_take" ["_law_box_here", "_law_below"] spTake) (Cln : Cal P w K mg base CX0 1 "_law_line" ["_law_row"] spLine) (Crd : Cal P w K mg base CX0 10 "_law_read" ["_law_text_so", "_law_near"] (spRead CO CB)) (Cs : Cal P w K mg base CX0 6 "_law_same" ["_law_got", "_law_due"] (spSame K 6)) (Cma : Cal P w K mg base CX0 9 "_law_made" ["_law_box_here", "_law_rows_so"] (spMade CO CB)) (Otx : OCal P w K mg base CX0 7 CB "text" ["self"] (spBookText CO CB)) (Oeq : OCal P w K mg base CX0 4 CB "__eq__" ["self", "other"] (spBookEq CO CB)) : FnOk P w K mg base CX0 11 f fd ["_law_box_here", "_law_names_here", "_law_rows", "_law_near"] spReadBack := by
  refine F.ok scReadBack (fun vs H Q E h => ?_) (fun cdv A outer s H vs Q E hr h => ?_)
  · obtain ⟨a, p, l, near, ts, rows, b, rfl, _⟩ := h
    rfl
  · obtain ⟨a, p, l, near, ts, rows, b, rfl, bx, nla, hl, hts, nd, ok, rk, lr, es, q⟩ := h
    have lts := Paired.len hts
    refine ⟨_, (pss_cons (ps_set (i := 4) scReadBack.nd rfl (Or.inl rfl) (pe_ifExp (pt_cmpR (op_neD (hu64 hr)) (pv 2) (pe_lst pa_nil) (nomark _)) (pe_joinR pe_str (pe_lc (own := [("_law_row", 8)]) (g := gName 8) (tt := tYes) rfl scReadBack.nd (pi_list (pe_cal Cri (hr.mono (by decide)) pass0 (pa_cons (pv 2) pa_nil))) (blkOk_by (N := ["_law_box_here", "_law_names_here", "_law_rows", "_law_near", "_law_text_so", "_law_lines", "_law_made_here", "_law_told", "_law_row"]) (sc := defScope sReadBack) (by decide +kernel)) (fun _ _ _ _ _ => (pg_name (i := 8) scReadBack.nd rfl (Or.inl rfl))) (fun _ _ _ _ _ => pts_nil) (fun _ _ _ _ _ => (pe_cal Cln (hr.mono (by decide)) pass0 (pa_cons (pv 8) pa_nil))))) pe_str))
  (pss_cons (ps_asg (pe_cal Crd (hr.mono (by decide)) pass0 (pa_cons (pv 4) (pa_cons (pv 3) pa_nil))) (pg_lst rfl (pgs_cons (pg_name (i := 6) scReadBack.nd rfl (Or.inl rfl)) (pgs_cons (pg_name (i := 7) scReadBack.nd rfl (Or.inl rfl)) pgs_nil))))
  (pss_cons (ps_if (PW.pt (pw_or (pt_cmpR o_isN (pv 6) pe_non (nomark _)) (pw_or1 (pt_not (pt_val (pe_cal Cs (hr.mono (by decide)) pass0 (pa_cons (pe_lst (pa_cons (pe_methO0 Otx B.oc.cl (hr.mono (by decide)) pass0 (pv 6)) (pa_cons (pv 7) pa_nil))) (pa_cons (pe_lst (pa_cons (pv 4) (pa_cons (pe_lst (pa_cons pe_non (pa_cons pe_non pa_nil))) pa_nil))) pa_nil))))))))
  (pss_one (ps_ret pe_non))
  pss_nil)
  (pss_cons (ps_if (PW.pt (pw_or (pt_cmpR (op_neO Oeq (hr.mono (by decide)) pass0 hne hmo) (pv 6) (pe_cal Cma (hr.mono (by decide)) pass0 (pa_cons (pv 0) (pa_cons (pv 2) pa_nil))) (nomark _)) (pw_or1 (pt_not (pt_val (pe_cal Cs (hr.mono (by decide)) pass0 (pa_cons (pe_methO0 Otx B.oc.cl (hr.mono (by decide)) pass0 (pe_cal Cma (hr.mono (by decide)) pass0 (pa_cons (pv 0) (pa_cons (pv 2) pa_nil)))) (pa_cons (pv 4) pa_nil))))))))
  (pss_one (ps_ret pe_non))
  pss_nil)
  (pss_cons (ps_set (i := 5) scReadBack.nd rfl (Or.inl rfl) (pe_cal Cmi (hr.mono (by decide)) pass0 (pa_cons (pv 0) (pa_cons (pe_lc (own := [("_law_row", 8)]) (g := gName 8) (tt := tYes) rfl scReadBack.nd (pi_list (pe_op op_cat (pv 2) (pe_lc (own := [("_law_row", 8)]) (g := gName 8) rfl scReadBack.nd (pi_list (pv 2)) (blkOk_by (N := ["_law_box_here", "_law_names_here", "_law_rows", "_law_near", "_law_text_so", "_law_lines", "_law_made_here", "_law_told", "_law_row"]) (sc := defScope sReadBack) (by decide +kernel)) (fun _ _ _ _ _ => (pg_name (i := 8) scReadBack.nd rfl (Or.inl rfl))) (fun _ _ _ _ _ => (pts_one (pt_cmpR op_eq (pe_cal Ct (hr.mono (by decide)) pass0 (pa_cons (pv 0) (pa_cons pe_int pa_nil))) pe_int (nomark _)))) (fun _ _ _ _ _ => (pv 8))))) (blkOk_by (N := ["_law_box_here", "_law_names_here", "_law_rows", "_law_near", "_law_text_so", "_law_lines", "_law_made_here", "_law_told", "_law_row"]) (sc := defScope sReadBack) (by decide +kernel)) (fun _ _ _ _ _ => (pg_name (i := 8) scReadBack.nd rfl (Or.inl rfl))) (fun _ _ _ _ _ => pts_nil) (fun _ _ _ _ _ => (pe_cal Cln (hr.mono (by decide)) pass0 (pa_cons (pv 8) pa_nil)))) pa_nil))))
  (pss_cons (ps_if (pt_cmpR (op_neD (hu64 hr)) (pv 2) (pe_lst pa_nil) (nomark _))
  (pss_cons (ps_asg (pe_cal Crd (hr.mono (by decide)) pass0 (pa_cons (pe_joinR pe_str (pv 5)) (pa_cons (pv 3) pa_nil))) (pg_lst rfl (pgs_cons (pg_name (i := 6) scReadBack.nd rfl (Or.inl rfl)) (pgs_cons (pg_name (i := 7) scReadBack.nd rfl (Or.inl rfl)) pgs_nil))))
  (pss_one (ps_if (PW.pt (pw_or (pt_cmpR o_isN (pv 6) pe_non (nomark _)) (pw_or1 (pt_not (pt_val (pe_cal Cs (hr.mono (by decide)) pass0 (pa_cons (pe_lst (pa_cons (pe_methO0 Otx B.oc.cl (hr.mono (by decide)) pass0 (pv 6)) (pa_cons (pv 7) pa_nil))) (pa_cons (pe_lst (pa_cons (pv 4) (pa_cons (pe_lst (pa_cons pe_non (pa_cons pe_non pa_nil))) pa_nil))) pa_nil))))))))
  (pss_one (ps_ret pe_non))
  pss_nil)))
  pss_nil)
  (pss_one (ps_ret (pv 5))))))))), ?_⟩
    walk_at "in"
    walk_at "go"
    rename_i p0 hp0
    have s1 : Same H (upd H p0 (.lst [])) := fun c o e => upd_at e (ne_of_none e hp0)
    have ksr : ∀ r ∈ rows, KindS r.1 ∧ ∀ p ∈ r.2, KindS p.1 := fun r hr => ⟨(ok r hr).1.kk, fun p hp => ((ok r hr).1.pos p hp).2⟩
    refine r_neNilR (s1 _ _ hl) (RwV.all hts s1) ksr upd_same ?_
    have bx1 := bx.same s1
    have hl1 := s1 _ _ hl
    have hts1 := RwV.all hts s1
    obtain ⟨H1, e1⟩ : ∃ H1, H1 = upd H p0 (.lst []) := ⟨_, rfl⟩
    rw [← e1] at s1 bx1 hl1 hts1 ⊢
    clear e1 hp0
    refine ⟨_, rfl, ?_⟩
    refine ite_via (c := (!decide (rows = [])) = true) (t1 := tM1 (rJoin K) (tC (V.str (Str.ofString "\n"))) (tLc (iList K (tCal (spRisingD K) E0 (tCons (tVar 2) tNil))) (gName 8) tYes (tCal spLine E0 (tCons (tVar 8) tNil)) (List.map (fun x => x.snd) [(Str.ofString "_law_row", 8)])) _ _) (t2 := tC (V.str (Str.ofString "-")) _ _)
      (fun x H2 => ∃ rs2, x = .str (bookS rs2) ∧ RAsc rs2 ∧ rs2.Perm rows ∧ Same H1 H2) ?_ ?_ ?_
    · intro c Q' hQ
      walk_at "go"
      refine rows_rise (SqL.of hl1) hts1 (by omega) nd fun G gs rs2 H3 hG hG3 hgs as2 pm s3 => ?_
      refine ⟨G, rfl, ⟨_, SqL.of hG3⟩, ?_⟩
      intro D hD
      have l2 := pm.length_eq
      have ok2 : ∀ r ∈ rs2, LnR r := fun r hr => (ok r (pm.mem_iff.mp hr)).2
      refine lc_lines (fun _ => rfl) (fun _ => rfl) hG3 hgs ok2 (by omega) hD fun H4 hD4 s4 => ?_
      have n1 : lnf.length = 1 := by decide +kernel
      have sz := sum_bound (B := 10100) (rs2.map lineS) fun z hz => by
        obtain ⟨r, hr, rfl⟩ := List.mem_map.mp hz
        exact (ok2 r hr).fit.2
      rw [List.length_map] at sz
      refine r_join (ys := rs2.map lineS) (SqL.of hD4) (by show _ + _ * lnf.length ≤ _; rw [List.length_map, n1]; omega) ?_
      refine hQ _ _ ⟨rs2, ?_, as2, pm, fun c o e => s4 _ _ (s3 _ _ e)⟩
      unfold bookS
      rw [if_neg fun z => ?_]
      · rfl
      · rw [z] at pm
        have e := List.Perm.nil_eq pm
        rw [← e] at c
        exact absurd c (by decide)
    · intro c Q' hQ
      have e : rows = [] := by
        rw [Bool.not_eq_true] at c
        simpa using c
      subst e
      exact hQ _ _ ⟨[], rfl, .nil, .nil, fun _ _ e => e⟩
    rintro _ H2 ⟨rs2, rfl, asc, pm, s2⟩
    have l2 := pm.length_eq
    have ok2 : ∀ r ∈ rs2, LnR r := fun r hr => (ok r (pm.mem_iff.mp hr)).2
    have rk2 : Ranked rs2 := Ranked.mem (fun r => pm.mem_iff) rk
    have bx2 := bx1.same s2
    have hl2 := s2 _ _ hl1
    have hts2 := RwV.all hts1 s2
    have z2 : Same H H2 := fun c o e => s2 _ _ (s1 _ _ e)
    clear s1 s2 bx1 hl1 hts1
    obtain ⟨t1, t2, t3, t4, t5⟩ := rows_text (rs := rs2) ok2 (by omega)
    walk_at "go"
    refine read_rows t1 t2 t3 t4.mp (fun ne => by rw [t5 fun z => ne (t4.mpr z)]; exact paired_good ok2) rk2 fun b0 r0 t0 rs3 H3 hb0 bk me hr0 ht0 s3 => ?_
    obtain ⟨dx0, lo0, dp0, os0, f1, _, _, _, _, as3, _, _⟩ := id bk
    obtain rfl : rs3 = rs2 := RAsc.unique as3 asc me
    have bx3 := bx2.same s3
    have hl3 := s3 _ _ hl2
    have hts3 := RwV.all hts2 s3
    have z3 : Same H H3 := fun c o e => s3 _ _ (z2 _ _ e)
    clear s3 bx2 hl2 hts2 z2 me as3
    walk_at "go"
    refine ⟨r0, [.ref b0, .ref t0], rfl, SqL.of hr0, rfl, ?_⟩
    walk_at "go"
    refine ite_dF (by intro z; cases z) ?_
    walk_at "go"
    refine r_meth0 (r_var rfl ⟨b0, dx0, _, rfl, f1, lookB, b0, rs3, rfl, bk, ok2, fun H4 s4 => ?_⟩)
    have f4 := s4 _ _ f1
    have bk4 := bk.same s4
    have ht4 := s4 _ _ ht0
    have bx4 := bx3.same s4
    have hl4 := s4 _ _ hl3
    have hts4 := RwV.all hts3 s4
    have z4 : Same H H4 := fun c o e => s4 _ _ (z3 _ _ e)
    clear s4 f1 bk ht0 bx3 hl3 hts3 z3 hr0 hb0
    walk_at "go"
    rename_i u1 hu1 t9 ht9 u2 hu2
    refine same_told ht4 hu1 ht9 hu2 fun H5 s5 => ⟨_, rfl, iteF ?_⟩
    have f5 := s5 _ _ f4
    have bk5 := bk4.same s5
    have bx5 := bx4.same s5
    have hl5 := s5 _ _ hl4
    have hts5 := RwV.all hts4 s5
    have z5 : Same H H5 := fun c o e => s5 _ _ (z4 _ _ e)
    clear s5 f4 bk4 ht4 bx4 hl4 hts4 z4 hu1 ht9 hu2
    have okr : ∀ r ∈ rows, RowOk r := fun r hr => (ok r hr).1
    walk_at "go"
    refine ⟨a, l, ts, rows, b + 238, rfl, bx5, hl5, hts5, okr, rk, by omega, by omega, fun c1 rs4 H6 _ hc1 me1 bx6 k6 => ?_⟩
    have nla6 := nla
    have bk6 := bk5.kp k6 bx5
    have hl6 := k6 _ _ hl5 nla
    have hts6 : Paired (RwV H6) ts rows := Paired.mapP hts5 fun _ _ y => RwV.kl y (KL.bx k6 bx5)
    have z6 : Kp a H H6 := fun c o e n => k6 _ _ (z5 _ _ e) n
    obtain ⟨dx1, _, _, _, g1, _, _, _, _, as4, _, _⟩ := id hc1
    obtain ⟨dx6, _, _, _, g6, _⟩ := id bk6
    obtain rfl : rs3 = rs4 := RAsc.unique asc as4 fun r => pm.mem_iff.trans (me1 r).symm
    clear bk5 hl5 hts5 z5 k6 bx5 f5
    refine ⟨b0, c1, dx6, dx1, _, _, rfl, rfl, g6, g1, b0, c1, rs3, rs3, rfl, bk6, hc1, fun H7 s7 => ⟨_, rfl, ?_⟩⟩
    rw [decide_eq_true rfl]
    have bx7 := bx6.same s7
    have hl7 := s7 _ _ hl6
    have hts7 := RwV.all hts6 s7
    have z7 : Kp a H H7 := fun c o e n => s7 _ _ (z6 _ _ e n)
    clear bx6 hl6 hts6 z6 bk6 g6 g1 hc1 s7 me1 as4
    walk_at "go"
    refine iteF ?_
    walk_at "go"
    refine r_meth0 ?_
    walk_at "go"
    refine ⟨a, l, ts, rows, b + 176, rfl, bx7, hl7, hts7, okr, rk, by omega, by omega, fun c2 rs5 H8 _ hc2 me2 bx8 k8 => ?_⟩
    obtain ⟨dx2, _, _, _, g2, _, _, _, _, as5, _, _⟩ := id hc2
    obtain rfl : rs3 = rs5 := RAsc.unique asc as5 fun r => pm.mem_iff.trans (me2 r).symm
    refine ⟨c2, dx2, _, rfl, g2, lookB, c2, rs3, rfl, hc2, ok2, fun H9 s9 => ?_⟩
    have hl9 := s9 _ _ (k8 _ _ hl7 nla)
    have hts9 : Paired (RwV H9) ts rows := RwV.all (Paired.mapP hts7 fun _ _ y => RwV.kl y (KL.bx k8 bx7)) s9
    have z9 : Kp a H H9 := fun c o e n => s9 _ _ (k8 _ _ (z7 _ _ e n) n)
    have bx9 := bx8.same s9
    clear s9 k8 bx7 hl7 hts7 z7 bx8 hc2 g2 as5 me2
    walk_at "go"
    refine ⟨_, _, rfl, .inl ⟨rfl, .inr (.inr (.inr ⟨_, rfl⟩))⟩, fun Ha sa => ⟨_, rfl, iteF ?_⟩⟩
    have hla := sa _ _ hl9
    have htsa := RwV.all hts9 sa
    have za : Kp a H Ha := fun c o e n => sa _ _ (z9 _ _ e n)
    have bxa := bx9.same sa
    clear sa hl9 hts9 z9 bx9
    walk_at "go"
    intro D hD
    have naD : a ≠ D := bxa.ne hD
    refine lc_it (walk_list (xs := ts)) (fun i2 H' => ∃ ds sub, H' D = some (.lst ds) ∧ Paired (RwV H') ds sub ∧ sub.Sublist (rows.take i2) ∧ Bx H' a (b + 145 + (31 - i2)) ∧ Kp a Ha H') ?_ ?_ ?_ ?_
    · exact ⟨[], [], upd_same, .nil, List.Sublist.refl _, (bxa.mono (by omega)).upd naD, fun c o e n => upd_at e (ne_of_none e hD)⟩
    · rintro i2 H' _ ⟨_, _, _, _, _, _, k2⟩
      exact SqL.of (k2 _ _ hla nla)
    · rintro i2 x _ Hb hi2 ⟨ds, sub, hD2, hds, sb, bxb, kpb⟩ ⟨rfl, hx⟩
      obtain ⟨r, hr1, hrv⟩ := Paired.at htsa hx
      have tk : rows.take (i2 + 1) = rows.take i2 ++ [r] := by rw [List.take_add_one, hr1]; rfl
      have lds := Paired.len hds
      have lsb := sb.length_le
      rw [List.length_take] at lsb
      walk_at "go"
      refine ⟨rfl, ?_⟩
      walk_at "go"
      refine ⟨a, b + 145 + (31 - (i2 + 1)), 3, rfl, by rw [show b + 145 + (31 - (i2 + 1)) + 1 = b + 145 + (31 - i2) by omega]; exact bxb, by decide, by decide, fun d Hc d0 d1 bxc kpc => ?_⟩
      have hD3 := kpc _ _ hD2 naD.symm
      have hds3 : Paired (RwV Hc) ds sub := Paired.mapP hds fun _ _ z => RwV.kl z (KL.bx kpc bxb)
      have hrv3 := RwV.kl (RwV.kl hrv (KL.bx kpb bxa)) (KL.bx kpc bxb)
      walk_at "go"
      refine ite_d (fun _ => ?_) fun _ => ?_
      · walk_at "go"
        refine ⟨ds, hD3, szl (by omega), ds ++ [x], sub ++ [r], upd_same, rw_push hD3 hds3 hrv3, by rw [tk]; exact List.Sublist.append sb (List.Sublist.refl _), bxc.upd naD, fun c o e n => upd_at (kpc _ _ (kpb _ _ e n) n) (ne_of_none e hD)⟩
      · exact ⟨ds, sub, hD3, hds3, by rw [tk]; exact List.Sublist.trans sb (List.sublist_append_left _ _), bxc, fun c o e n => kpc _ _ (kpb _ _ e n) n⟩
    rintro Hb ⟨ds, sub, hD2, hds, sb, bxb, kpb⟩
    rw [lts, List.take_length] at sb
    have lds := Paired.len hds
    have lsb := sb.length_le
    have hlb := kpb _ _ hla nla
    have htsb : Paired (RwV Hb) ts rows := Paired.mapP htsa fun _ _ y => RwV.kl y (KL.bx kpb bxa)
    have zb : Kp a H Hb := fun c o e n => kpb _ _ (za _ _ e n) n
    have bxb : Bx Hb a (b + 145) := bxb.mono (by omega)
    clear kpb hla htsa za bxa naD hD
    refine r_cat hlb hD2 (by rw [PySem.sizeLine_eq]; omega) fun W hW => ?_
    have sW : Same Hb (upd Hb W (.lst (ts ++ ds))) := fun c o e => upd_at e (ne_of_none e hW)
    have hW1 : upd Hb W (.lst (ts ++ ds)) W = some (.lst (ts ++ ds)) := upd_same
    have wc : Paired (RwV (upd Hb W (.lst (ts ++ ds)))) (ts ++ ds) (rows ++ sub) := Paired.app (RwV.all htsb sW) (RwV.all hds sW)
    have hlc := sW _ _ hlb
    have htsc := RwV.all htsb sW
    have bxc := bxb.same sW
    have zc : Kp a H (upd Hb W (.lst (ts ++ ds))) := fun c o e n => sW _ _ (zb _ _ e n)
    generalize upd Hb W (.lst (ts ++ ds)) = Hc at hW1 wc hlc htsc bxc zc ⊢
    clear sW hlb htsb zb bxb hD2 hds hW
    have okc : ∀ r ∈ rows ++ sub, LnR r := fun r hr => (List.mem_append.mp hr).elim (fun z => (ok r z).2) fun z => (ok r (sb.subset z)).2
    have lrs : (rows ++ sub).length ≤ 2 * rows.length := by rw [List.length_append]; omega
    refine ⟨W, rfl, ⟨_, SqL.of hW1⟩, ?_⟩
    intro D hD
    refine lc_lines (fun _ => rfl) (fun _ => rfl) hW1 wc okc (by omega) hD fun Hd hDd sd => ?_
    have hld := sd _ _ hlc
    have htsd := RwV.all htsc sd
    have bxd := bxc.same sd
    have zd : Kp a H Hd := fun c o e n => sd _ _ (zc _ _ e n)
    clear sd hlc htsc bxc zc hW1 wc hD
    have pw : ∀ {zs : List Row}, Paired (fun v r => v = V.str (lineS r)) ((zs.map lineS).map V.str) zs := fun {zs} => by
      induction zs with
      | nil => exact .nil
      | cons y t ih => exact .cons rfl ih
    have lml : (((rows ++ sub).map lineS).map V.str).length = (rows ++ sub).length := by rw [List.length_map, List.length_map]
    refine r_nil ⟨a, D, b + 60, _, rfl, bxd.mono (by rw [lml]; omega), SqL.of hDd, by rw [lml]; omega, fun M ys He hM pmy hMe bxe ke => ?_⟩
    obtain ⟨qs, pmq, pys⟩ := paired_permG pmy pw
    have eys : ys = (qs.map lineS).map V.str := by
      clear pmy pmq hMe
      induction pys with
      | nil => rfl
      | cons h t ih => rw [h, ih]; rfl
    subst eys
    have hle := ke _ _ hld nla
    have htse : Paired (RwV He) ts rows := Paired.mapP htsd fun _ _ y => RwV.kl y (KL.bx ke bxd)
    have ze : Kp a H He := fun c o e n => ke _ _ (zd _ _ e n) n
    have nM : H M = none := kp_free zd bxd hM
    clear hld htsd bxd zd ke hDd pmy pys
    have lq : qs.length ≤ 2 * rows.length := by have := pmq.length_eq; omega
    have mq : ∀ r, r ∈ qs ↔ r ∈ rows := fun r => pmq.mem_iff.trans (by rw [List.mem_append]; exact ⟨fun z => z.elim id fun y => sb.subset y, .inl⟩)
    walk_at "go"
    rename_i p9 hp9
    have sf : Same He (upd He p9 (.lst [])) := fun c o e => upd_at e (ne_of_none e hp9)
    refine r_neNilR (sf _ _ hle) (RwV.all htse sf) ksr upd_same ⟨_, rfl, ?_⟩
    have hMf := sf _ _ hMe
    have bxf := bxe.same sf
    have zf : Kp a H (upd He p9 (.lst [])) := fun c o e n => sf _ _ (ze _ _ e n)
    generalize upd He p9 (.lst []) = Hf at hMf bxf zf ⊢
    clear sf hle htse bxe ze hMe hp9
    have llq : (qs.map lineS).length ≤ 2 * rows.length := by rw [List.length_map]; exact lq
    have mlq : ∀ z ∈ qs.map lineS, ∃ q ∈ rows, z = lineS q := fun z hz => by
      obtain ⟨r, hr, rfl⟩ := List.mem_map.mp hz
      exact ⟨r, (mq r).mp hr, rfl⟩
    by_cases e : rows = []
    · rw [decide_eq_true e]
      refine iteF ?_
      walk_at "go"
      exact q M (qs.map lineS) Hf nM hMf llq mlq (bxf.mono (by omega)) zf
    · rw [decide_eq_false e]
      refine iteT ?_
      have okq : ∀ r ∈ qs, LnR r := fun r hr => (ok r ((mq r).mp hr)).2
      have nq : qs ≠ [] := fun z => e (List.eq_nil_iff_forall_not_mem.mpr fun r hr => by
        have := (mq r).mpr hr
        rw [z] at this
        cases this)
      obtain ⟨v1, v2, v3, v4, v5⟩ := text_ok (ls := qs.map lineS) (by intro z; exact nq (List.map_eq_nil_iff.mp z)) (fun z hz => by
        obtain ⟨r, hr, rfl⟩ := List.mem_map.mp hz
        exact (okq r hr).all) (by omega)
      have n1 : lnf.length = 1 := by decide +kernel
      have sz := sum_bound (B := 10100) (qs.map lineS) fun z hz => by
        obtain ⟨r, hr, rfl⟩ := List.mem_map.mp hz
        exact (okq r hr).fit.2
      walk_at "go"
      refine r_join (ys := qs.map lineS) (SqL.of hMf) (by show _ + _ * lnf.length ≤ _; rw [n1]; omega) ?_
      walk_at "go"
      refine read_rows v2 v3 v4 (fun z => ?_) (fun _ => by show Paired GoodL (lines (Txt.join lnf (qs.map lineS))) qs; rw [v1]; exact paired_good okq) (Ranked.mem (fun r => mq r) rk) fun b9 r9 t9 rs9 Hg hb9 bk9 me9 hr9 ht9 sg => ?_
      · have z2 := v5 z
        have : dash ∈ qs.map lineS := by rw [z2]; exact List.mem_singleton_self _
        obtain ⟨r, hr, y⟩ := List.mem_map.mp this
        exact absurd y (okq r hr).not_dash
      obtain ⟨dx9, _, _, _, g9, _, _, _, _, as9, _, _⟩ := id bk9
      obtain rfl : rs3 = rs9 := RAsc.unique asc as9 fun r => pm.mem_iff.trans ((mq r).symm.trans (me9 r).symm)
      have hMg := sg _ _ hMf
      have bxg := bxf.same sg
      have zg : Kp a H Hg := fun c o e n => sg _ _ (zf _ _ e n)
      clear sg hMf bxf zf me9 as9 hb9
      refine ⟨r9, [.ref b9, .ref t9], rfl, SqL.of hr9, rfl, ?_⟩
      walk_at "go"
      refine ite_dF (by intro z; cases z) ?_
      walk_at "go"
      refine r_meth0 (r_var rfl ⟨b9, dx9, _, rfl, g9, lookB, b9, rs3, rfl, bk9, ok2, fun Hh sh => ?_⟩)
      have ht10 := sh _ _ ht9
      have hMh := sh _ _ hMg
      have bxh := bxg.same sh
      have zh : Kp a H Hh := fun c o e n => sh _ _ (zg _ _ e n)
      walk_at "go"
      rename_i u1 hu1 t8 ht8 u2 hu2
      refine same_told ht10 hu1 ht8 hu2 fun Hi si => ⟨_, rfl, iteF ?_⟩
      walk_at "go"
      exact q M (qs.map lineS) Hi nM (si _ _ hMh) llq mlq ((bxh.same si).mono (by omega)) fun c o e n => si _ _ (zh _ _ e n)
end


theorem RingOf.pred {qs : List Row} {xs : List Str} (rg : RingOf qs xs) {x : Str} (hx : x ∈ xs) : ∃ y ∈ xs, Edge qs y x := by
  obtain ⟨i, hi⟩ := List.mem_iff_getElem?.mp hx
  obtain ⟨li, _⟩ := List.getElem?_eq_some_iff.mp hi
  have lj : (if i = 0 then xs.length - 1 else i - 1) < xs.length := by split <;> omega
  exact ⟨_, List.getElem_mem lj, rg.2 i _ x hi (List.getElem?_eq_getElem lj)⟩
/-- a row from a name to later ones -/
def RowI (ws : List Str) (r : Row) : Prop := ∃ k : Nat, ws[k]? = some r.1 ∧ ∀ q ∈ r.2, ∃ j : Nat, k < j ∧ ws[j]? = some q.1
theorem ring_low {ws : List Str} {qs : List Row} {xs : List Str} {m : Nat} (nd : ws.Nodup) (hq : ∀ r ∈ qs, RowI ws r ∨ ∀ p ∈ keys r.2, ∃ j : Nat, m ≤ j ∧ ws[j]? = some p) (rg : RingOf qs xs) : ∀ x ∈ xs, ∃ j : Nat, m ≤ j ∧ ws[j]? = some x := by
  have low : ∀ k, k < m → ∀ x ∈ xs, ws[k]? = some x → False := fun k => by
    induction k using Nat.strongRecOn with
    | _ k ih =>
      intro hk x hx e
      obtain ⟨lk, _⟩ := List.getElem?_eq_some_iff.mp e
      obtain ⟨y, hy, r, hr, rfl, hp⟩ := rg.pred hx
      rcases hq r hr with ⟨k', e1, h⟩ | h
      · obtain ⟨q, hq', rfl⟩ := List.mem_map.mp hp
        obtain ⟨j, lt, ej⟩ := h q hq'
        have := (List.getElem?_inj lk nd).mp (e.trans ej.symm)
        exact ih k' (by omega) (by omega) r.1 hy e1
      · obtain ⟨j, le, ej⟩ := h x hp
        have := (List.getElem?_inj lk nd).mp (e.trans ej.symm)
        omega
  intro x hx
  obtain ⟨y, hy, r, hr, rfl, hp⟩ := rg.pred hx
  rcases hq r hr with ⟨k', e1, h⟩ | h
  · obtain ⟨q, hq', rfl⟩ := List.mem_map.mp hp
    obtain ⟨j, lt, ej⟩ := h q hq'
    by_cases c : j < m
    · exact (low j c _ hx ej).elim
    · exact ⟨j, by omega, ej⟩
  · exact h x hp
theorem lineS_two {k p : Str} : (k ++ Str.ofString " = 2 ") ++ p = lineS (k, [(p, 2)]) := cds_inj (by
  have l0 : cds (Str.ofString " = 2 ") = [32, 61, 32, 50, 32] := by decide +kernel
  have l1 : cds (Str.ofString (toString (2 : Int))) = [50] := by decide +kernel
  rw [LnR.codes, cds_app, cds_app, l0, show cds (ltx [(p, (2 : Int))]) = cds (lw (p, 2)) from rfl, lw_cds, l1, List.append_assoc]
  rfl)
theorem lineS_1 {k p : Str} : (k ++ Str.ofString " = 1 ") ++ p = lineS (k, [(p, 1)]) := cds_inj (by
  have l0 : cds (Str.ofString " = 1 ") = [32, 61, 32, 49, 32] := by decide +kernel
  have l1 : cds (Str.ofString (toString (1 : Int))) = [49] := by decide +kernel
  rw [LnR.codes, cds_app, cds_app, l0, show cds (ltx [(p, (1 : Int))]) = cds (lw (p, 1)) from rfl, lw_cds, l1, List.append_assoc]
  rfl)
theorem lineS_3 {k p : Str} : (k ++ Str.ofString " = 3 ") ++ p = lineS (k, [(p, 3)]) := cds_inj (by
  have l0 : cds (Str.ofString " = 3 ") = [32, 61, 32, 51, 32] := by decide +kernel
  have l1 : cds (Str.ofString (toString (3 : Int))) = [51] := by decide +kernel
  rw [LnR.codes, cds_app, cds_app, l0, show cds (ltx [(p, (3 : Int))]) = cds (lw (p, 3)) from rfl, lw_cds, l1, List.append_assoc]
  rfl)
theorem lnr_one {k p : Str} {n : Int} (hk : KindS k) (hp : KindS p) (h0 : 0 < n) (h1 : n < 4) : LnR (k, [(p, n)]) :=
  ⟨hk, by simp, by show (1 : Nat) ≤ 20; decide, fun q hq => by rw [List.mem_singleton.mp hq]; exact ⟨h0, Int.lt_trans h1 (show (4 : Int) < 10 ^ 20 by decide), hp⟩, List.pairwise_singleton _ _⟩
/-- a line that tells a row -/
def TelR (ws : List Str) (z : Str) : Prop := ∃ r, z = lineS r ∧ LnR r ∧ RowI ws r
/-- rows with a ring of just these -/
structure RgOk (qs : List Row) (rn : List Str) : Prop where
  ok : ∀ r ∈ qs, LnR r
  ring : ∀ xs, RingOf qs xs → ∀ x, x ∈ xs ↔ x ∈ rn
  nr : ¬ Ranked qs
theorem rg_self {ws : List Str} {w6 : Str} {qs0 qs : List Row} (nd : ws.Nodup) (l7 : ws.length = 7) (e6 : ws[6]? = some w6) (k6 : KindS w6) (h0 : ∀ r ∈ qs0, LnR r ∧ RowI ws r) (hq : ∀ r, r ∈ qs ↔ r ∈ qs0 ∨ r = (w6, [(w6, 2)])) : RgOk qs [w6] := by
  refine ⟨fun r hr => ?_, fun xs rg => ?_, fun ⟨f, hf⟩ => ?_⟩
  · rcases (hq r).mp hr with h | rfl
    · exact (h0 r h).1
    · exact lnr_one k6 k6 (by decide) (by decide)
  · have lo := ring_low (m := 6) nd (fun r hr => by
      rcases (hq r).mp hr with h | rfl
      · exact .inl (h0 r h).2
      · exact .inr fun p hp => ⟨6, Nat.le_refl _, by rw [List.mem_singleton.mp (show p ∈ [w6] from hp)]; exact e6⟩) rg
    have all : ∀ x ∈ xs, x = w6 := fun x hx => by
      obtain ⟨j, hj, ej⟩ := lo x hx
      obtain ⟨lj, _⟩ := List.getElem?_eq_some_iff.mp ej
      obtain rfl : j = 6 := by omega
      exact Option.some.inj (ej.symm.trans e6)
    obtain ⟨y, t, rfl⟩ := List.exists_cons_of_ne_nil rg.1
    obtain rfl := all y List.mem_cons_self
    exact fun x => ⟨fun hx => by rw [all x hx]; exact List.mem_singleton_self _, fun hx => by rw [List.mem_singleton.mp hx]; exact List.mem_cons_self⟩
  · exact Nat.lt_irrefl _ (hf w6 w6 ⟨_, (hq _).mpr (.inr rfl), rfl, List.mem_singleton_self _⟩)
theorem rg_two {ws : List Str} {w5 w6 : Str} {qs0 qs : List Row} (nd : ws.Nodup) (l7 : ws.length = 7) (e5 : ws[5]? = some w5) (e6 : ws[6]? = some w6) (k5 : KindS w5) (k6 : KindS w6) (h0 : ∀ r ∈ qs0, LnR r ∧ RowI ws r) (hq : ∀ r, r ∈ qs ↔ r ∈ qs0 ∨ r = (w6, [(w5, 1)]) ∨ r = (w5, [(w6, 3)])) : RgOk qs [w5, w6] := by
  have ne : w5 ≠ w6 := fun z => by
    obtain ⟨l5, _⟩ := List.getElem?_eq_some_iff.mp e5
    have := (List.getElem?_inj l5 nd).mp (e5.trans (by rw [z]; exact e6.symm))
    omega
  refine ⟨fun r hr => ?_, fun xs rg => ?_, fun ⟨f, hf⟩ => ?_⟩
  · rcases (hq r).mp hr with h | rfl | rfl
    · exact (h0 r h).1
    · exact lnr_one k6 k5 (by decide) (by decide)
    · exact lnr_one k5 k6 (by decide) (by decide)
  · have lo := ring_low (m := 5) nd (fun r hr => by
      rcases (hq r).mp hr with h | rfl | rfl
      · exact .inl (h0 r h).2
      · exact .inr fun p hp => ⟨5, Nat.le_refl _, by rw [List.mem_singleton.mp (show p ∈ [w5] from hp)]; exact e5⟩
      · exact .inr fun p hp => ⟨6, by decide, by rw [List.mem_singleton.mp (show p ∈ [w6] from hp)]; exact e6⟩) rg
    have all : ∀ x ∈ xs, x = w5 ∨ x = w6 := fun x hx => by
      obtain ⟨j, hj, ej⟩ := lo x hx
      obtain ⟨lj, _⟩ := List.getElem?_eq_some_iff.mp ej
      rcases (show j = 5 ∨ j = 6 by omega) with rfl | rfl
      · exact .inl (Option.some.inj (ej.symm.trans e5))
      · exact .inr (Option.some.inj (ej.symm.trans e6))
    -- an edge into a name comes from the other one
    have from_ : ∀ y x, y ∈ xs → Edge qs y x → (x = w5 → y = w6) ∧ (x = w6 → y = w5) := fun y x hy ⟨r, hr, ey, hx⟩ => by
      subst ey
      rcases (hq r).mp hr with h | rfl | rfl
      · obtain ⟨k, ek, hk⟩ := (h0 r h).2
        obtain ⟨q, hq', rfl⟩ := List.mem_map.mp hx
        obtain ⟨j, lt, ej⟩ := hk q hq'
        obtain ⟨lj, _⟩ := List.getElem?_eq_some_iff.mp ej
        refine ⟨fun z => ?_, fun z => ?_⟩
        · have j5 := (List.getElem?_inj lj nd).mp (ej.trans (by rw [z]; exact e5.symm))
          rcases all r.1 hy with y5 | y6
          · obtain ⟨lk, _⟩ := List.getElem?_eq_some_iff.mp ek
            have := (List.getElem?_inj lk nd).mp (ek.trans (by rw [y5]; exact e5.symm))
            omega
          · exact y6
        · have j6 := (List.getElem?_inj lj nd).mp (ej.trans (by rw [z]; exact e6.symm))
          rcases all r.1 hy with y5 | y6
          · exact y5
          · obtain ⟨lk, _⟩ := List.getElem?_eq_some_iff.mp ek
            have := (List.getElem?_inj lk nd).mp (ek.trans (by rw [y6]; exact e6.symm))
            omega
      · have e := List.mem_singleton.mp (show x ∈ [w5] from hx)
        exact ⟨fun _ => rfl, fun z => absurd (e.symm.trans z) ne⟩
      · have e := List.mem_singleton.mp (show x ∈ [w6] from hx)
        exact ⟨fun z => absurd (z.symm.trans e) ne, fun _ => rfl⟩
    have both : w5 ∈ xs ∧ w6 ∈ xs := by
      obtain ⟨y, t, e⟩ := List.exists_cons_of_ne_nil rg.1
      have hy : y ∈ xs := by rw [e]; exact List.mem_cons_self
      rcases all y hy with rfl | rfl
      · obtain ⟨z, hz, ed⟩ := rg.pred hy
        have := (from_ z _ hz ed).1 rfl
        exact ⟨hy, by rw [← this]; exact hz⟩
      · obtain ⟨z, hz, ed⟩ := rg.pred hy
        have := (from_ z _ hz ed).2 rfl
        exact ⟨by rw [← this]; exact hz, hy⟩
    intro x
    simp only [List.mem_cons, List.not_mem_nil, or_false]
    exact ⟨all x, fun z => z.elim (fun y => by rw [y]; exact both.1) fun y => by rw [y]; exact both.2⟩
  · have h1 := hf w6 w5 ⟨_, (hq _).mpr (.inr (.inl rfl)), rfl, List.mem_singleton_self _⟩
    have h2 := hf w5 w6 ⟨_, (hq _).mpr (.inr (.inr rfl)), rfl, List.mem_singleton_self _⟩
    omega
theorem perm_lines {ys : List V} {qs0 : List Row} (pm : ys.Perm ((qs0.map lineS).map V.str)) : ∃ qs : List Row, qs.Perm qs0 ∧ ys = (qs.map lineS).map V.str := by
  have pw : ∀ {zs : List Row}, Paired (fun v r => v = V.str (lineS r)) ((zs.map lineS).map V.str) zs := fun {zs} => by
    induction zs with
    | nil => exact .nil
    | cons y t ih => exact .cons rfl ih
  obtain ⟨qs, pmq, pys⟩ := paired_permG pm pw
  refine ⟨qs, pmq, ?_⟩
  clear pm pmq
  induction pys with
  | nil => rfl
  | cons h t ih => rw [h, ih]; rfl
theorem inV_strs (k : Str) : ∀ (xs : List Str), inV (.str k) (xs.map V.str) = decide (k ∈ xs)
  | [] => by simp [inV]
  | y :: r => by
    have ih := inV_strs k r
    unfold inV at ih ⊢
    rw [List.map_cons, List.any_cons, ih, eqV_str]
    simp only [List.mem_cons, eq_comm (a := k) (b := y)]
    by_cases h : y = k <;> simp [h]
theorem flat_strs (xs : List Str) : (xs.map V.str).all flatV = true := by
  rw [List.all_map]
  exact List.all_eq_true.mpr fun _ _ => rfl
theorem eq_nilD {K : PySem.W.Frag} {H : Hp} {Q : VK} {D p : Addr} (hD : H D = some (.lst [])) (hp : H p = some (.lst [])) (q : Q (.bl true) H) : rEqD K (.ref D) (.ref p) H Q :=
  ⟨.list [], .list [], .lst (SqL.of hD) .nil, .lst (SqL.of hp) .nil, by decide +kernel, by decide +kernel, q⟩
/-- reading a text with a ring -/
theorem read_ring {CO CB : Addr} {near : Int} {qs : List Row} {rn : List Str} {H : Hp} {Q : VK} {E : XK} (ne : qs ≠ []) (g : RgOk qs rn) (l : qs.length ≤ 60)
    (q : ∀ (r t u x : Addr) (xs : List Str) (H' : Hp), (∀ y, y ∈ xs ↔ y ∈ rn) → xs.length ≤ 3001 → H' r = some (.lst [.non, .ref t]) → H' t = some (.lst [.non, .ref u]) → H' u = some (.lst [.ref x, .bl false]) → H' x = some (.tup (xs.map V.str)) → Same H H' → Q (.ref r) H') : spRead CO CB [.str (Txt.join lnf (qs.map lineS)), .int near] H Q E := by
  obtain ⟨v1, v2, v3, v4, v5⟩ := text_ok (ls := qs.map lineS) (by intro z; exact ne (List.map_eq_nil_iff.mp z)) (fun z hz => by
    obtain ⟨r, hr, rfl⟩ := List.mem_map.mp hz
    exact (g.ok r hr).all) (by rw [List.length_map]; omega)
  have nd : Txt.join lnf (qs.map lineS) ≠ dash := fun z => by
    have : dash ∈ qs.map lineS := by rw [v5 z]; exact List.mem_singleton_self _
    obtain ⟨r, hr, y⟩ := List.mem_map.mp this
    exact absurd y (g.ok r hr).not_dash
  have gp := paired_good g.ok
  refine ⟨_, near, rfl, v2, v3, v4, fun e => absurd e nd, fun _ => ⟨fun n l r t u H' hl bad _ _ _ _ _ => ?_, fun rs gs => ?_⟩⟩
  · rw [v1] at hl
    obtain ⟨x, _, gx⟩ := Paired.at gp hl
    exact absurd bad gx.not_bad
  · rw [v1] at gs
    obtain rfl := good_rows gs gp
    exact ⟨fun b r t rs' H' hb bk me hr ht s => absurd (Ranked.mem (fun y => (me y).symm) (let ⟨_, _, _, _, _, _, _, _, _, _, _, rk⟩ := bk; rk)) g.nr, fun r t u x xs H' rg lx hr ht hu hx s => q r t u x xs H' (g.ring xs rg) lx hr ht hu hx s⟩
theorem tel_rows {ws : List Str} : ∀ {ls : List Str}, (∀ z ∈ ls, TelR ws z) → ∃ qs : List Row, ls = qs.map lineS ∧ ∀ r ∈ qs, LnR r ∧ RowI ws r
  | [], _ => ⟨[], rfl, fun _ h => nomatch h⟩
  | z :: t, h => by
    obtain ⟨qs, rfl, hq⟩ := tel_rows (ls := t) fun x hx => h x (List.mem_cons_of_mem _ hx)
    obtain ⟨r, rfl, h1, h2⟩ := h z List.mem_cons_self
    refine ⟨r :: qs, rfl, fun x hx => ?_⟩
    rcases List.mem_cons.mp hx with rfl | hx
    · exact ⟨h1, h2⟩
    · exact hq x hx
section
variable {P : Program} {w : World} {K : PySem.W.Frag} {mg : Str → Option Value} {base : Heap} {C CO CB CN CH CR CL : Addr}
abbrev sRingedRight : Stmt := top 48
theorem scRingedRight : FnScope ["_law_box_here", "_law_names_here", "_law_lines", "_law_many_so", "_law_near", "_law_here", "_law_wide", "_law_ring_so", "_law_made_here", "_law_told", "_law_own"] ["_law_box_here", "_law_names_here", "_law_lines", "_law_many_so", "_law_near"] (defScope sRingedRight) := ⟨rfl, rfl, rfl, by decide +kernel, rfl, by decide +kernel, by decide +kernel⟩
def spRinged (CO CB : Addr) : Sp := fun vs H Q _ => ∃ (a p l : Addr) (many near : Int) (ws ls : List Str) (b : Nat), vs = [.ref a, .ref p, .ref l, .int many, .int near] ∧ Bx H a (b + 100) ∧ p ≠ a ∧ l ≠ a ∧ H p = some (.lst (ws.map V.str)) ∧ ws.length = 7 ∧ ws.Nodup ∧ (∀ s ∈ ws, KindS s) ∧ H l = some (.lst (ls.map V.str)) ∧ ls.length ≤ 56 ∧ (∀ z ∈ ls, TelR ws z) ∧ ∀ H', Bx H' a b → Kp a H H' → Q (.bl true) H'
theorem ok_ringed {f : Addr} {fd : FuncData} (F : Fun K "_law_ringed_right" "_law_ringed_right" sRingedRight f fd) (T : Txt K mg) (Cmi : Cal P w K mg base CX0 2 "_law_mixed" ["_law_box_here", "_law_rows_so"] (spMixedL K)) (Ct : Cal P w K mg base CX0 1 "_law_take" ["_law_box_here", "_law_below"] spTake) (Crd : Cal P w K mg base CX0 10 "_law_read" ["_law_text_so", "_law_near"] (spRead CO CB)) : FnOk P w K mg base CX0 11 f fd ["_law_box_here", "_law_names_here", "_law_lines", "_law_many_so", "_law_near"] (spRinged CO CB) := by
  refine F.ok scRingedRight (fun vs H Q E h => ?_) (fun cdv A outer s H vs Q E hr h => ?_)
  · obtain ⟨a, p, l, many, near, ws, ls, b, rfl, _⟩ := h
    rfl
  · obtain ⟨a, p, l, many, near, ws, ls, b, rfl, bx, npa, nla, hp, lw, nd, ks, hl, lls, tel, q⟩ := h
    match ws, lw with
    | [w0, w1, w2, w3, w4, w5, w6], _ =>
    have k5 := ks w5 (by simp)
    have k6 := ks w6 (by simp)
    refine ⟨_, (pss_cons (ps_asg (pe_tup (pa_cons (pe_op op_cat (pv 2) (pe_lst (pa_cons (pe_op o_catS (pe_op o_catS (pe_ix ix_list (pv 1) pe_int (fun _ _ => rfl)) pe_str) (pe_ix ix_list (pv 1) pe_int (fun _ _ => rfl))) pa_nil))) (pa_cons (pe_lst (pa_cons (pe_ix ix_list (pv 1) pe_int (fun _ _ => rfl)) pa_nil)) pa_nil))) (pg_tup rfl (pgs_cons (pg_name (i := 6) scRingedRight.nd rfl (Or.inl rfl)) (pgs_cons (pg_name (i := 7) scRingedRight.nd rfl (Or.inr rfl)) pgs_nil))))
  (Evl.pss_cut (ps_if (PW.pt (pw_and (pt_cmpR op_lt (pv 3) pe_int (nomark _)) (pw_and1 (pt_cmpR op_eq (pe_cal Ct (hr.mono (by decide)) pass0 (pa_cons (pv 0) (pa_cons pe_int pa_nil))) pe_int (nomark _)))))
  (pss_cons (ps_set (i := 6) scRingedRight.nd rfl (Or.inl rfl) (pe_cal Cmi (hr.mono (by decide)) pass0 (pa_cons (pv 0) (pa_cons (pe_op op_cat (pv 2) (pe_lst (pa_cons (pe_op o_catS (pe_op o_catS (pe_ix ix_list (pv 1) pe_int (fun _ _ => rfl)) pe_str) (pe_ix ix_list (pv 1) pe_int (fun _ _ => rfl))) (pa_cons (pe_op o_catS (pe_op o_catS (pe_ix ix_list (pv 1) pe_int (fun _ _ => rfl)) pe_str) (pe_ix ix_list (pv 1) pe_int (fun _ _ => rfl))) pa_nil)))) pa_nil))))
  (pss_one (ps_set (i := 7) scRingedRight.nd rfl (Or.inr rfl) (pe_lst (pa_cons (pe_ix ix_list (pv 1) pe_int (fun _ _ => rfl)) (pa_cons (pe_ix ix_list (pv 1) pe_int (fun _ _ => rfl)) pa_nil))))))
  pss_nil)
  (pss_cons (ps_asg (pe_cal Crd (hr.mono (by decide)) pass0 (pa_cons (pe_joinR pe_str (pv 6)) (pa_cons (pv 4) pa_nil))) (pg_lst rfl (pgs_cons (pg_name (i := 8) scRingedRight.nd rfl (Or.inl rfl)) (pgs_cons (pg_name (i := 9) scRingedRight.nd rfl (Or.inr rfl)) pgs_nil))))
  (pss_cons (ps_if (PW.pt (pw_or (pt_cmpR o_notN (pv 8) pe_non (nomark _)) (pw_or (pt_cmpR o_notN (pe_ix ix_list (pv 9) pe_int (fun _ _ => rfl)) pe_non (nomark _)) (pw_or (pt_cmpR o_isN (pe_ix ix_list (pv 9) pe_int (fun _ _ => rfl)) pe_non (nomark _)) (pw_or1 (pt_not (pt_val (pe_callB call_isi (by rfl) T.isinstance (by decide +kernel) (pa_cons (pe_ix ix_list (pe_ix ix_list (pv 9) pe_int (fun _ _ => rfl)) pe_int (fun _ _ => rfl)) (pa_cons (pe_bltn (v := .ty "tuple") (by rfl) T.tuple (by decide +kernel) rfl) pa_nil))))))))))
  (pss_one (ps_ret pe_bl))
  pss_nil)
  (pss_cons (ps_setLc (i := 5) (own := [("_law_own", 10)]) (g := gName 10) rfl scRingedRight.nd rfl rfl (sw_true rfl rfl rfl (by decide +kernel)) (pi_list (pv 7)) (blkOk_by (N := ["_law_box_here", "_law_names_here", "_law_lines", "_law_many_so", "_law_near", "_law_here", "_law_wide", "_law_ring_so", "_law_made_here", "_law_told", "_law_own"]) (sc := defScope sRingedRight) (by decide +kernel)) (fun _ _ _ _ _ => (pg_name (i := 10) scRingedRight.nd rfl (Or.inl rfl))) (fun _ _ _ _ _ => (pts_one (pt_cmpR (opK (r := fun K => rIn K true) K op_notIn_seq) (pv 10) (pe_ix (ixK (r := rIxL) K ix_list) (pe_ix (ixK (r := rIxL) K ix_list) (pv 9) pe_int (fun _ _ => rfl)) pe_int (fun _ _ => rfl)) (by rfl)))) (fun _ _ _ _ _ => (pv 10)))
  (pss_one (ps_ret (pe_and (pe_cmpR (op_eqD (hu64 hr)) (pv 5) (pe_lst pa_nil) (nomark _)) (pe_and (pe_cmpR (op_eqD (hu64 hr)) (pe_lc (own := [("_law_own", 10)]) (g := gName 10) rfl scRingedRight.nd (pi_tupK K (pe_ix ix_list (pe_ix ix_list (pv 9) pe_int (fun _ _ => rfl)) pe_int (fun _ _ => rfl))) (blkOk_by (N := ["_law_box_here", "_law_names_here", "_law_lines", "_law_many_so", "_law_near", "_law_here", "_law_wide", "_law_ring_so", "_law_made_here", "_law_told", "_law_own"]) (sc := defScope sRingedRight) (by decide +kernel)) (fun _ _ _ _ _ => (pg_name (i := 10) scRingedRight.nd rfl (Or.inl rfl))) (fun _ _ _ _ _ => (pts_one (pt_cmpR (opK (r := fun K => rIn K true) K op_notIn_seq) (pv 10) (pv 7) (by rfl)))) (fun _ _ _ _ _ => (pv 10))) (pe_lst pa_nil) (nomark _)) (pe_one (pe_not (pe_ix ix_list (pe_ix ix_list (pv 9) pe_int (fun _ _ => rfl)) pe_int (fun _ _ => rfl))))))))))))), ?_⟩
    walk_at "in"
    obtain ⟨qs0, rfl, h0⟩ := tel_rows tel
    have lq0 : qs0.length ≤ 56 := by rw [List.length_map] at lls; exact lls
    have hsl := PySem.sizeLine_eq
    have i6 := k6.2.1
    have i5 := k5.2.1
    rw [← len_cds] at i5 i6
    have m1 : (Str.ofString " = 2 ").length = 5 := by decide +kernel
    have m2 : (Str.ofString " = 1 ").length = 5 := by decide +kernel
    have m3 : (Str.ofString " = 3 ").length = 5 := by decide +kernel
    repeat (first | walk_at "st" | refine r_catS (by rw [hsl]; (try simp only [Str.length_append]); omega) ?_)
    rename_i L1 hL1 W hW R hR t ht
    have a1 : Same H (upd H L1 (.lst [V.str ((w6 ++ Str.ofString " = 2 ") ++ w6)])) := fun c o e => upd_at e (ne_of_none e hL1)
    have a2 := fun c o (e : upd H L1 (.lst [V.str ((w6 ++ Str.ofString " = 2 ") ++ w6)]) c = some o) => upd_at (o := HO.lst ((qs0.map lineS).map V.str ++ [V.str ((w6 ++ Str.ofString " = 2 ") ++ w6)])) e (ne_of_none e hW)
    have a3 := fun c o (e : upd (upd H L1 (.lst [V.str ((w6 ++ Str.ofString " = 2 ") ++ w6)])) W (HO.lst ((qs0.map lineS).map V.str ++ [V.str ((w6 ++ Str.ofString " = 2 ") ++ w6)])) c = some o) => upd_at (o := HO.lst [V.str w6]) e (ne_of_none e hR)
    have a4 := fun c o (e : upd (upd (upd H L1 (.lst [V.str ((w6 ++ Str.ofString " = 2 ") ++ w6)])) W (HO.lst ((qs0.map lineS).map V.str ++ [V.str ((w6 ++ Str.ofString " = 2 ") ++ w6)]))) R (HO.lst [V.str w6]) c = some o) => upd_at (o := HO.tup [V.ref W, V.ref R]) e (ne_of_none e ht)
    have z2 : Same H (upd (upd (upd (upd H L1 (.lst [V.str ((w6 ++ Str.ofString " = 2 ") ++ w6)])) W (HO.lst ((qs0.map lineS).map V.str ++ [V.str ((w6 ++ Str.ofString " = 2 ") ++ w6)]))) R (HO.lst [V.str w6])) t (.tup [V.ref W, V.ref R])) := fun c o e => a4 _ _ (a3 _ _ (a2 _ _ (a1 _ _ e)))
    have hR2 := a4 _ _ (upd_same (H := upd (upd H L1 (.lst [V.str ((w6 ++ Str.ofString " = 2 ") ++ w6)])) W (HO.lst ((qs0.map lineS).map V.str ++ [V.str ((w6 ++ Str.ofString " = 2 ") ++ w6)]))) (a := R))
    have hW2 := a4 _ _ (a3 _ _ (upd_same (H := upd H L1 (.lst [V.str ((w6 ++ Str.ofString " = 2 ") ++ w6)])) (a := W)))
    generalize upd (upd (upd (upd H L1 (.lst [V.str ((w6 ++ Str.ofString " = 2 ") ++ w6)])) W (HO.lst ((qs0.map lineS).map V.str ++ [V.str ((w6 ++ Str.ofString " = 2 ") ++ w6)]))) R (HO.lst [V.str w6])) t (.tup [V.ref W, V.ref R]) = H2 at z2 hR2 hW2 ⊢
    have hp2 := z2 _ _ hp
    have hl2 := z2 _ _ hl
    have bx2 := bx.same z2
    have nWa : W ≠ a := ((bx.same a1).ne hW).symm
    have nRa : R ≠ a := ((bx.same fun c o e => a2 _ _ (a1 _ _ e)).ne hR).symm
    clear a1 a2 a3 a4 hL1 hW hR ht hl hp bx
    refine ⟨fun σ' H' => ∃ (W R : Addr) (qs : List Row) (rn : List Str) (x5 x8 x9 xa : Option V), σ' = [some (.ref a), some (.ref p), some (.ref l), some (.int many), some (.int near), x5, some (.ref W), some (.ref R), x8, x9, xa] ∧ qs ≠ [] ∧ qs.length ≤ 58 ∧ RgOk qs rn ∧ rn.length ≤ 2 ∧ H' W = some (.lst ((qs.map lineS).map V.str)) ∧ H' R = some (.lst (rn.map V.str)) ∧ Bx H' a b ∧ Kp a H H', ?_, ?_⟩
    · have h00 : ∀ r, r ∈ qs0 ++ [(w6, [(w6, 2)])] ↔ r ∈ qs0 ∨ r = (w6, [(w6, (2 : Int))]) := fun r => by rw [List.mem_append, List.mem_singleton]
      have g0 := rg_self nd rfl (show [w0, w1, w2, w3, w4, w5, w6][6]? = some w6 from rfl) k6 h0 h00
      have e0 : (qs0.map lineS).map V.str ++ [V.str ((w6 ++ Str.ofString " = 2 ") ++ w6)] = ((qs0 ++ [(w6, [(w6, 2)])]).map lineS).map V.str := by
        rw [lineS_two, List.map_append, List.map_append]
        rfl
      rw [e0] at hW2
      have l0 : (qs0 ++ [(w6, [(w6, (2 : Int))])]).length ≤ 58 := by rw [List.length_append, List.length_singleton]; omega
      walk_at "go"
      refine ite_d (fun _ => ?_) fun _ => ?_
      · walk_at "go"
        refine ⟨a, b + 99, 2, rfl, bx2, by decide, by decide, fun d H3 d0 d1 bx3 k3 => ?_⟩
        have hp3 := k3 _ _ hp2 npa
        have hl3 := k3 _ _ hl2 nla
        have z3 : Kp a H H3 := fun c o e n => k3 _ _ (z2 _ _ e) n
        walk_at "go"
        refine ite_d (fun _ => ?_) fun _ => ?_
        · repeat (first | walk_at "st" | refine r_catS (by rw [hsl]; (try simp only [Str.length_append]); omega) ?_)
          rename_i L2 hL2 M hM
          have b1 : Same H3 (upd H3 L2 (.lst [V.str (w6 ++ Str.ofString " = 1 " ++ w5), V.str (w5 ++ Str.ofString " = 3 " ++ w6)])) := fun c o e => upd_at e (ne_of_none e hL2)
          have b2 : Same (upd H3 L2 (.lst [V.str (w6 ++ Str.ofString " = 1 " ++ w5), V.str (w5 ++ Str.ofString " = 3 " ++ w6)])) (upd (upd H3 L2 (.lst [V.str (w6 ++ Str.ofString " = 1 " ++ w5), V.str (w5 ++ Str.ofString " = 3 " ++ w6)])) M (.lst ((qs0.map lineS).map V.str ++ [V.str (w6 ++ Str.ofString " = 1 " ++ w5), V.str (w5 ++ Str.ofString " = 3 " ++ w6)]))) := fun c o e => upd_at e (ne_of_none e hM)
          have eM : (qs0.map lineS).map V.str ++ [V.str (w6 ++ Str.ofString " = 1 " ++ w5), V.str (w5 ++ Str.ofString " = 3 " ++ w6)] = ((qs0 ++ [(w6, [(w5, 1)]), (w5, [(w6, 3)])]).map lineS).map V.str := by
            rw [lineS_1, lineS_3, List.map_append, List.map_append]
            rfl
          have bxM := (bx3.same b1).same b2
          have hpM := b2 _ _ (b1 _ _ hp3)
          have zM : Kp a H _ := fun c o e n => b2 _ _ (b1 _ _ (z3 _ _ e n))
          have lM : ((qs0.map lineS).map V.str ++ [V.str (w6 ++ Str.ofString " = 1 " ++ w5), V.str (w5 ++ Str.ofString " = 3 " ++ w6)]).length ≤ 58 := by
            simp only [List.length_append, List.length_map, List.length_cons, List.length_nil]
            omega
          refine ⟨a, M, b + 1, _, rfl, bxM.mono (by omega), SqL.of upd_same, by omega, fun M2 ys H4 hM2 pm hM4 bx4 k4 => ?_⟩
          rw [eM] at pm lM
          obtain ⟨qs, pq, rfl⟩ := perm_lines pm
          have g2 := rg_two nd rfl (show [w0, w1, w2, w3, w4, w5, w6][5]? = some w5 from rfl) (show [w0, w1, w2, w3, w4, w5, w6][6]? = some w6 from rfl) k5 k6 h0 (qs := qs) fun r => pq.mem_iff.trans (by rw [List.mem_append, List.mem_cons, List.mem_singleton])
          have lq := pq.length_eq
          rw [List.length_map, List.length_map] at lM
          have hp4 := k4 _ _ hpM npa
          walk_at "go"
          rename_i R2 hR2
          have b5 : Same H4 (upd H4 R2 (.lst [V.str w5, V.str w6])) := fun c o e => upd_at e (ne_of_none e hR2)
          exact ⟨M2, R2, qs, [w5, w6], _, _, _, _, rfl, (by
            intro z
            rw [z] at lq
            simp at lq), by omega, g2, by show 2 ≤ 2; decide, b5 _ _ hM4, upd_same, (bx4.same b5).mono (by omega), fun c o e n => b5 _ _ (k4 _ _ (zM _ _ e n) n)⟩
        · exact ⟨W, R, qs0 ++ [(w6, [(w6, 2)])], [w6], _, _, _, _, rfl, by simp, l0, g0, by show 1 ≤ 2; decide, k3 _ _ hW2 nWa, k3 _ _ hR2 nRa, bx3.mono (by omega), z3⟩
      · exact ⟨W, R, qs0 ++ [(w6, [(w6, 2)])], [w6], _, _, _, _, rfl, by simp, l0, g0, by show 1 ≤ 2; decide, hW2, hR2, bx2.mono (by omega), fun c o e _ => z2 _ _ e⟩
    · rintro σ H3 ⟨W, R, qs, rn, x5, x8, x9, xa, rfl, nq, lq, rg, lrn, hW3, hR3, bx3, z3⟩
      walk_at "go"
      have n1 : lnf.length = 1 := by decide +kernel
      have sz := sum_bound (B := 10100) (qs.map lineS) fun z hz => by
        obtain ⟨r, hr, rfl⟩ := List.mem_map.mp hz
        exact (rg.ok r hr).fit.2
      have lml : (qs.map lineS).length = qs.length := List.length_map _
      refine r_join (ys := qs.map lineS) (SqL.of hW3) (by show _ + _ * lnf.length ≤ _; rw [n1]; omega) ?_
      walk_at "go"
      refine read_ring nq rg (by omega) fun r t u x xs H4 mem lx hr ht hu hx s4 => ?_
      have hR4 := s4 _ _ hR3
      have bx4 := bx3.same s4
      have z4 : Kp a H H4 := fun c o e n => s4 _ _ (z3 _ _ e n)
      clear s4 hR3 bx3 z3 hW3
      refine ⟨r, [.non, .ref t], rfl, SqL.of hr, rfl, ?_⟩
      walk_at "go"
      refine ite_ndF rfl ?_
      walk_at "go"
      refine ite_ndF rfl ?_
      walk_at "go"
      refine ite_dF (by intro z; cases z) ?_
      walk_at "go"
      refine r_isi (T := "tuple") true (tyT hx) (by decide +kernel) ?_
      walk_at "go"
      refine iteF ?_
      walk_at "go"
      intro D hD
      refine lc_it (walk_list (xs := rn.map V.str)) (fun i H' => H' D = some (.lst []) ∧ Same H4 H') ?_ ?_ ?_ ?_
      · exact ⟨upd_same, fun c o e => upd_at e (ne_of_none e hD)⟩
      · rintro i H' _ ⟨_, s5⟩
        exact SqL.of (s5 _ _ hR4)
      · rintro i v _ H5 hi ⟨hD5, s5⟩ ⟨rfl, hv⟩
        obtain ⟨k, rfl, hk⟩ := map_some hv
        have ht5 := s5 _ _ ht
        have hu5 := s5 _ _ hu
        have hx5 := s5 _ _ hx
        walk_at "go"
        refine ⟨rfl, ?_⟩
        walk_at "go"
        refine ⟨x, xs.map V.str, rfl, .inr (SqT.of hx5), rfl, flat_strs xs, ?_⟩
        rw [inV_strs, decide_eq_true ((mem k).mpr (List.mem_of_getElem? hk))]
        exact ⟨_, rfl, iteF ⟨hD5, s5⟩⟩
      rintro H5 ⟨hD5, s5⟩
      walk_at "go"
      rename_i p9 hp9
      have s6 : Same H4 (upd H5 p9 (.lst [])) := fun c o e => upd_at (s5 _ _ e) (ne_of_none (s5 _ _ e) hp9)
      refine eq_nilD (upd_at hD5 (ne_of_none hD5 hp9)) upd_same ⟨_, rfl, iteT ?_⟩
      have ht6 := s6 _ _ ht
      have hu6 := s6 _ _ hu
      have hx6 := s6 _ _ hx
      have hR6 := s6 _ _ hR4
      have bx6 := bx4.same s6
      have z6 : Kp a H (upd H5 p9 (.lst [])) := fun c o e n => s6 _ _ (z4 _ _ e n)
      generalize upd H5 p9 (.lst []) = H6 at ht6 hu6 hx6 hR6 bx6 z6 ⊢
      clear s6 s5 hD5 hp9 hr ht hu hx hR4 bx4 z4 hD
      walk_at "go"
      intro D2 hD2
      refine lc_it (walk_tup (xs := xs.map V.str)) (fun i H' => H' D2 = some (.lst []) ∧ Same H6 H') ?_ ?_ ?_ ?_
      · exact ⟨upd_same, fun c o e => upd_at e (ne_of_none e hD2)⟩
      · rintro i H' _ ⟨_, s5⟩
        exact SqT.of (s5 _ _ hx6)
      · rintro i v _ H5 hi ⟨hD5, s5⟩ ⟨rfl, hv⟩
        obtain ⟨k, rfl, hk⟩ := map_some hv
        have hR5 := s5 _ _ hR6
        walk_at "go"
        refine ⟨rfl, ?_⟩
        walk_at "go"
        refine ⟨R, rn.map V.str, rfl, .inl (SqL.of hR5), rfl, flat_strs rn, ?_⟩
        rw [inV_strs, decide_eq_true ((mem k).mp (List.mem_of_getElem? hk))]
        exact ⟨_, rfl, iteF ⟨hD5, s5⟩⟩
      rintro H7 ⟨hD7, s7⟩
      walk_at "go"
      rename_i p8 hp8
      have s8 : Same H6 (upd H7 p8 (.lst [])) := fun c o e => upd_at (s7 _ _ e) (ne_of_none (s7 _ _ e) hp8)
      refine eq_nilD (upd_at hD7 (ne_of_none hD7 hp8)) upd_same ⟨_, rfl, iteT ?_⟩
      have ht8 := s8 _ _ ht6
      have hu8 := s8 _ _ hu6
      have bx8 := bx6.same s8
      have z8 : Kp a H (upd H7 p8 (.lst [])) := fun c o e n => s8 _ _ (z6 _ _ e n)
      generalize upd H7 p8 (.lst []) = H8 at ht8 hu8 bx8 z8 ⊢
      walk_at "go"
      exact q H8 bx8 z8
end


/-- a line as the texts hold them -/
structure FineL (z : Str) : Prop where
  nl : 10 ∉ cds z
  ft : Fit z
  le : z.length ≤ 10100
  ch : ∀ c ∈ cds z, c < 1114112
theorem BadT.fine {z : Str} (h : BadT z) : FineL z := by
  obtain ⟨_, n, m, s, hn, hm⟩ := h
  have := s.ln
  have := s.sp
  exact ⟨s.nl, ⟨by rw [len_cds]; omega, by omega⟩, by rw [len_cds]; omega, s.ch⟩
theorem LnR.fine {r : Row} (h : LnR r) : FineL (lineS r) := by
  refine ⟨h.nl, h.fit.1, h.fit.2, fun c m => ?_⟩
  rw [LnR.codes r] at m
  rcases List.mem_append.mp m with m | m
  · have := h.kk.2.2 c m
    omega
  · simp only [List.mem_cons] at m
    rcases m with m | m | m | m
    · omega
    · omega
    · omega
    · have := ltx_ch h.ne h.ps c m
      omega
theorem can_strs {qs : List Str} (h : ∀ z ∈ qs, FineL z) : (sd qs).canLay0 = true := by
  unfold sd
  unfold PyData.canLay0
  induction qs with
  | nil => rfl
  | cons p r ih =>
    rw [List.map_cons]
    show (PyData.strOk p && PyData.canLayAll0 (List.map PyData.str r)) = true
    rw [ih fun q hq => h q (List.mem_cons_of_mem _ hq), Bool.and_true]
    show p.cps.all (fun c => decide (c < 0x110000)) = true
    rw [← Array.all_toList, List.all_eq_true]
    exact fun c hc => decide_eq_true ((h p List.mem_cons_self).ch c hc)
/-- zs != ["-"] -/
theorem r_neDash {K : PySem.W.Frag} {H : Hp} {Q : VK} {D p : Addr} {zs : List Str} (hD : H D = some (.lst (zs.map V.str))) (h : ∀ z ∈ zs, FineL z) (hp : H p = some (.lst [V.str (Str.ofString "-")])) (q : Q (.bl (!decide (zs = [dash]))) H) : rNeD K (.ref D) (.ref p) H Q := by
  refine ⟨sd zs, sd [dash], .lst (SqL.of hD) (dp_strs zs), .lst (SqL.of hp) (dp_strs [dash]), ?_, by decide +kernel, ?_⟩
  · unfold SeqAt.shaped
    rw [can_strs h, Bool.true_and]
    refine decide_eq_true ?_
    have := depth_strs zs
    show PyData.depthAll (zs.map PyData.str) + 1 ≤ 64
    omega
  · rw [eqv_sd]
    exact q
/-- reading a text whose n-th line is the first bad one -/
theorem read_bad {CO CB : Addr} {near : Int} {zs : List Str} {n : Nat} {l : Str} {H : Hp} {Q : VK} {E : XK} (fi : ∀ z ∈ zs, FineL z) (nd : zs ≠ [dash]) (ll : zs.length ≤ 63) (hn : zs[n]? = some l) (bad : BadL l) (prev : ∀ (i : Nat) x, i < n → zs[i]? = some x → ∃ r, GoodL x r)
    (q : ∀ (r t u : Addr) (H' : Hp), H' r = some (.lst [.non, .ref t]) → H' t = some (.lst [.ref u, .non]) → H' u = some (.lst [.int n, .bl true, .bl false]) → Same H H' → Q (.ref r) H') : spRead CO CB [.str (Txt.join lnf zs), .int near] H Q E := by
  have ne : zs ≠ [] := fun z => by rw [z] at hn; simp at hn
  obtain ⟨v1, v2, v3, v4, v5⟩ := text_ok ne (fun z hz => ⟨(fi z hz).nl, (fi z hz).ft, (fi z hz).le⟩) ll
  refine ⟨_, near, rfl, v2, v3, v4, fun e => absurd (v5 e) nd, fun _ => ⟨fun m x r t u H' hm bx pv hr ht hu s => ?_, fun rs gs => ?_⟩⟩
  · rw [v1] at hm pv
    have e : m = n := by
      rcases Nat.lt_trichotomy m n with h | h | h
      · obtain ⟨y, g⟩ := prev m x h hm
        exact absurd bx g.not_bad
      · exact h
      · obtain ⟨y, g⟩ := pv n l h hn
        exact absurd bad g.not_bad
    subst e
    exact q r t u H' hr ht hu s
  · rw [v1] at gs
    obtain ⟨y, _, g⟩ := Paired.at gs hn
    exact absurd bad g.not_bad
theorem same_bad {K : PySem.W.Frag} {H : Hp} {t u c1 c2 : Addr} {i j : Int} {Q : VK} {E : XK} (ht : H t = some (.lst [.ref u, .non])) (hu : H u = some (.lst [.int i, .bl true, .bl false])) (ij : i = j) (h1 : H c1 = none) (h2 : upd H c1 (.lst [.int j, .bl true, .bl false]) c2 = none) (q : ∀ H', Same H H' → Q (.bl true) H') :
    spSame K 6 [.ref t, .ref c2] (upd (upd H c1 (.lst [.int j, .bl true, .bl false])) c2 (.lst [.ref c1, .non])) Q E := by
  subst ij
  have a1 : Same H (upd H c1 (.lst [.int i, .bl true, .bl false])) := fun c o e => upd_at e (ne_of_none e h1)
  have a2 : Same (upd H c1 (.lst [.int i, .bl true, .bl false])) (upd (upd H c1 (.lst [.int i, .bl true, .bl false])) c2 (.lst [.ref c1, .non])) := fun c o e => upd_at e (ne_of_none e h2)
  have s12 : Same H _ := fun c o e => a2 _ _ (a1 _ _ e)
  refine ⟨_, _, rfl, .inr (.inl ⟨t, c2, _, _, rfl, rfl, s12 _ _ ht, upd_same, rfl, by show 2 ≤ 1000; decide, fun k x y hx hy => ?_⟩), fun H' s => q H' fun c o e => s _ _ (s12 _ _ e)⟩
  match k, hx, hy with
  | 0, hx, hy =>
    cases hx
    cases hy
    refine .inr (.inl ⟨u, c1, _, _, rfl, rfl, s12 _ _ hu, a2 _ _ upd_same, rfl, by show 3 ≤ 1000; decide, fun k x y hx hy => ?_⟩)
    match k, hx, hy with
    | 0, hx, hy =>
      cases hx
      cases hy
      exact .inl ⟨rfl, .inr (.inr (.inl ⟨_, rfl⟩))⟩
    | 1, hx, hy =>
      cases hx
      cases hy
      exact .inl ⟨rfl, .inr (.inl ⟨_, rfl⟩)⟩
    | 2, hx, hy =>
      cases hx
      cases hy
      exact .inl ⟨rfl, .inr (.inl ⟨_, rfl⟩)⟩
    | k + 3, hx, hy => cases hx
  | 1, hx, hy =>
    cases hx
    cases hy
    exact .inl ⟨rfl, .inl rfl⟩
  | k + 2, hx, hy => cases hx
section
variable {P : Program} {w : World} {K : PySem.W.Frag} {mg : Str → Option Value} {base : Heap} {C CO CB CN CH CR CL : Addr}
abbrev sBadRight : Stmt := top 49
theorem scBadRight : FnScope ["_law_box_here", "_law_names_here", "_law_lines", "_law_many_so", "_law_near", "_law_wide", "_law_place", "_law_some", "_law_two_so", "_law_made_here", "_law_told"] ["_law_box_here", "_law_names_here", "_law_lines", "_law_many_so", "_law_near"] (defScope sBadRight) := ⟨rfl, rfl, rfl, by decide +kernel, rfl, by decide +kernel, by decide +kernel⟩
def spBadRight : Sp := fun vs H Q _ => ∃ (a p l : Addr) (many near : Int) (ws ls : List Str) (b : Nat), vs = [.ref a, .ref p, .ref l, .int many, .int near] ∧ Bx H a (b + 120) ∧ p ≠ a ∧ l ≠ a ∧ H p = some (.lst (ws.map V.str)) ∧ ws.length = 7 ∧ ws.Nodup ∧ (∀ s ∈ ws, KindS s) ∧ H l = some (.lst (ls.map V.str)) ∧ ls.length ≤ 56 ∧ (∀ z ∈ ls, TelR ws z) ∧ ∀ H', Bx H' a b → Kp a H H' → Q (.bl true) H'
theorem ok_badRight {f : Addr} {fd : FuncData} (F : Fun K "_law_bad_right" "_law_bad_right" sBadRight f fd) (T : Txt K mg) (Ct : Cal P w K mg base CX0 1 "_law_take" ["_law_box_here", "_law_below"] spTake) (Co : Cal P w K mg base CX0 2 "_law_of" ["_law_box_here", "_law_some"] spOf) (Cb : Cal P w K mg base CX0 3 "_law_bad" ["_law_box_here", "_law_names_here"] spBad) (Crd : Cal P w K mg base CX0 10 "_law_read" ["_law_text_so", "_law_near"] (spRead CO CB)) (Cs : Cal P w K mg base CX0 6 "_law_same" ["_law_got", "_law_due"] (spSame K 6)) (Crr : Cal P w K mg base CX0 11 "_law_ringed_right" ["_law_box_here", "_law_names_here", "_law_lines", "_law_many_so", "_law_near"] (spRinged CO CB)) : FnOk P w K mg base CX0 12 f fd ["_law_box_here", "_law_names_here", "_law_lines", "_law_many_so", "_law_near"] spBadRight := by
  refine F.ok scBadRight (fun vs H Q E h => ?_) (fun cdv A outer s H vs Q E hr h => ?_)
  · obtain ⟨a, p, l, many, near, ws, ls, b, rfl, _⟩ := h
    rfl
  · obtain ⟨a, p, l, many, near, ws, ls, b, rfl, bx, npa, nla, hp, lw, nd, ks, hl, lls, tel, q⟩ := h
    match ws, lw with
    | [w0, w1, w2, w3, w4, w5, w6], _ =>
    have k5 := ks w5 (by simp)
    have k6 := ks w6 (by simp)
    refine ⟨_, (pss_cons (ps_par (i := 6) (j := 7) rfl scBadRight.nd rfl rfl (by decide) rfl rfl (pa_cons (pe_cal Ct (hr.mono (by decide)) pass0 (pa_cons (pv 0) (pa_cons (pe_op op_add (pe_callB c_lenL (by rfl) T.len (by decide +kernel) (pa_cons (pv 2) pa_nil)) pe_int) pa_nil))) (pa_cons (pe_lst pa_nil) pa_nil)) (by rfl))
  (Evl.pss_cut (ps_if (pt_cmpR op_eq (pe_cal Ct (hr.mono (by decide)) pass0 (pa_cons (pv 0) (pa_cons pe_int pa_nil))) pe_int (nomark _))
  (pss_cons (ps_set (i := 8) scBadRight.nd rfl (Or.inl rfl) (pe_lst (pa_cons (pe_op o_catS (pe_op o_catS (pe_ix ix_list (pv 1) pe_int (fun _ _ => rfl)) pe_str) (pe_ix ix_list (pv 1) pe_int (fun _ _ => rfl))) (pa_cons (pe_op o_catS (pe_op o_catS (pe_ix ix_list (pv 1) pe_int (fun _ _ => rfl)) pe_str) (pe_ix ix_list (pv 1) pe_int (fun _ _ => rfl))) pa_nil))))
  (pss_one (ps_set (i := 7) scBadRight.nd rfl (Or.inl rfl) (pe_cal Co (hr.mono (by decide)) pass0 (pa_cons (pv 0) (pa_cons (pe_lst (pa_cons (pe_lst (pa_cons (pe_op o_catS (pe_op o_catS (pe_ix ix_list (pv 1) pe_int (fun _ _ => rfl)) pe_str) (pe_ix ix_list (pv 1) pe_int (fun _ _ => rfl))) pa_nil)) (pa_cons (pv 8) pa_nil))) pa_nil))))))
  pss_nil)
  (pss_cons (ps_set (i := 5) scBadRight.nd rfl (Or.inl rfl) (pe_op op_cat (pe_op op_cat (pe_op op_cat (pv 7) (pe_slice sl_list (pv 2) po_none (po_some (pv 6)))) (pe_lst (pa_cons (pe_cal Cb (hr.mono (by decide)) pass0 (pa_cons (pv 0) (pa_cons (pv 1) pa_nil))) pa_nil))) (pe_slice sl_list (pv 2) (po_some (pv 6)) po_none)))
  (pss_cons (ps_set (i := 6) scBadRight.nd rfl (Or.inl rfl) (pe_op op_add (pv 6) (pe_callB c_lenL (by rfl) T.len (by decide +kernel) (pa_cons (pv 7) pa_nil))))
  (Evl.pss_cut (ps_if (pt_cmpR op_eq (pe_cal Ct (hr.mono (by decide)) pass0 (pa_cons (pv 0) (pa_cons pe_int pa_nil))) pe_int (nomark _))
  (pss_one (ps_expr (pe_bm PySem.F.plainAttrs_list PySem.F.slot_list_append PySem.F.type_list_append mt_append (pv 5) (pa_cons (pe_cal Cb (hr.mono (by decide)) pass0 (pa_cons (pv 0) (pa_cons (pv 1) pa_nil))) pa_nil))))
  pss_nil)
  (Evl.pss_cut (ps_if (pt_cmpR op_eq (pe_cal Ct (hr.mono (by decide)) pass0 (pa_cons (pv 0) (pa_cons pe_int pa_nil))) pe_int (nomark _))
  (pss_one (ps_expr (pe_bm PySem.F.plainAttrs_list PySem.F.slot_list_append PySem.F.type_list_append mt_append (pv 5) (pa_cons (pe_op o_catS (pe_op o_catS (pe_ix ix_list (pv 1) pe_int (fun _ _ => rfl)) pe_str) (pe_ix ix_list (pv 1) pe_int (fun _ _ => rfl))) pa_nil))))
  pss_nil)
  (Evl.pss_cut (ps_if (pt_cmpR (op_neD (hu64 hr)) (pv 5) (pe_lst (pa_cons pe_str pa_nil)) (nomark _))
  (pss_cons (ps_asg (pe_cal Crd (hr.mono (by decide)) pass0 (pa_cons (pe_joinR pe_str (pv 5)) (pa_cons (pv 4) pa_nil))) (pg_lst rfl (pgs_cons (pg_name (i := 9) scBadRight.nd rfl (Or.inl rfl)) (pgs_cons (pg_name (i := 10) scBadRight.nd rfl (Or.inl rfl)) pgs_nil))))
  (pss_one (ps_if (PW.pt (pw_or (pt_cmpR o_notN (pv 9) pe_non (nomark _)) (pw_or1 (pt_not (pt_val (pe_cal Cs (hr.mono (by decide)) pass0 (pa_cons (pv 10) (pa_cons (pe_lst (pa_cons (pe_lst (pa_cons (pv 6) (pa_cons pe_bl (pa_cons pe_bl pa_nil)))) (pa_cons pe_non pa_nil))) pa_nil))))))))
  (pss_one (ps_ret pe_bl))
  pss_nil)))
  pss_nil)
  (pss_one (ps_ret (pe_cal Crr hr pass0 (pa_cons (pv 0) (pa_cons (pv 1) (pa_cons (pv 2) (pa_cons (pv 3) (pa_cons (pv 4) pa_nil))))))))))))))), ?_⟩
    walk_at "in"
    obtain ⟨qs0, rfl, h0⟩ := tel_rows tel
    have lq0 : qs0.length ≤ 56 := by rw [List.length_map] at lls; exact lls
    have hsl := PySem.sizeLine_eq
    have i6 := k6.2.1
    have i5 := k5.2.1
    rw [← len_cds] at i5 i6
    have m1 : (Str.ofString " = 2 ").length = 5 := by decide +kernel
    have m2 : (Str.ofString " = 1 ").length = 5 := by decide +kernel
    have m3 : (Str.ofString " = 3 ").length = 5 := by decide +kernel
    have lml : ((qs0.map lineS).map V.str).length = qs0.length := by rw [List.length_map, List.length_map]
    walk_at "go"
    refine ⟨a, b + 119, _, rfl, bx, by omega, by rw [lml]; omega, fun d H1 d0 d1 bx1 k1 => ?_⟩
    obtain ⟨n, rfl⟩ := Int.eq_ofNat_of_zero_le d0
    rw [lml] at d1
    have hp1 := k1 _ _ hp npa
    have hl1 := k1 _ _ hl nla
    clear bx d0
    walk_at "go"
    rename_i S0 hS0
    have s2 : Same H1 (upd H1 S0 (.lst [])) := fun c o e => upd_at e (ne_of_none e hS0)
    have hS2 : upd H1 S0 (.lst []) S0 = some (.lst []) := upd_same
    have nSa : S0 ≠ a := (bx1.ne hS0).symm
    generalize upd H1 S0 (.lst []) = H2 at s2 hS2 ⊢
    have hp2 := s2 _ _ hp1
    have hl2 := s2 _ _ hl1
    have bx2 := bx1.same s2
    have z2 : Kp a H H2 := fun c o e n => s2 _ _ (k1 _ _ e n)
    clear s2 hp1 hl1 bx1 k1 hS0
    refine ⟨fun σ' H' => ∃ (S : Addr) (rs : List Row) (x5 x8 x9 xa : Option V), σ' = [some (.ref a), some (.ref p), some (.ref l), some (.int many), some (.int near), x5, some (.int (n : Nat)), some (.ref S), x8, x9, xa] ∧ H' S = some (.lst ((rs.map lineS).map V.str)) ∧ (∀ r ∈ rs, LnR r) ∧ rs.length ≤ 2 ∧ Bx H' a (b + 117) ∧ Kp a H H', ?_, ?_⟩
    · walk_at "go"
      refine ⟨a, b + 118, 2, rfl, bx2, by decide, by decide, fun d H3 d0 d2 bx3 k3 => ?_⟩
      have hp3 := k3 _ _ hp2 npa
      have z3 : Kp a H H3 := fun c o e n => k3 _ _ (z2 _ _ e n) n
      walk_at "go"
      refine ite_d (fun _ => ?_) fun _ => ?_
      · repeat (first | walk_at "st" | refine r_catS (by rw [hsl]; (try simp only [Str.length_append]); omega) ?_)
        rename_i c1 hc1 c2 hc2 c3 hc3
        have t1 : Same H3 (upd H3 c1 (.lst [V.str (w6 ++ Str.ofString " = 1 " ++ w5), V.str (w5 ++ Str.ofString " = 3 " ++ w6)])) := fun c o e => upd_at e (ne_of_none e hc1)
        have t2 := fun c o (e : upd H3 c1 (.lst [V.str (w6 ++ Str.ofString " = 1 " ++ w5), V.str (w5 ++ Str.ofString " = 3 " ++ w6)]) c = some o) => upd_at (o := HO.lst [V.str (w6 ++ Str.ofString " = 2 " ++ w6)]) e (ne_of_none e hc2)
        have t3 := fun c o (e : upd (upd H3 c1 (.lst [V.str (w6 ++ Str.ofString " = 1 " ++ w5), V.str (w5 ++ Str.ofString " = 3 " ++ w6)])) c2 (HO.lst [V.str (w6 ++ Str.ofString " = 2 " ++ w6)]) c = some o) => upd_at (o := HO.lst [V.ref c2, V.ref c1]) e (ne_of_none e hc3)
        have t123 : Same H3 (upd (upd (upd H3 c1 (.lst [V.str (w6 ++ Str.ofString " = 1 " ++ w5), V.str (w5 ++ Str.ofString " = 3 " ++ w6)])) c2 (HO.lst [V.str (w6 ++ Str.ofString " = 2 " ++ w6)])) c3 (.lst [V.ref c2, V.ref c1])) := fun c o e => t3 _ _ (t2 _ _ (t1 _ _ e))
        have hq1 := t3 _ _ (t2 _ _ (upd_same (H := H3) (a := c1)))
        have hq2 := t3 _ _ (upd_same (H := upd H3 c1 (.lst [V.str (w6 ++ Str.ofString " = 1 " ++ w5), V.str (w5 ++ Str.ofString " = 3 " ++ w6)])) (a := c2))
        have nc1 : c1 ≠ a := (bx3.ne hc1).symm
        have nc2 : c2 ≠ a := ((bx3.same t1).ne hc2).symm
        have nc3 : c3 ≠ a := ((bx3.same fun c o e => t2 _ _ (t1 _ _ e)).ne hc3).symm
        refine ⟨a, c3, b + 117, [.ref c2, .ref c1], rfl, bx3.same t123, upd_same, nc3, by show 0 < 2; decide, by show 2 ≤ 1000; decide, fun x i H4 hx bx4 k4 => ?_⟩
        have z4 : Kp a H H4 := fun c o e n => k4 _ _ (t123 _ _ (z3 _ _ e n)) n
        match i, hx with
        | 0, hx =>
          cases hx
          walk_at "go"
          exact ⟨c2, [(w6, [(w6, 2)])], _, _, _, _, rfl, (by rw [k4 _ _ hq2 nc2, lineS_two]; rfl), fun r hr => by rw [List.mem_singleton.mp hr]; exact lnr_one k6 k6 (by decide) (by decide), by show 1 ≤ 2; decide, bx4, z4⟩
        | 1, hx =>
          cases hx
          walk_at "go"
          exact ⟨c1, [(w6, [(w5, 1)]), (w5, [(w6, 3)])], _, _, _, _, rfl, (by rw [k4 _ _ hq1 nc1, lineS_1, lineS_3]; rfl), fun r hr => (by
            simp only [List.mem_cons, List.not_mem_nil, or_false] at hr
            rcases hr with rfl | rfl
            · exact lnr_one k6 k5 (by decide) (by decide)
            · exact lnr_one k5 k6 (by decide) (by decide)), by show 2 ≤ 2; decide, bx4, z4⟩
        | j + 2, hx => cases hx
      · exact ⟨S0, [], _, _, _, _, rfl, k3 _ _ hS2 nSa, fun _ h => (nomatch h), by decide, bx3.mono (by omega), z3⟩
    rintro σ H3 ⟨S, rs, x5, x8, x9, xa, rfl, hS3, oks, lrs, bx3, z3⟩
    have hp3 := z3 _ _ hp npa
    have hl3 := z3 _ _ hl nla
    repeat (first | walk_at "st" | refine r_catS (by rw [hsl]; (try simp only [Str.length_append]); omega) ?_)
    rename_i c1 hc1
    have ec : cutV ((qs0.map lineS).map V.str) none (some (n : Int)) = ((qs0.map lineS).map V.str).take n := cutV_to _ n
    rw [ec]
    refine r_catN hS3 hc1 (by simp only [List.length_map, List.length_take]; omega) fun r4 H4 n4 s4 hr4 => ?_
    have hS4 := s4 _ _ hS3
    have hp4 := s4 _ _ hp3
    have hl4 := s4 _ _ hl3
    have bx4 := bx3.same s4
    have z4 : Kp a H H4 := fun c o e n => s4 _ _ (z3 _ _ e n)
    have nr4 : r4 ≠ a := (bx3.ne n4).symm
    have nSa' : S ≠ a := bx3.nls hS3 fun x hx => .inr (by obtain ⟨s, _, e⟩ := List.mem_map.mp hx; exact ⟨s, e.symm⟩)
    clear s4 hS3 hp3 hl3 bx3 z3 hc1 n4 ec
    walk_at "go"
    refine ⟨a, p, b + 116, [w0, w1, w2, w3, w4, w5, w6], rfl, bx4, npa, hp4, rfl, nd, ks, fun z H5 bz bx5 kk5 => ?_⟩
    have hS5 := kk5 _ _ hS4 nSa'
    have hr5 := kk5 _ _ hr4 nr4
    have hl5 := kk5 _ _ hl4 nla
    have z5 : Kp a H H5 := fun c o e n => kk5 _ _ (z4 _ _ e n) n
    clear hS4 hp4 hl4 bx4 z4 hr4 kk5
    walk_at "go"
    rename_i g1 hg1 g2 hg2 g3 hg3
    have ec : cutV ((qs0.map lineS).map V.str) (some (n : Int)) none = ((qs0.map lineS).map V.str).drop n := cutV_from _ n
    rw [ec]
    have sG : Same H5 (upd (upd H5 g1 (.lst [V.str z])) g2 (.lst ((rs.map lineS).map V.str ++ ((qs0.map lineS).map V.str).take n ++ [V.str z]))) := fun c o e => upd_at (upd_at e (ne_of_none e hg1)) (ne_of_none (upd_at e (ne_of_none e hg1)) hg2)
    have ln : n ≤ qs0.length := by omega
    refine r_catN upd_same hg3 (by simp only [List.length_append, List.length_map, List.length_take, List.length_drop, List.length_cons, List.length_nil]; omega) fun W H6 nW s6 hW6 => ?_
    obtain ⟨zs, ezs⟩ : ∃ zs : List Str, zs = rs.map lineS ++ (qs0.map lineS).take n ++ [z] ++ (qs0.map lineS).drop n := ⟨_, rfl⟩
    have eW : (rs.map lineS).map V.str ++ ((qs0.map lineS).map V.str).take n ++ [V.str z] ++ ((qs0.map lineS).map V.str).drop n = zs.map V.str := by
      rw [ezs, List.map_append, List.map_append, List.map_append, List.map_take, List.map_drop]
      rfl
    rw [eW] at hW6
    have fz : ∀ x ∈ zs, FineL x := fun x hx => by
      rw [ezs] at hx
      simp only [List.mem_append, List.mem_singleton] at hx
      have two : x ∈ qs0.map lineS → FineL x := fun h => by
        obtain ⟨r, hr, rfl⟩ := List.mem_map.mp h
        exact (h0 r hr).1.fine
      rcases hx with ((hx | hx) | rfl) | hx
      · obtain ⟨r, hr, rfl⟩ := List.mem_map.mp hx
        exact (oks r hr).fine
      · exact two (List.mem_of_mem_take hx)
      · exact bz.fine
      · exact two (List.mem_of_mem_drop hx)
    have lz : zs.length ≤ 59 := by
      rw [ezs]
      simp only [List.length_append, List.length_map, List.length_take, List.length_drop, List.length_singleton]
      omega
    have lpre : (rs.map lineS ++ (qs0.map lineS).take n).length = rs.length + n := by
      rw [List.length_append, List.length_map, List.length_take, List.length_map]
      omega
    have at_ : ∀ ex : List Str, (zs ++ ex)[rs.length + n]? = some z := fun ex => by
      rw [ezs, List.append_assoc, List.append_assoc, List.getElem?_append_right (by omega), lpre]
      simp
    have prev : ∀ (ex : List Str) (i : Nat) x, i < rs.length + n → (zs ++ ex)[i]? = some x → ∃ r, GoodL x r := fun ex i x hi e => by
      rw [ezs, List.append_assoc, List.append_assoc, List.getElem?_append_left (by omega)] at e
      rcases List.mem_append.mp (List.mem_of_getElem? e) with h | h
      · obtain ⟨r, hr, rfl⟩ := List.mem_map.mp h
        exact ⟨r, (oks r hr).good⟩
      · obtain ⟨r, hr, rfl⟩ := List.mem_map.mp (List.mem_of_mem_take h)
        exact ⟨r, (h0 r hr).1.good⟩
    have hS6 := s6 _ _ (sG _ _ hS5)
    have bx6 := (bx5.same sG).same s6
    have z6 : Kp a H H6 := fun c o e n => s6 _ _ (sG _ _ (z5 _ _ e n))
    have nWa : W ≠ a := ((bx5.same sG).ne nW).symm
    have nWH : H W = none := kp_free (fun c o e n => sG _ _ (z5 _ _ e n)) (bx5.same sG) nW
    have lrr : ((rs.map lineS).map V.str).length = rs.length := by rw [List.length_map, List.length_map]
    clear sG s6 hS5 hr5 hl5 bx5 z5 hg1 hg2 hg3 nW ezs eW lpre ec
    walk_at "go"
    rw [lrr]
    refine ⟨fun σ' H' => ∃ (ex : List Str) (x7 x8 x9 xa : Option V), σ' = [some (.ref a), some (.ref p), some (.ref l), some (.int many), some (.int near), some (.ref W), some (.int ((n : Int) + (rs.length : Nat))), x7, x8, x9, xa] ∧ H' W = some (.lst ((zs ++ ex).map V.str)) ∧ (∀ x ∈ ex, FineL x) ∧ ex.length ≤ 1 ∧ Bx H' a (b + 114) ∧ Kp a H H', ?_, ?_⟩
    · walk_at "go"
      refine ⟨a, b + 115, 2, rfl, bx6, by decide, by decide, fun d Hx e0 e1 bxx kx => ?_⟩
      have hWx := kx _ _ hW6 nWa
      have hpx := kx _ _ (z6 _ _ hp npa) npa
      have zx : Kp a H Hx := fun c o e n => kx _ _ (z6 _ _ e n) n
      walk_at "go"
      refine ite_d (fun _ => ?_) fun _ => ?_
      · walk_at "go"
        refine ⟨a, p, b + 114, [w0, w1, w2, w3, w4, w5, w6], rfl, bxx, npa, hpx, rfl, nd, ks, fun y Hy by_ bxy ky => ?_⟩
        have hWy := ky _ _ hWx nWa
        walk_at "go"
        exact ⟨[y], _, _, _, _, rfl, (by rw [List.map_append]; exact upd_same), fun x hx => by rw [List.mem_singleton.mp hx]; exact by_.fine, by show 1 ≤ 1; decide, bxy.upd nWa.symm, fun c o e n => upd_at (ky _ _ (zx _ _ e n) n) (ne_of_none e nWH)⟩
      · exact ⟨[], _, _, _, _, rfl, by rw [List.append_nil]; exact hWx, fun _ h => (nomatch h), by decide, bxx.mono (by omega), zx⟩
    rintro σ H7 ⟨ex, x7, x8, x9, xa, rfl, hW7, fx, lx, bx7, z7⟩
    refine ⟨fun σ' H' => ∃ (ex : List Str) (x7 x8 x9 xa : Option V), σ' = [some (.ref a), some (.ref p), some (.ref l), some (.int many), some (.int near), some (.ref W), some (.int ((n : Int) + (rs.length : Nat))), x7, x8, x9, xa] ∧ H' W = some (.lst ((zs ++ ex).map V.str)) ∧ (∀ x ∈ ex, FineL x) ∧ ex.length ≤ 2 ∧ Bx H' a (b + 113) ∧ Kp a H H', ?_, ?_⟩
    · walk_at "go"
      refine ⟨a, b + 113, 2, rfl, bx7, by decide, by decide, fun d Hx e0 e1 bxx kx => ?_⟩
      have hWx := kx _ _ hW7 nWa
      have hpx := kx _ _ (z7 _ _ hp npa) npa
      have zx : Kp a H Hx := fun c o e n => kx _ _ (z7 _ _ e n) n
      walk_at "go"
      refine ite_d (fun _ => ?_) fun _ => ?_
      · repeat (first | walk_at "st" | refine r_catS (by rw [hsl]; (try simp only [Str.length_append]); omega) ?_)
        exact ⟨ex ++ [(w6 ++ Str.ofString " = 1 ") ++ w6], _, _, _, _, rfl, (by rw [show ((zs ++ (ex ++ [(w6 ++ Str.ofString " = 1 ") ++ w6])).map V.str) = (zs ++ ex).map V.str ++ [V.str ((w6 ++ Str.ofString " = 1 ") ++ w6)] by rw [← List.append_assoc, List.map_append]; rfl]; exact upd_same), fun x hx => by
          rcases List.mem_append.mp hx with hx | hx
          · exact fx x hx
          · rw [List.mem_singleton.mp hx, lineS_1]
            exact (lnr_one k6 k6 (by decide) (by decide)).fine, by rw [List.length_append, List.length_singleton]; omega, bxx.upd nWa.symm, fun c o e n => upd_at (zx _ _ e n) (ne_of_none e nWH)⟩
      · exact ⟨ex, _, _, _, _, rfl, hWx, fx, by omega, bxx.mono (by omega), zx⟩
    clear hW7 fx lx bx7 z7
    rintro σ H8 ⟨ex, x7, x8, x9, xa, rfl, hW8, fx, lx, bx8, z8⟩
    refine ⟨fun σ' H' => ∃ (x5 x6 x7 x8 x9 xa : Option V), σ' = [some (.ref a), some (.ref p), some (.ref l), some (.int many), some (.int near), x5, x6, x7, x8, x9, xa] ∧ Bx H' a (b + 113) ∧ Kp a H H', ?_, ?_⟩
    · walk_at "go"
      rename_i p9 hp9
      have s9 : Same H8 (upd H8 p9 (.lst [V.str (Str.ofString "-")])) := fun c o e => upd_at e (ne_of_none e hp9)
      have fall : ∀ x ∈ zs ++ ex, FineL x := fun x hx => (List.mem_append.mp hx).elim (fz x) (fx x)
      refine r_neDash (s9 _ _ hW8) fall upd_same ⟨_, rfl, ?_⟩
      have hW9 := s9 _ _ hW8
      have bx9 := bx8.same s9
      have z9 : Kp a H (upd H8 p9 (.lst [V.str (Str.ofString "-")])) := fun c o e n => s9 _ _ (z8 _ _ e n)
      generalize upd H8 p9 (.lst [V.str (Str.ofString "-")]) = H9 at hW9 bx9 z9 ⊢
      by_cases e : zs ++ ex = [dash]
      · rw [decide_eq_true e]
        refine iteF ?_
        walk_at "go"
        exact ⟨_, _, _, _, _, _, rfl, bx9, z9⟩
      · rw [decide_eq_false e]
        refine iteT ?_
        have n1 : lnf.length = 1 := by decide +kernel
        have sz := sum_bound (B := 10100) (zs ++ ex) fun z hz => (fall z hz).le
        have lze : (zs ++ ex).length ≤ 61 := by rw [List.length_append]; omega
        walk_at "go"
        refine r_join (ys := zs ++ ex) (SqL.of hW9) (by show _ + _ * lnf.length ≤ _; rw [n1]; omega) ?_
        walk_at "go"
        refine read_bad fall e (by omega) (at_ ex) bz.1 (prev ex) fun r t u Hr hr ht hu sr => ?_
        have bxr := bx9.same sr
        have zr : Kp a H Hr := fun c o e n => sr _ _ (z9 _ _ e n)
        refine ⟨r, [.non, .ref t], rfl, SqL.of hr, rfl, ?_⟩
        walk_at "go"
        refine ite_ndF rfl ?_
        walk_at "go"
        rename_i c1 hc1 c2 hc2
        refine same_bad ht hu (by omega) hc1 hc2 fun Hs ss => ⟨_, rfl, iteF ?_⟩
        walk_at "go"
        exact ⟨_, _, _, _, _, _, rfl, bxr.same ss, fun c o e n => ss _ _ (zr _ _ e n)⟩
    rintro σ H9 ⟨x5, x6, x7, x8, x9, xa, rfl, bx9, z9⟩
    walk_at "go"
    exact ⟨a, p, l, many, near, [w0, w1, w2, w3, w4, w5, w6], qs0.map lineS, b + 13, rfl, bx9, npa, nla, z9 _ _ hp npa, rfl, nd, ks, z9 _ _ hl nla, lls, tel, fun H' bx' k' => q H' (bx'.mono (by omega)) fun c o e n => k' _ _ (z9 _ _ e n) n⟩
end


section
variable {P : Program} {w : World} {K : PySem.W.Frag} {mg : Str → Option Value} {base : Heap} {C CO CB : Addr}
abbrev sAny : Stmt := top 42
theorem scAny : FnScope ["_law_box_here", "_law_names_here", "_law_far", "_law_sort"] ["_law_box_here", "_law_names_here", "_law_far"] (defScope sAny) := ⟨rfl, rfl, rfl, by decide +kernel, rfl, by decide +kernel, by decide +kernel⟩
def spAny : Sp := fun vs H Q _ => ∃ (a l : Addr) (ns : List Str) (far : Int) (b : Nat), vs = [.ref a, .ref l, .int far] ∧ 0 < far ∧ far < 2 ^ 100 ∧ Bx H a (b + 101) ∧ H l = some (.lst (ns.map V.str)) ∧ l ≠ a ∧ ns.Nodup ∧ (∀ k ∈ ns, KindS k) ∧ ns.length ≤ 8 ∧
  ∀ (p : Addr) (ts : List V) (rows : List Row) (H' : Hp), H p = none → H' p = some (.lst ts) → Paired (RwV H') ts rows → Drawn ns far rows → Bx H' a b → Kp a H H' → Q (.ref p) H'
theorem ok_any {f : Addr} {fd : FuncData} (F : Fun K "_law_any" "_law_any" sAny f fd) (T : Txt K mg) (Ct : Cal P w K mg base CX0 1 "_law_take" ["_law_box_here", "_law_below"] spTake) (C1 : Cal P w K mg base CX0 2 "_law_tree" ["_law_box_here", "_law_names_here", "_law_far"] (spDraw id)) (C2 : Cal P w K mg base CX0 2 "_law_ways" ["_law_box_here", "_law_names_here", "_law_far"] (spDraw id)) (C3 : Cal P w K mg base CX0 2 "_law_single" ["_law_box_here", "_law_names_here", "_law_far"] (spDraw id)) : FnOk P w K mg base CX0 3 f fd ["_law_box_here", "_law_names_here", "_law_far"] spAny := by
  refine F.ok scAny (fun vs H Q E h => ?_) (fun cdv A outer s H vs Q E hr h => ?_)
  · obtain ⟨a, l, ns, far, b, rfl, _⟩ := h
    rfl
  · obtain ⟨a, l, ns, far, b, rfl, f0, f1, hb, hl, nla, nd, ks, ln, q⟩ := h
    refine ⟨_, (pss_cons (ps_set (i := 3) scAny.nd rfl (Or.inl rfl) (pe_cal Ct (hr.mono (by decide)) pass0 (pa_cons (pv 0) (pa_cons pe_int pa_nil))))
  (pss_cons (ps_if (pt_cmpR op_eq (pv 3) pe_int (nomark _))
  (pss_one (ps_ret (pe_cal C1 (hr.mono (by decide)) pass0 (pa_cons (pv 0) (pa_cons (pv 1) (pa_cons (pv 2) pa_nil))))))
  pss_nil)
  (pss_one (ps_ret (pe_ifExp (pt_cmpR op_eq (pv 3) pe_int (nomark _)) (pe_cal C2 (hr.mono (by decide)) pass0 (pa_cons (pv 0) (pa_cons (pv 1) (pa_cons (pv 2) pa_nil)))) (pe_cal C3 (hr.mono (by decide)) pass0 (pa_cons (pv 0) (pa_cons (pv 1) (pa_cons (pv 2) pa_nil))))))))), ?_⟩
    walk_at "in"
    walk_at "go"
    refine ⟨a, b + 100, 3, rfl, hb, by omega, by omega, fun d H1 d0 d1 bx1 kp1 => ?_⟩
    have hl1 := kp1 _ _ hl nla
    have fin : ∀ (p : Addr) (ts : List V) (rows : List Row) (H' : Hp), H1 p = none → H' p = some (.lst ts) → Paired (RwV H') ts rows → Drawn ns far rows → Bx H' a b → Kp a H1 H' → Q (.ref p) H' :=
      fun p ts rows H' hp hp' hts dr bx kp => q p ts rows H' (kp_free kp1 bx1 hp) hp' hts dr bx fun c o e n => kp _ _ (kp1 _ _ e n) n
    walk_at "go"
    refine ite_d (fun _ => ?_) fun _ => ?_
    · walk_at "go"
      exact ⟨a, l, ns, far, b, rfl, f0, f1, bx1, hl1, nla, nd, ks, ln, fin⟩
    · walk_at "go"
      refine ite_d (fun _ => ?_) fun _ => ?_
      · walk_at "go"
        exact ⟨a, l, ns, far, b, rfl, f0, f1, bx1, hl1, nla, nd, ks, ln, fin⟩
      · walk_at "go"
        exact ⟨a, l, ns, far, b, rfl, f0, f1, bx1, hl1, nla, nd, ks, ln, fin⟩
end


section
variable {P : Program} {w : World} {K : PySem.W.Frag} {mg : Str → Option Value} {base : Heap}
abbrev sNames : Stmt := top 34
theorem scNames : FnScope ["_law_box_here", "_law_some", "_law_letters", "_law_base", "_law_first_so", "_law_step", "_law_done", "_law_k", "_law_far", "_law_place", "_law_near", "_law_size_so", "_law_word", "_law_at_so", "_law_sign_so", "_law_turn"] ["_law_box_here", "_law_some"] (defScope sNames) := ⟨rfl, rfl, rfl, by decide +kernel, rfl, by decide +kernel, by decide +kernel⟩
def spNames : Sp := fun vs H Q _ => ∃ (a : Addr) (b n : Nat), vs = [.ref a, .int n] ∧ n ≤ 13 ∧ Bx H a (b + (13 + 9 * n)) ∧
  ∀ (p : Addr) (ws : List Str) (H' : Hp), H p = none → ws.length = n → ws.Nodup → (∀ s ∈ ws, KindS s) → H' p = some (.lst (ws.map V.str)) → Bx H' a b → Kp a H H' → Q (.ref p) H'
/-- [letters[take(box, 26)] for .. in range(m)] -/
theorem lc_letters {σ : L2.St} {H : Hp} {Q : VK} {j m b : Nat} {a : Addr} {wi : TI} (hwi : ∀ R : It → Hp → Prop, R (Itr 0 m) H → wi σ H R) (h2 : ∀ v, ((wipe σ [j]).set j v)[2]? = some (some (.str (Str.ofString "abcdefghijklmnopqrstuvwxyz")))) (h0 : ∀ v, ((wipe σ [j]).set j v)[0]? = some (some (.ref a)))
    (hw : ∀ v, wipe ((wipe σ [j]).set j v) [j] = wipe σ [j]) (bx : Bx H a (b + m)) (hm : m ≤ 100)
    (hd : ∀ D H' (acc : List Str), H D = none → H' D = some (.lst (acc.map V.str)) → acc.length = m → (∀ s ∈ acc, Lt1 s) → Bx H' a b → Kp a H H' → Q (.ref D) H') :
    tLc wi (gName j) tYes (tOp rIxS (tVar 2) (tCal spTake E0 (tCons (tVar 0) (tCons (tC (.int 26)) tNil)))) [j] σ H Q := by
  refine r_lc (hwi _ fun D hD => ?_)
  have nDa : a ≠ D := bx.ne hD
  refine lc_it (walk_range (n := m)) (fun i H' => ∃ acc : List Str, H' D = some (.lst (acc.map V.str)) ∧ acc.length = i ∧ (∀ s ∈ acc, Lt1 s) ∧ Bx H' a (b + (m - i)) ∧ Kp a H H') ?_ (fun _ _ _ _ => trivial) ?_ ?_
  · exact ⟨[], upd_same, rfl, fun s h => by simp at h, by walk_at "bx", fun c o e n => by walk_at "hp"⟩
  · rintro i x H1 _ hi ⟨acc, hD1, hl, hacc, bx1, kp1⟩ ⟨rfl, rfl⟩
    refine r_gname ⟨hw _, ?_⟩
    refine r_yes (iteT ?_)
    refine r_op (r_var (h2 _) (r_cal (r_cons (r_var (h0 _) (r_cons (r_c (r_nil ?_)))))))
    refine ⟨a, b + (m - (i + 1)), 26, rfl, by walk_at "bx", by decide, by decide, fun d H2 d0 d1 bx2 kp2 => ?_⟩
    obtain ⟨k, rfl⟩ : ∃ k : Nat, d = k := ⟨d.toNat, by omega⟩
    refine r_ixSl ⟨by omega, ?_⟩
    refine ⟨acc.map V.str, by walk_at "hp", szl (by rw [List.length_map]; omega), acc ++ [⟨#[97 + k]⟩], by rw [List.map_append]; exact upd_same, by rw [List.length_append, hl]; rfl, fun s hs => ?_, by walk_at "bx", fun c o e n => ?_⟩
    · rcases List.mem_append.mp hs with hs | hs
      · exact hacc s hs
      · have : s = ⟨#[97 + k]⟩ := by simpa using hs
        exact ⟨97 + k, this, by omega, by omega⟩
    · have n2 : c ≠ D := ne_of_none e hD
      walk_at "hp"
  · rintro H1 ⟨acc, hD1, hl, hacc, bx1, kp1⟩
    exact hd D H1 acc hD hD1 hl hacc (by walk_at "bx") kp1
theorem ok_names {f : Addr} {fd : FuncData} (F : Fun K "_law_names" "_law_names" sNames f fd) (T : Txt K mg) (Ct : Cal P w K mg base CX0 1 "_law_take" ["_law_box_here", "_law_below"] spTake) (Co : Cal P w K mg base CX0 2 "_law_of" ["_law_box_here", "_law_some"] spOf) : FnOk P w K mg base CX0 3 f fd ["_law_box_here", "_law_some"] spNames := by
  refine F.ok scNames (fun vs H Q E h => ?_) (fun cdv A outer s H vs Q E hr h => ?_)
  · obtain ⟨a, b, n, rfl, _⟩ := h
    rfl
  · obtain ⟨a, b, n, rfl, hn, hb, q⟩ := h
    have hr1 : Room 1 _ := hr.mono (by decide)
    refine ⟨_, (pss_cons (ps_set (i := 2) scNames.nd rfl (Or.inr rfl) pe_str)
  (Evl.pss_cut (ps_set (i := 3) scNames.nd rfl (Or.inl rfl) (pe_joinR pe_str (pe_lc (own := [("_law_k", 7)]) (g := gName 7) (tt := tYes) rfl scNames.nd (pi_range1 rfl T.range (pa_cons pe_int pa_nil)) (blkOk_by (N := ["_law_box_here", "_law_some", "_law_letters", "_law_base", "_law_first_so", "_law_step", "_law_done", "_law_k", "_law_far", "_law_place", "_law_near", "_law_size_so", "_law_word", "_law_at_so", "_law_sign_so", "_law_turn"]) (sc := defScope sNames) (by decide +kernel)) (fun _ _ _ _ _ => (pg_name (i := 7) scNames.nd rfl (Or.inl rfl))) (fun _ _ _ _ _ => pts_nil) (fun _ _ _ _ _ => (pe_ix ix_str (pv 2) (pe_cal Ct hr1 pass0 (pa_cons (pv 0) (pa_cons pe_int pa_nil))) (fun _ _ => rfl))))))
  (pss_cons (ps_par3 (i := 8) (j := 9) (l := 10) rfl scNames.nd rfl rfl rfl (by decide) (by decide) (by decide) rfl rfl rfl (pa_cons (pe_op op_add pe_int (pe_cal Ct hr1 pass0 (pa_cons (pv 0) (pa_cons pe_int pa_nil)))) (pa_cons (pe_cal Ct hr1 pass0 (pa_cons (pv 0) (pa_cons pe_int pa_nil))) (pa_cons (pe_cal Ct hr1 pass0 (pa_cons (pv 0) (pa_cons pe_int pa_nil))) pa_nil))) (by rfl))
  (pss_cons (ps_set (i := 4) scNames.nd rfl (Or.inl rfl) (pe_cal Ct hr1 pass0 (pa_cons (pv 0) (pa_cons pe_int pa_nil))))
  (pss_cons (ps_set (i := 5) scNames.nd rfl (Or.inl rfl) (pe_cal Co hr pass0 (pa_cons (pv 0) (pa_cons (pe_lst (pa_cons pe_int (pa_cons pe_int (pa_cons pe_int (pa_cons pe_int (pa_cons pe_int (pa_cons pe_int (pa_cons pe_int (pa_cons pe_int (pa_cons pe_int (pa_cons pe_int (pa_cons pe_int (pa_cons pe_int pa_nil))))))))))))) pa_nil))))
  (pss_cons (ps_set (i := 6) scNames.nd rfl (Or.inl rfl) (pe_lst pa_nil))
  (pss_cons (ps_for PassesOwn.never rfl (pi_range1 rfl T.range (pa_cons (pv 1) pa_nil)) (pg_name (i := 7) scNames.nd rfl (Or.inl rfl))
  (Evl.pss_cut (ps_set (i := 11) scNames.nd rfl (Or.inl rfl) (pe_ifExp (pt_cmpR op_eq (pv 10) pe_int (nomark _)) (pv 8) (pe_op op_add pe_int (pe_cal Ct hr1 pass0 (pa_cons (pv 0) (pa_cons pe_int pa_nil))))))
  (pss_cons (ps_set (i := 12) scNames.nd rfl (Or.inl rfl) (pe_slice sl_str (pv 3) po_none (po_some (pv 11))))
  (Evl.pss_cut (ps_if (pt_cmpR op_gt (pv 10) pe_int (nomark _))
  (pss_one (ps_set (i := 12) scNames.nd rfl (Or.inl rfl) (pe_joinR pe_str (pe_lc (own := [("_law_turn", 15)]) (g := gName 15) (tt := tYes) rfl scNames.nd (pi_range1 rfl T.range (pa_cons (pv 11) pa_nil)) (blkOk_by (N := ["_law_box_here", "_law_some", "_law_letters", "_law_base", "_law_first_so", "_law_step", "_law_done", "_law_k", "_law_far", "_law_place", "_law_near", "_law_size_so", "_law_word", "_law_at_so", "_law_sign_so", "_law_turn"]) (sc := defScope sNames) (by decide +kernel)) (fun _ _ _ _ _ => (pg_name (i := 15) scNames.nd rfl (Or.inl rfl))) (fun _ _ _ _ _ => pts_nil) (fun _ _ _ _ _ => (pe_ix ix_str (pv 2) (pe_cal Ct hr1 pass0 (pa_cons (pv 0) (pa_cons pe_int pa_nil))) (fun _ _ => rfl)))))))
  pss_nil)
  (pss_cons (ps_set (i := 13) scNames.nd rfl (Or.inl rfl) (pe_op op_mod (pe_callTy c_int (by rfl) T.int (by decide +kernel) (pa_cons (pv 9) pa_nil)) (pv 11)))
  (pss_cons (ps_set (i := 14) scNames.nd rfl (Or.inl rfl) (pe_ix ix_str (pv 2) (pe_op op_mod (pe_callTy c_int (by rfl) T.int (by decide +kernel) (pa_cons (pe_op op_add (pv 4) (pe_op op_mul (pv 5) (pv 7))) pa_nil)) pe_int) (fun _ _ => rfl)))
  (pss_one (ps_expr (pe_bm PySem.F.plainAttrs_list PySem.F.slot_list_append PySem.F.type_list_append mt_append (pv 6) (pa_cons (pe_op o_catS (pe_op o_catS (pe_slice sl_str (pv 12) po_none (po_some (pv 13))) (pv 14)) (pe_slice sl_str (pv 12) (po_some (pe_op op_add (pv 13) pe_int)) po_none)) pa_nil))))))))))
  (pss_one (ps_ret (pv 6)))))))))), ?_⟩
    walk_at "in"
    walk_at "go"
    refine ⟨fun σ' H' => ∃ (z : Str), σ' = [some (.ref a), some (.int n), some (.str (Str.ofString "abcdefghijklmnopqrstuvwxyz")), some (.str z), none, none, none, none, none, none, none, none, none, none, none, none] ∧ (cds z).length = 8 ∧ AllL (cds z) ∧ Bx H' a (b + (5 + 9 * n)) ∧ Kp a H H', ?_, ?_⟩
    · refine r_asg (r_m1 (r_c (r_strV ?_)))
      refine lc_letters (a := a) (m := 8) (b := b + (5 + 9 * n)) (fun R h => ?_) (fun v => rfl) (fun v => rfl) (fun v => rfl) (by walk_at "bx") (by decide) fun D H1 acc hD hD1 hl hacc bx1 kp1 => ?_
      · walk_at "go"
        exact h
      refine r_join (ys := acc) (by walk_at "sq") (by rw [sum_len acc hacc, hl, empty_len]; omega) ?_
      walk_at "go"
      exact ⟨_, rfl, by rw [cds_join, (flat_len acc hacc).1, hl], by rw [cds_join]; exact (flat_len acc hacc).2, bx1, kp1⟩
    · rintro σ1 H1 ⟨z, rfl, z1, z2, bx1, kp1⟩
      walk_at "go"
      refine ⟨a, b + (4 + 9 * n), 8, rfl, by walk_at "bx", by decide, by decide, fun far H2 f0 f1 bx2 kp2 => ?_⟩
      walk_at "go"
      refine ⟨a, b + (3 + 9 * n), 8, rfl, by walk_at "bx", by decide, by decide, fun place H3 p0 p1 bx3 kp3 => ?_⟩
      walk_at "go"
      refine ⟨a, b + (2 + 9 * n), 2, rfl, by walk_at "bx", by decide, by decide, fun near H4 n0 n1 bx4 kp4 => ?_⟩
      walk_at "go"
      refine ⟨a, b + (1 + 9 * n), 26, rfl, by walk_at "bx", by decide, by decide, fun first H5 g0 g1 bx5 kp5 => ?_⟩
      walk_at "go"
      rename_i pl hpl
      refine ⟨a, pl, b + 9 * n, steps.map (fun (s : Nat) => V.int (s : Int)), rfl, by walk_at "bx", by walk_at "hp", by walk_at "ne", by decide, by decide, fun x i H6 hx bx6 kp6 => ?_⟩
      obtain ⟨st, rfl, hst⟩ := map_some hx
      have hst : st ∈ steps := List.mem_of_getElem? hst
      obtain ⟨far, rfl⟩ : ∃ k : Nat, far = k := ⟨far.toNat, by omega⟩
      obtain ⟨place, rfl⟩ : ∃ k : Nat, place = k := ⟨place.toNat, by omega⟩
      obtain ⟨first, rfl⟩ : ∃ k : Nat, first = k := ⟨first.toNat, by omega⟩
      have kp : Kp a H H6 := fun c o e nc => by walk_at "hp"
      walk_at "go"
      rename_i pd hpd
      have npd : pd ≠ a := by walk_at "ne"
      have hpd0 : H pd = none := kp.free hpd npd
      refine for_it (walk_range (n := n)) (fun i σ H' => ∃ (ws : List Str) (x7 x11 x12 x13 x14 : Option V), σ = [some (.ref a), some (.int n), some (.str (Str.ofString "abcdefghijklmnopqrstuvwxyz")), some (.str z), some (.int first), some (.int st), some (.ref pd), x7, some (.int (1 + far)), some (.int place), some (.int near), x11, x12, x13, x14, none] ∧ ws.length = i ∧ (∀ (k : Nat) (w : Str), ws[k]? = some w → NameAt w place (97 + (first + st * k) % 26 : Nat)) ∧ H' pd = some (.lst (ws.map V.str)) ∧ Bx H' a (b + 9 * (n - i)) ∧ Kp a H H') ?_ (fun _ _ _ _ _ => trivial) ?_ ?_
      · exact ⟨[], none, none, none, none, none, rfl, rfl, fun k w h => by simp at h, by walk_at "hp", by walk_at "bx", fun c o e nc => by walk_at "hp"⟩
      · rintro i x σ H7 _ hi ⟨ws, x7, x11, x12, x13, x14, rfl, wl, hws, hp7, bx7, kp7⟩ ⟨rfl, rfl⟩
        walk_at "go"
        refine ⟨fun σ' H' => ∃ (sz : Nat), σ' = [some (.ref a), some (.int n), some (.str (Str.ofString "abcdefghijklmnopqrstuvwxyz")), some (.str z), some (.int first), some (.int st), some (.ref pd), some (.int (0 + (i : Int))), some (.int (1 + far)), some (.int place), some (.int near), some (.int sz), x12, x13, x14, none] ∧ 1 ≤ sz ∧ sz ≤ 8 ∧ H' pd = some (.lst (ws.map V.str)) ∧ Bx H' a (b + 9 * (n - i - 1) + 8) ∧ Kp a H H', ?_, ?_⟩
        · walk_at "go"
          refine ite_d (fun c => ?_) (fun c => ?_)
          · walk_at "go"
            exact ⟨1 + far, rfl, by omega, by omega, hp7, by walk_at "bx", kp7⟩
          · walk_at "go"
            refine ⟨a, b + 9 * (n - i - 1) + 8, 8, rfl, by walk_at "bx", by decide, by decide, fun d H8 d0 d1 bx8 kp8 => ?_⟩
            obtain ⟨d, rfl⟩ : ∃ k : Nat, d = k := ⟨d.toNat, by omega⟩
            walk_at "go"
            exact ⟨1 + d, rfl, by omega, by omega, by walk_at "hp", by walk_at "bx", kp7.trans kp8⟩
        · rintro σ8 H8 ⟨sz, rfl, s1, s8, hp8, bx8, kp8⟩
          walk_at "go"
          have hk : (sz : Int) ≤ 8 := by omega
          refine r_slS (My.sz (by rw [len_cds, z1]; decide)) ?_
          walk_at "go"
          refine ⟨fun σ' H' => ∃ (wd : Str), σ' = [some (.ref a), some (.int n), some (.str (Str.ofString "abcdefghijklmnopqrstuvwxyz")), some (.str z), some (.int first), some (.int st), some (.ref pd), some (.int (0 + (i : Int))), some (.int (1 + far)), some (.int place), some (.int near), some (.int sz), some (.str wd), x13, x14, none] ∧ (cds wd).length = sz ∧ AllL (cds wd) ∧ H' pd = some (.lst (ws.map V.str)) ∧ Bx H' a (b + 9 * (n - (i + 1))) ∧ Kp a H H', ?_, ?_⟩
          · walk_at "go"
            refine ite_d (fun c => ?_) (fun c => ?_)
            · refine r_asg (r_m1 (r_c (r_strV ?_)))
              refine lc_letters (a := a) (m := sz) (b := b + 9 * (n - (i + 1))) (fun R h => ?_) (fun v => rfl) (fun v => rfl) (fun v => rfl) (by walk_at "bx") (by omega) fun D H9 acc hD hD1 hl hacc bx9 kp9 => ?_
              · walk_at "go"
                exact h
              refine r_join (ys := acc) (by walk_at "sq") (by rw [sum_len acc hacc, hl, empty_len]; omega) ?_
              walk_at "go"
              exact ⟨_, rfl, by rw [cds_join, (flat_len acc hacc).1, hl], by rw [cds_join]; exact (flat_len acc hacc).2, by walk_at "hp", bx9, kp8.trans kp9⟩
            · walk_at "go"
              exact ⟨_, rfl, by rw [cds_to, List.length_take, z1]; omega, by rw [cds_to]; exact fun d hd => z2 d (List.mem_of_mem_take hd), hp8, by walk_at "bx", kp8⟩
          · rintro σ9 H9 ⟨wd, rfl, w1, w2, hp9, bx9, kp9⟩
            walk_at "go"
            have e1 : (((first : Int) + (st : Int) * (0 + (i : Int))) % 26) = (((first + st * i) % 26 : Nat) : Int) := by rw [Int.zero_add]; rfl
            rw [e1]
            refine r_ixSl ⟨Nat.mod_lt _ (by decide), ?_⟩
            walk_at "go"
            have e2 : ((place : Int) % (sz : Int)) = ((place % sz : Nat) : Int) := rfl
            have hp1 : place % sz < sz := Nat.mod_lt _ (by omega)
            refine r_slS (My.sz (by rw [len_cds, w1]; omega)) ?_
            walk_at "go"
            rw [e2]
            refine r_catS (My.sz (by rw [len_cds, cds_to, List.length_take, w1]; show min (place % sz) sz + 1 ≤ 100000; omega)) ?_
            walk_at "go"
            refine r_slS (My.sz (by rw [len_cds, w1]; omega)) ?_
            walk_at "go"
            have e3 : (((place % sz : Nat) : Int) + 1) = ((place % sz + 1 : Nat) : Int) := rfl
            rw [e3]
            have ew : cds (cutS wd none (some ((place % sz : Nat) : Int)) ++ (⟨#[97 + (first + st * i) % 26]⟩ : Str) ++ cutS wd (some ((place % sz + 1 : Nat) : Int)) none) = (cds wd).take (place % sz) ++ [97 + (first + st * i) % 26] ++ (cds wd).drop (place % sz + 1) := by
              rw [cds_app, cds_app, cds_to, cds_from]
            have hw : NameAt (cutS wd none (some ((place % sz : Nat) : Int)) ++ (⟨#[97 + (first + st * i) % 26]⟩ : Str) ++ cutS wd (some ((place % sz + 1 : Nat) : Int)) none) place (97 + (first + st * i) % 26) := put_letter w1 w2 ⟨s1, s8⟩ (by omega) ew
            refine r_catS (My.sz (by rw [len_cds, len_cds, cds_app, cds_to, cds_from, List.length_append, List.length_take, List.length_drop, w1]; show min (place % sz) sz + 1 + (sz - (place % sz + 1)) ≤ 100000; omega)) ?_
            generalize (cutS wd none (some ((place % sz : Nat) : Int)) ++ (⟨#[97 + (first + st * i) % 26]⟩ : Str) ++ cutS wd (some ((place % sz + 1 : Nat) : Int)) none) = w' at hw
            walk_at "go"
            refine ⟨ws ++ [w'], _, _, _, _, _, rfl, by rw [List.length_append, wl]; rfl, fun k w hk => ?_, by rw [List.map_append]; exact upd_same, by walk_at "bx", fun c o e nc => ?_⟩
            · by_cases hk2 : k < ws.length
              · rw [List.getElem?_append_left hk2] at hk
                exact hws k w hk
              · rw [List.getElem?_append_right (by omega)] at hk
                obtain ⟨h1, h2⟩ := List.getElem?_eq_some_iff.mp hk
                have h3 : k = i := by simp at h1; omega
                subst h3
                have h4 : w' = w := by simpa using h2
                rw [← h4]
                exact hw
            · have n2 : c ≠ pd := ne_of_none e hpd0
              walk_at "hp"
      · rintro σ7 H7 ⟨ws, x7, x11, x12, x13, x14, rfl, wl, hws, hp7, bx7, kp7⟩
        walk_at "go"
        exact q pd ws H7 hpd0 wl (names_nodup hst (by omega) hws) (fun s hs => by
          obtain ⟨k, hk, e⟩ := List.getElem_of_mem hs
          exact (hws k s (by rw [List.getElem?_eq_getElem hk, e])).kind) hp7 (by walk_at "bx") kp7
end


theorem Drawn.tell {ws : List Str} {far : Int} {rows : List Row} (d : Drawn ws far rows) (nd : ws.Nodup) (ks : ∀ k ∈ ws, KindS k) (l7 : ws.length = 7) (hf : far < 10 ^ 20) : ∀ r ∈ rows, LnR r ∧ RowI ws r := fun r hr => by
  obtain ⟨k, z⟩ := d.rw_ r hr
  have ok := d.ok nd ks r hr
  refine ⟨⟨ok.kk, z.ne, ?_, fun p hp => ⟨(z.ps p hp).1, Int.lt_of_le_of_lt (z.ps p hp).2.1 hf, (ok.pos p hp).2⟩, z.up⟩, k, z.hd, fun q hq => (z.ps q hq).2.2⟩
  have h1 := nodup_sub_len ok.nd (m := ws) fun x hx => by
    obtain ⟨p, hp, rfl⟩ := List.mem_map.mp hx
    obtain ⟨_, _, j, _, ej⟩ := z.ps p hp
    exact List.mem_of_getElem? ej
  have h2 : (keys r.2).length = r.2.length := List.length_map _
  omega
/-- a text whose n-th line is the first bad one -/
structure BadAt (z : Str) (n : Nat) : Prop where
  nd : z ≠ dash
  le : z.length ≤ 10000000
  ll : (lines z).length ≤ 63
  ft : ∀ x ∈ lines z, Fit x
  at_ : ∃ l, (lines z)[n]? = some l ∧ BadL l
  pv : ∀ (i : Nat) x, i < n → (lines z)[i]? = some x → ∃ r, GoodL x r
theorem read_at {CO CB : Addr} {near : Int} {z : Str} {n : Nat} {H : Hp} {Q : VK} {E : XK} (b : BadAt z n)
    (q : ∀ (r t u : Addr) (H' : Hp), H' r = some (.lst [.non, .ref t]) → H' t = some (.lst [.ref u, .non]) → H' u = some (.lst [.int n, .bl true, .bl false]) → Same H H' → Q (.ref r) H') : spRead CO CB [.str z, .int near] H Q E := by
  obtain ⟨l, hn, bad⟩ := b.at_
  refine ⟨_, near, rfl, b.le, b.ll, b.ft, fun e => absurd e b.nd, fun _ => ⟨fun m x r t u H' hm bx pv hr ht hu s => ?_, fun rs gs => ?_⟩⟩
  · have e : m = n := by
      rcases Nat.lt_trichotomy m n with h | h | h
      · obtain ⟨y, g⟩ := b.pv m x h hm
        exact absurd bx g.not_bad
      · exact h
      · obtain ⟨y, g⟩ := pv n l h hn
        exact absurd bad g.not_bad
    subst e
    exact q r t u H' hr ht hu s
  · obtain ⟨y, _, g⟩ := Paired.at gs hn
    exact absurd bad g.not_bad
def ka : Str := Str.ofString "a"
def kb : Str := Str.ofString "b"
theorem kka : KindS ka := ⟨by decide +kernel, by decide +kernel, fun c hc => by
  have e : cds ka = [97] := by decide +kernel
  rw [e] at hc
  rw [List.mem_singleton.mp hc]
  decide⟩
theorem kkb : KindS kb := ⟨by decide +kernel, by decide +kernel, fun c hc => by
  have e : cds kb = [98] := by decide +kernel
  rw [e] at hc
  rw [List.mem_singleton.mp hc]
  decide⟩
theorem fit_of {z : Str} {ls : List Str} (e : lines z = ls) (h : ∀ x ∈ ls, x.length ≤ 100 ∧ (cds x).count 32 ≤ 50) : ∀ x ∈ lines z, Fit x := fun x hx => by
  rw [e] at hx
  exact ⟨Nat.le_trans (h x hx).1 (by decide), (h x hx).2⟩
theorem good_ab : GoodL (Str.ofString "a = 1 b") (ka, [(kb, 1)]) := by
  have e : Str.ofString "a = 1 b" = lineS (ka, [(kb, 1)]) := by rw [← lineS_1]; decide +kernel
  rw [e]
  exact (lnr_one kka kkb (by decide) (by decide)).good
theorem good_aa : GoodL (Str.ofString "a = 1 a") (ka, [(ka, 1)]) := by
  have e : Str.ofString "a = 1 a" = lineS (ka, [(ka, 1)]) := by rw [← lineS_1]; decide +kernel
  rw [e]
  exact (lnr_one kka kka (by decide) (by decide)).good
theorem ba1 : BadAt (Str.ofString "") 0 := by
  have e : lines (Str.ofString "") = [Str.ofString ""] := by decide +kernel
  exact ⟨by decide +kernel, by decide +kernel, by rw [e]; decide, fit_of e (by decide +kernel), ⟨_, by rw [e]; rfl, bl1⟩, fun i _ h => absurd h (Nat.not_lt_zero i)⟩
theorem ba2 : BadAt (Str.ofString "a = 1 a\nb = 2") 1 := by
  have e : lines (Str.ofString "a = 1 a\nb = 2") = [Str.ofString "a = 1 a", Str.ofString "b = 2"] := by decide +kernel
  have e2 : Str.ofString "b = 2" = kb ++ Str.ofString " = 2" := by decide +kernel
  refine ⟨by decide +kernel, by decide +kernel, by rw [e]; decide, fit_of e (by decide +kernel), ⟨_, by rw [e]; rfl, by rw [e2]; exact bl6 kkb⟩, fun i x h hx => ?_⟩
  obtain rfl : i = 0 := by omega
  rw [e] at hx
  cases hx
  exact ⟨_, good_aa⟩
theorem ba3 : BadAt (Str.ofString "a = -") 0 := by
  have e : lines (Str.ofString "a = -") = [Str.ofString "a = -"] := by decide +kernel
  have e2 : Str.ofString "a = -" = ka ++ Str.ofString " = -" := by decide +kernel
  exact ⟨by decide +kernel, by decide +kernel, by rw [e]; decide, fit_of e (by decide +kernel), ⟨_, by rw [e]; rfl, by rw [e2]; exact bl5 kka⟩, fun i _ h => absurd h (Nat.not_lt_zero i)⟩
theorem ba4 : BadAt (Str.ofString "a = 1 b\n") 1 := by
  have e : lines (Str.ofString "a = 1 b\n") = [Str.ofString "a = 1 b", Str.ofString ""] := by decide +kernel
  refine ⟨by decide +kernel, by decide +kernel, by rw [e]; decide, fit_of e (by decide +kernel), ⟨_, by rw [e]; rfl, bl1⟩, fun i x h hx => ?_⟩
  obtain rfl : i = 0 := by omega
  rw [e] at hx
  cases hx
  exact ⟨_, good_ab⟩
theorem ba5 : BadAt (Str.ofString "a = 1 b\n\nb = 1 c") 1 := by
  have e : lines (Str.ofString "a = 1 b\n\nb = 1 c") = [Str.ofString "a = 1 b", Str.ofString "", Str.ofString "b = 1 c"] := by decide +kernel
  refine ⟨by decide +kernel, by decide +kernel, by rw [e]; decide, fit_of e (by decide +kernel), ⟨_, by rw [e]; rfl, bl1⟩, fun i x h hx => ?_⟩
  obtain rfl : i = 0 := by omega
  rw [e] at hx
  cases hx
  exact ⟨_, good_ab⟩
theorem ba6 : BadAt (Str.ofString "\na = 1 b") 0 := by
  have e : lines (Str.ofString "\na = 1 b") = [Str.ofString "", Str.ofString "a = 1 b"] := by decide +kernel
  exact ⟨by decide +kernel, by decide +kernel, by rw [e]; decide, fit_of e (by decide +kernel), ⟨_, by rw [e]; rfl, bl1⟩, fun i _ h => absurd h (Nat.not_lt_zero i)⟩
section
variable {P : Program} {w : World} {K : PySem.W.Frag} {mg : Str → Option Value} {base : Heap} {C CO CB CN CH CR CL : Addr}
abbrev sRight : Stmt := top 50
theorem scRight : FnScope ["_law_box_here", "_law_names_here", "_law_turn", "_law_some", "_law_rows", "_law_near", "_law_lines", "_law_own", "_law_place", "_law_made_here", "_law_told"] ["_law_box_here"] (defScope sRight) := ⟨rfl, rfl, rfl, by decide +kernel, rfl, by decide +kernel, by decide +kernel⟩
def spRightT : Sp := fun vs H Q _ => ∃ (a : Addr) (b : Nat), vs = [.ref a] ∧ Bx H a (b + 4000) ∧ ∀ H', Bx H' a b → Kp a H H' → Q (.bl true) H'
theorem ok_rightT {f : Addr} {fd : FuncData} (F : Fun K "_law_right" "_law_right" sRight f fd) (T : Txt K mg) (Cn : Cal P w K mg base CX0 3 "_law_names" ["_law_box_here", "_law_some"] spNames) (Ct : Cal P w K mg base CX0 1 "_law_take" ["_law_box_here", "_law_below"] spTake) (Co : Cal P w K mg base CX0 2 "_law_of" ["_law_box_here", "_law_some"] spOf) (Cany : Cal P w K mg base CX0 3 "_law_any" ["_law_box_here", "_law_names_here", "_law_far"] spAny) (Csm : Cal P w K mg base CX0 4 "_law_small" ["_law_box_here", "_law_names_here"] spSmall) (Crb : Cal P w K mg base CX0 11 "_law_read_back" ["_law_box_here", "_law_names_here", "_law_rows", "_law_near"] spReadBack) (Cbr : Cal P w K mg base CX0 12 "_law_bad_right" ["_law_box_here", "_law_names_here", "_law_lines", "_law_many_so", "_law_near"] spBadRight) (Crd : Cal P w K mg base CX0 10 "_law_read" ["_law_text_so", "_law_near"] (spRead CO CB)) (Cs : Cal P w K mg base CX0 6 "_law_same" ["_law_got", "_law_due"] (spSame K 6)) : FnOk P w K mg base CX0 13 f fd ["_law_box_here"] spRightT := by
  refine F.ok scRight (fun vs H Q E h => ?_) (fun cdv A outer s H vs Q E hr h => ?_)
  · obtain ⟨a, b, rfl, _⟩ := h
    rfl
  · obtain ⟨a, b, rfl, hb, q⟩ := h
    refine ⟨_, (pss_cons (ps_set (i := 1) scRight.nd rfl (Or.inl rfl) (pe_cal Cn (hr.mono (by decide)) pass0 (pa_cons (pv 0) (pa_cons pe_int pa_nil))))
  (pss_cons (ps_for PassesOwn.never rfl (pi_range1 rfl T.range (pa_cons pe_int pa_nil)) (pg_name (i := 2) scRight.nd rfl (Or.inl rfl))
  (pss_cons (ps_set (i := 4) scRight.nd rfl (Or.inl rfl) (pe_ifExp (pt_cmpR op_gt (pv 2) pe_int (nomark _)) (pe_cal Csm (hr.mono (by decide)) pass0 (pa_cons (pv 0) (pa_cons (pv 1) pa_nil))) (pe_cal Cany (hr.mono (by decide)) pass0 (pa_cons (pv 0) (pa_cons (pv 1) (pa_cons (pe_cal Co (hr.mono (by decide)) pass0 (pa_cons (pv 0) (pa_cons (pe_lst (pa_cons pe_int (pa_cons (pe_op op_pow pe_int pe_int) pa_nil))) pa_nil))) pa_nil))))))
  (pss_cons (ps_set (i := 5) scRight.nd rfl (Or.inl rfl) (pe_cal Ct (hr.mono (by decide)) pass0 (pa_cons (pv 0) (pa_cons pe_int pa_nil))))
  (pss_cons (ps_set (i := 6) scRight.nd rfl (Or.inl rfl) (pe_cal Crb (hr.mono (by decide)) pass0 (pa_cons (pv 0) (pa_cons (pv 1) (pa_cons (pv 4) (pa_cons (pv 5) pa_nil))))))
  (pss_one (ps_if (PW.pt (pw_or (pt_cmpR o_isN (pv 6) pe_non (nomark _)) (pw_or1 (pt_not (pt_val (pe_cal Cbr hr pass0 (pa_cons (pv 0) (pa_cons (pv 1) (pa_cons (pv 6) (pa_cons (pe_callB c_lenL (by rfl) T.len (by decide +kernel) (pa_cons (pv 4) pa_nil)) (pa_cons (pv 5) pa_nil)))))))))))
  (pss_one (ps_ret pe_bl))
  pss_nil))))))
  (pss_cons (ps_set (i := 3) scRight.nd rfl (Or.inl rfl) (pe_lst (pa_cons (pe_tup (pa_cons pe_str (pa_cons pe_int pa_nil))) (pa_cons (pe_tup (pa_cons pe_str (pa_cons pe_int pa_nil))) (pa_cons (pe_tup (pa_cons pe_str (pa_cons pe_int pa_nil))) (pa_cons (pe_tup (pa_cons pe_str (pa_cons pe_int pa_nil))) (pa_cons (pe_tup (pa_cons pe_str (pa_cons pe_int pa_nil))) (pa_cons (pe_tup (pa_cons pe_str (pa_cons pe_int pa_nil))) pa_nil))))))))
  (pss_cons (ps_for PassesOwn.never rfl (pi_list (pv 3)) (pg_tup rfl (pgs_cons (pg_name (i := 7) scRight.nd rfl (Or.inl rfl)) (pgs_cons (pg_name (i := 8) scRight.nd rfl (Or.inl rfl)) pgs_nil)))
  (pss_cons (ps_asg (pe_cal Crd (hr.mono (by decide)) pass0 (pa_cons (pv 7) (pa_cons pe_int pa_nil))) (pg_lst rfl (pgs_cons (pg_name (i := 9) scRight.nd rfl (Or.inl rfl)) (pgs_cons (pg_name (i := 10) scRight.nd rfl (Or.inl rfl)) pgs_nil))))
  (pss_one (ps_if (PW.pt (pw_or (pt_cmpR o_notN (pv 9) pe_non (nomark _)) (pw_or1 (pt_not (pt_val (pe_cal Cs (hr.mono (by decide)) pass0 (pa_cons (pv 10) (pa_cons (pe_lst (pa_cons (pe_lst (pa_cons (pv 8) (pa_cons pe_bl (pa_cons pe_bl pa_nil)))) (pa_cons pe_non pa_nil))) pa_nil))))))))
  (pss_one (ps_ret pe_bl))
  pss_nil))))
  (pss_one (ps_ret pe_bl)))))), ?_⟩
    walk_at "in"
    walk_at "go"
    refine ⟨a, b + 3600, 7, rfl, by omega, hb.mono (by omega), fun l ws H1 hl lw ndw kw hl1 bx1 kp1 => ?_⟩
    have nla : l ≠ a := (hb.ne hl).symm
    have lm : (ws.map V.str).length = 7 := by rw [List.length_map, lw]
    walk_at "go"
    refine for_it (walk_range (n := 6)) (fun i σ H' => ∃ (x2 x3 x4 x5 x6 x7 x8 x9 xa : Option V), σ = [some (.ref a), some (.ref l), x2, x3, x4, x5, x6, x7, x8, x9, xa] ∧ Bx H' a (b + 600 * (6 - i)) ∧ Kp a H1 H') ?_ (fun _ _ _ _ _ => trivial) ?_ ?_
    · exact ⟨_, _, _, _, _, _, _, _, _, rfl, bx1.mono (by omega), fun _ _ e _ => e⟩
    · rintro i x σ _ H2 hi ⟨x2, x3, x4, x5, x6, x7, x8, x9, xa, rfl, bx2, kp2⟩ ⟨rfl, rfl⟩
      have hl2 := kp2 _ _ hl1 nla
      have eb : b + 600 * (6 - i) = b + 600 * (5 - i) + 600 := by omega
      rw [eb] at bx2
      walk_at "go"
      refine ite_via (t1 := tCal spSmall E0 (tCons (tVar 0) (tCons (tVar 1) tNil)) _ _) (t2 := tCal spAny E0 (tCons (tVar 0) (tCons (tVar 1) (tCons (tCal spOf E0 (tCons (tVar 0) (tCons (tLst (tCons (tC (V.int 9)) (tCons (tOp (rI CPow fun i j => V.int (i ^ j.toNat)) (tC (V.int 10)) (tC (V.int 9))) tNil))) tNil))) tNil))) _ _)
        (fun x H3 => ∃ (R : Addr) (far : Int) (ts : List V) (rows : List Row), x = .ref R ∧ far < 10 ^ 20 ∧ H3 R = some (.lst ts) ∧ Paired (RwV H3) ts rows ∧ Drawn ws far rows ∧ R ≠ a ∧ Bx H3 a (b + 600 * (5 - i) + 430) ∧ Kp a H1 H3) ?_ ?_ ?_
      · intro _ Q' hQ
        walk_at "go"
        refine ⟨a, l, ws, b + 600 * (5 - i) + 430, rfl, bx2.mono (by omega), hl2, nla, ndw, kw, by omega, fun R ts rows H3 hR hR3 hts dr bx3 kp3 => hQ _ _ ⟨R, 3, ts, rows, rfl, by decide, hR3, hts, dr, (bx2.ne hR).symm, bx3, fun c o e n => kp3 _ _ (kp2 _ _ e n) n⟩⟩
      · intro _ Q' hQ
        walk_at "go"
        rename_i t ht
        have nta : t ≠ a := (bx2.ne ht).symm
        have s3 : Same H2 (upd H2 t (.lst [V.int 9, V.int (10 ^ Int.toNat 9)])) := fun c o e => upd_at e (ne_of_none e ht)
        refine ⟨a, t, b + 600 * (5 - i) + 599, [.int 9, .int (10 ^ Int.toNat 9)], rfl, bx2.same s3, upd_same, nta, by show 0 < 2; decide, by show 2 ≤ 1000; decide, fun x i' H3 hx bx3 k3 => ?_⟩
        have hl3 := k3 _ _ (s3 _ _ hl2) nla
        have z3 : Kp a H1 H3 := fun c o e n => k3 _ _ (s3 _ _ (kp2 _ _ e n)) n
        match i', hx with
        | 0, hx =>
          cases hx
          exact r_nil ⟨a, l, ws, 9, b + 600 * (5 - i) + 430, rfl, by decide, by decide, bx3.mono (by omega), hl3, nla, ndw, kw, by omega, fun R ts rows H4 hR hR4 hts dr bx4 kp4 => hQ _ _ ⟨R, 9, ts, rows, rfl, by decide, hR4, hts, dr, (bx3.ne hR).symm, bx4, fun c o e n => kp4 _ _ (z3 _ _ e n) n⟩⟩
        | 1, hx =>
          cases hx
          exact r_nil ⟨a, l, ws, 10 ^ Int.toNat 9, b + 600 * (5 - i) + 430, rfl, by decide, by decide, bx3.mono (by omega), hl3, nla, ndw, kw, by omega, fun R ts rows H4 hR hR4 hts dr bx4 kp4 => hQ _ _ ⟨R, 10 ^ Int.toNat 9, ts, rows, rfl, by decide, hR4, hts, dr, (bx3.ne hR).symm, bx4, fun c o e n => kp4 _ _ (z3 _ _ e n) n⟩⟩
        | j + 2, hx => cases hx
      rintro _ H3 ⟨R, far, ts, rows, rfl, hf, hR3, hts, dr, nRa, bx3, kp3⟩
      have tl := dr.tell ndw kw lw hf
      have okr := dr.ok ndw kw
      have rkr := dr.rk ndw
      have lrr := dr.ln
      have lts := Paired.len hts
      walk_at "go"
      refine ⟨a, b + 600 * (5 - i) + 429, 2, rfl, bx3, by decide, by decide, fun d H4 e0 e1 bx4 k4 => ?_⟩
      have hR4 := k4 _ _ hR3 nRa
      have hts4 : Paired (RwV H4) ts rows := Paired.mapP hts fun _ _ y => RwV.kl y (KL.bx k4 bx3)
      have z4 : Kp a H1 H4 := fun c o e n => k4 _ _ (kp3 _ _ e n) n
      walk_at "go"
      refine ⟨a, l, R, d, ts, rows, b + 600 * (5 - i) + 129, rfl, bx4, nRa, hR4, hts4, dr.nd, fun r hr => ⟨okr r hr, (tl r hr).1⟩, rkr, lrr, dr.es, fun L ls H5 nL hL5 lls mem bx5 k5 => ?_⟩
      have nLa : L ≠ a := (bx4.ne nL).symm
      have z5 : Kp a H1 H5 := fun c o e n => k5 _ _ (z4 _ _ e n) n
      have hR5 := k5 _ _ hR4 nRa
      walk_at "go"
      refine ite_dF (by intro z; cases z) ?_
      walk_at "go"
      refine ⟨a, l, L, _, d, ws, ls, b + 600 * (5 - i) + 9, rfl, bx5, nla, nLa, z5 _ _ hl1 nla, lw, ndw, kw, hL5, by omega, fun z hz => ?_, fun H6 bx6 k6 => ⟨_, rfl, iteF ?_⟩⟩
      · obtain ⟨q, hq, rfl⟩ := mem z hz
        exact ⟨q, rfl, (tl q hq).1, (tl q hq).2⟩
      · walk_at "go"
        exact ⟨_, _, _, _, _, _, _, _, _, rfl, by rw [show b + 600 * (6 - (i + 1)) = b + 600 * (5 - i) by omega]; exact bx6.mono (by omega), fun c o e n => k6 _ _ (z5 _ _ e n) n⟩
    rintro σ H2 ⟨x2, x3, x4, x5, x6, x7, x8, x9, xa, rfl, bx2, kp2⟩
    walk_at "go"
    rename_i t1 h1 t2 h2 t3 h3 t4 h4 t5 h5 t6 h6 F hF
    have q1 : (upd (upd (upd (upd (upd (upd (upd H2 t1 (.tup [V.str (Str.ofString ""), V.int 0])) t2 (.tup [V.str (Str.ofString "a = 1 a\nb = 2"), V.int 1])) t3 (.tup [V.str (Str.ofString "a = -"), V.int 0])) t4 (.tup [V.str (Str.ofString "a = 1 b\n"), V.int 1])) t5 (.tup [V.str (Str.ofString "a = 1 b\n\nb = 1 c"), V.int 1])) t6 (.tup [V.str (Str.ofString "\na = 1 b"), V.int 0])) F (.lst [V.ref t1, V.ref t2, V.ref t3, V.ref t4, V.ref t5, V.ref t6])) t1 = some (.tup [V.str (Str.ofString ""), V.int 0]) := by walk_at "hp"
    have q2 : (upd (upd (upd (upd (upd (upd (upd H2 t1 (.tup [V.str (Str.ofString ""), V.int 0])) t2 (.tup [V.str (Str.ofString "a = 1 a\nb = 2"), V.int 1])) t3 (.tup [V.str (Str.ofString "a = -"), V.int 0])) t4 (.tup [V.str (Str.ofString "a = 1 b\n"), V.int 1])) t5 (.tup [V.str (Str.ofString "a = 1 b\n\nb = 1 c"), V.int 1])) t6 (.tup [V.str (Str.ofString "\na = 1 b"), V.int 0])) F (.lst [V.ref t1, V.ref t2, V.ref t3, V.ref t4, V.ref t5, V.ref t6])) t2 = some (.tup [V.str (Str.ofString "a = 1 a\nb = 2"), V.int 1]) := by walk_at "hp"
    have q3 : (upd (upd (upd (upd (upd (upd (upd H2 t1 (.tup [V.str (Str.ofString ""), V.int 0])) t2 (.tup [V.str (Str.ofString "a = 1 a\nb = 2"), V.int 1])) t3 (.tup [V.str (Str.ofString "a = -"), V.int 0])) t4 (.tup [V.str (Str.ofString "a = 1 b\n"), V.int 1])) t5 (.tup [V.str (Str.ofString "a = 1 b\n\nb = 1 c"), V.int 1])) t6 (.tup [V.str (Str.ofString "\na = 1 b"), V.int 0])) F (.lst [V.ref t1, V.ref t2, V.ref t3, V.ref t4, V.ref t5, V.ref t6])) t3 = some (.tup [V.str (Str.ofString "a = -"), V.int 0]) := by walk_at "hp"
    have q4 : (upd (upd (upd (upd (upd (upd (upd H2 t1 (.tup [V.str (Str.ofString ""), V.int 0])) t2 (.tup [V.str (Str.ofString "a = 1 a\nb = 2"), V.int 1])) t3 (.tup [V.str (Str.ofString "a = -"), V.int 0])) t4 (.tup [V.str (Str.ofString "a = 1 b\n"), V.int 1])) t5 (.tup [V.str (Str.ofString "a = 1 b\n\nb = 1 c"), V.int 1])) t6 (.tup [V.str (Str.ofString "\na = 1 b"), V.int 0])) F (.lst [V.ref t1, V.ref t2, V.ref t3, V.ref t4, V.ref t5, V.ref t6])) t4 = some (.tup [V.str (Str.ofString "a = 1 b\n"), V.int 1]) := by walk_at "hp"
    have q5 : (upd (upd (upd (upd (upd (upd (upd H2 t1 (.tup [V.str (Str.ofString ""), V.int 0])) t2 (.tup [V.str (Str.ofString "a = 1 a\nb = 2"), V.int 1])) t3 (.tup [V.str (Str.ofString "a = -"), V.int 0])) t4 (.tup [V.str (Str.ofString "a = 1 b\n"), V.int 1])) t5 (.tup [V.str (Str.ofString "a = 1 b\n\nb = 1 c"), V.int 1])) t6 (.tup [V.str (Str.ofString "\na = 1 b"), V.int 0])) F (.lst [V.ref t1, V.ref t2, V.ref t3, V.ref t4, V.ref t5, V.ref t6])) t5 = some (.tup [V.str (Str.ofString "a = 1 b\n\nb = 1 c"), V.int 1]) := by walk_at "hp"
    have q6 : (upd (upd (upd (upd (upd (upd (upd H2 t1 (.tup [V.str (Str.ofString ""), V.int 0])) t2 (.tup [V.str (Str.ofString "a = 1 a\nb = 2"), V.int 1])) t3 (.tup [V.str (Str.ofString "a = -"), V.int 0])) t4 (.tup [V.str (Str.ofString "a = 1 b\n"), V.int 1])) t5 (.tup [V.str (Str.ofString "a = 1 b\n\nb = 1 c"), V.int 1])) t6 (.tup [V.str (Str.ofString "\na = 1 b"), V.int 0])) F (.lst [V.ref t1, V.ref t2, V.ref t3, V.ref t4, V.ref t5, V.ref t6])) t6 = some (.tup [V.str (Str.ofString "\na = 1 b"), V.int 0]) := by walk_at "hp"
    have qF : (upd (upd (upd (upd (upd (upd (upd H2 t1 (.tup [V.str (Str.ofString ""), V.int 0])) t2 (.tup [V.str (Str.ofString "a = 1 a\nb = 2"), V.int 1])) t3 (.tup [V.str (Str.ofString "a = -"), V.int 0])) t4 (.tup [V.str (Str.ofString "a = 1 b\n"), V.int 1])) t5 (.tup [V.str (Str.ofString "a = 1 b\n\nb = 1 c"), V.int 1])) t6 (.tup [V.str (Str.ofString "\na = 1 b"), V.int 0])) F (.lst [V.ref t1, V.ref t2, V.ref t3, V.ref t4, V.ref t5, V.ref t6])) F = some (.lst [V.ref t1, V.ref t2, V.ref t3, V.ref t4, V.ref t5, V.ref t6]) := upd_same
    have sF : Same H2 (upd (upd (upd (upd (upd (upd (upd H2 t1 (.tup [V.str (Str.ofString ""), V.int 0])) t2 (.tup [V.str (Str.ofString "a = 1 a\nb = 2"), V.int 1])) t3 (.tup [V.str (Str.ofString "a = -"), V.int 0])) t4 (.tup [V.str (Str.ofString "a = 1 b\n"), V.int 1])) t5 (.tup [V.str (Str.ofString "a = 1 b\n\nb = 1 c"), V.int 1])) t6 (.tup [V.str (Str.ofString "\na = 1 b"), V.int 0])) F (.lst [V.ref t1, V.ref t2, V.ref t3, V.ref t4, V.ref t5, V.ref t6])) := fun c o e => by walk_at "hp"
    generalize upd (upd (upd (upd (upd (upd (upd H2 t1 (.tup [V.str (Str.ofString ""), V.int 0])) t2 (.tup [V.str (Str.ofString "a = 1 a\nb = 2"), V.int 1])) t3 (.tup [V.str (Str.ofString "a = -"), V.int 0])) t4 (.tup [V.str (Str.ofString "a = 1 b\n"), V.int 1])) t5 (.tup [V.str (Str.ofString "a = 1 b\n\nb = 1 c"), V.int 1])) t6 (.tup [V.str (Str.ofString "\na = 1 b"), V.int 0])) F (.lst [V.ref t1, V.ref t2, V.ref t3, V.ref t4, V.ref t5, V.ref t6]) = H3 at q1 q2 q3 q4 q5 q6 qF sF ⊢
    have tp : ∀ (i : Nat) (v : V), [V.ref t1, V.ref t2, V.ref t3, V.ref t4, V.ref t5, V.ref t6][i]? = some v → ∃ t z n, v = .ref t ∧ H3 t = some (.tup [.str z, .int (n : Nat)]) ∧ BadAt z n := fun i v hv => by
      match i, hv with
      | 0, hv => cases hv; exact ⟨t1, _, 0, rfl, q1, ba1⟩
      | 1, hv => cases hv; exact ⟨t2, _, 1, rfl, q2, ba2⟩
      | 2, hv => cases hv; exact ⟨t3, _, 0, rfl, q3, ba3⟩
      | 3, hv => cases hv; exact ⟨t4, _, 1, rfl, q4, ba4⟩
      | 4, hv => cases hv; exact ⟨t5, _, 1, rfl, q5, ba5⟩
      | 5, hv => cases hv; exact ⟨t6, _, 0, rfl, q6, ba6⟩
      | j + 6, hv => cases hv
    have bx3 := bx2.same sF
    have z3 : Kp a H H3 := fun c o e n => sF _ _ (kp2 _ _ (kp1 _ _ e n) n)
    clear h1 h2 h3 h4 h5 h6 hF q1 q2 q3 q4 q5 q6 sF bx2
    refine for_it (walk_list (xs := [V.ref t1, V.ref t2, V.ref t3, V.ref t4, V.ref t5, V.ref t6])) (fun i σ H' => ∃ (x2 x3 x4 x5 x6 x7 x8 x9 xa : Option V), σ = [some (.ref a), some (.ref l), x2, x3, x4, x5, x6, x7, x8, x9, xa] ∧ Same H3 H') ?_ ?_ ?_ ?_
    · exact ⟨_, _, _, _, _, _, _, _, _, rfl, fun _ _ e => e⟩
    · rintro i σ H' _ ⟨_, _, _, _, _, _, _, _, _, _, s4⟩
      exact SqL.of (s4 _ _ qF)
    · rintro i v σ _ H4 hi ⟨y2, y3, y4, y5, y6, y7, y8, y9, ya, rfl, s4⟩ ⟨rfl, hv⟩
      obtain ⟨t, z, n, rfl, ht, bad⟩ := tp i v hv
      have ht4 := s4 _ _ ht
      walk_at "go"
      refine read_at bad fun r u1 u2 H5 hr5 hu5 hv5 s5 => ?_
      refine ⟨r, [.non, .ref u1], rfl, SqL.of hr5, rfl, ?_⟩
      walk_at "go"
      refine ite_ndF rfl ?_
      walk_at "go"
      rename_i c1 hc1 c2 hc2
      refine same_bad hu5 hv5 rfl hc1 hc2 fun H6 s6 => ⟨_, rfl, iteF ?_⟩
      walk_at "go"
      exact ⟨_, _, _, _, _, _, _, _, _, rfl, fun c o e => s6 _ _ (s5 _ _ (s4 _ _ e))⟩
    · rintro σ H4 ⟨y2, y3, y4, y5, y6, y7, y8, y9, ya, rfl, s4⟩
      walk_at "go"
      exact q H4 ((bx3.same s4).mono (by omega)) fun c o e n => s4 _ _ (z3 _ _ e n)
end


section
variable {P : Program} {w : World} {K : PySem.W.Frag} {mg : Str → Option Value} {base : Heap} {C CN : Addr}
abbrev sLaw : Stmt := top 51
theorem scLaw : FnScope ["_law_script", "_law_cells_here", "_law_k"] ["_law_script"] (defScope sLaw) := ⟨rfl, rfl, rfl, by decide +kernel, rfl, by decide +kernel, by decide +kernel⟩
def spLaw (K : PySem.W.Frag) : Sp := fun vs H Q _ => ∃ (a : Addr) (ns : List Int), vs = [.ref a] ∧ SqL K H a (ns.map V.int) ∧ ns.length ≤ 63 ∧ ∀ H', Q (.bl true) H'
theorem ok_law {f : Addr} {fd : FuncData} (F : Fun K "law" "law" sLaw f fd) (T : Txt K mg) (Cc : Cal P w K mg base CX0 1 "_law_cells" ["_law_script", "_law_most_so"] (spCells K)) (Cb : Cal P w K mg base CX0 1 "_law_box" ["_law_script", "_law_k"] (spBox K)) (Cr : Cal P w K mg base CX0 13 "_law_right" ["_law_box_here"] spRightT) : FnOk P w K mg base CX0 14 f fd ["_law_script"] (spLaw K) := by
  refine F.ok scLaw (fun vs H Q E h => ?_) (fun cdv A outer s H vs Q E hr h => ?_)
  · obtain ⟨a, ns, rfl, _⟩ := h
    rfl
  · obtain ⟨a, ns, rfl, hx, hl, q⟩ := h
    refine ⟨_, (pss_cons (ps_set (i := 1) scLaw.nd rfl (Or.inr rfl) (pe_cal Cc (hr.mono (by decide)) pass0 (pa_cons (pv 0) (pa_cons pe_int pa_nil))))
  (pss_one (ps_ret (pe_callB (cr_all rfl) (by rfl) T.all (by decide +kernel) (pa_cons (pe_lc (own := [("_law_k", 2)]) (g := gName 2) (tt := tYes) rfl scLaw.nd (pi_range1 rfl T.range (pa_cons (pe_callB c_lenL (by rfl) T.len (by decide +kernel) (pa_cons (pv 1) pa_nil)) pa_nil)) (blkOk_by (N := ["_law_script", "_law_cells_here", "_law_k"]) (sc := defScope sLaw) (by decide +kernel)) (fun _ _ _ _ _ => (pg_name (i := 2) scLaw.nd rfl (Or.inl rfl))) (fun _ _ _ _ _ => pts_nil) (fun _ _ _ _ _ => (pe_cal Cr hr pass0 (pa_cons (pe_cal Cb (hr.mono (by decide)) pass0 (pa_cons (pv 1) (pa_cons (pv 2) pa_nil))) pa_nil)))) pa_nil))))), ?_⟩
    walk_at "in"
    walk_at "go"
    refine ⟨a, ns, rfl, hx, hl, fun p ms H1 hp m1 m3 hp1 s1 => ?_⟩
    walk_at "go"
    refine ⟨by rw [List.length_map]; omega, by rw [List.length_map]; omega, ?_⟩
    intro D hD
    have nDp : D ≠ p := fun z => by rw [z, hp1] at hD; cases hD
    have el : (((ms.map V.int).length : Nat) : Int).toNat = ms.length := by rw [List.length_map]; rfl
    rw [el]
    refine lc_it (walk_range (n := ms.length)) (fun i H' => H' D = some (.lst ((List.replicate i true).map V.bl)) ∧ Same H1 H') ?_ ?_ ?_ ?_
    · exact ⟨upd_same, fun c o e => upd_at e (ne_of_none e hD)⟩
    · intro _ _ _ _
      trivial
    · rintro i _ _ H2 hi ⟨hD2, s2⟩ ⟨rfl, rfl⟩
      walk_at "go"
      refine ⟨rfl, ?_⟩
      walk_at "go"
      refine iteT ?_
      walk_at "go"
      refine ⟨p, ms, i, ?_, SqL.of (s2 _ _ hp1), hi, by omega, fun b H3 hb hb3 s3 => ?_⟩
      · show [V.ref p, V.int (0 + (i : Int))] = _
        rw [Int.zero_add]
      walk_at "go"
      refine ⟨b, 899990000, rfl, hb3.mono (by decide), fun H4 _ k4 => ?_⟩
      have keep : ∀ c o, H2 c = some o → H4 c = some o := fun c o e => k4 _ _ (s3 _ _ e) (ne_of_none e hb)
      refine ⟨_, keep _ _ hD2, szl (by rw [List.length_map, List.length_replicate]; omega), ?_, fun c o e => ?_⟩
      · rw [List.replicate_succ', List.map_append]
        exact upd_same
      · exact upd_at (keep _ _ (s2 _ _ e)) (ne_of_none e hD)
    · rintro H2 ⟨hD2, s2⟩
      walk_at "go"
      refine r_all (SqL.of hD2) ?_
      rw [List.all_replicate]
      have e : (if ms.length = 0 then true else id true) = true := by split <;> rfl
      first | rw [e] | skip
      exact q _
end


theorem r_ost {K : PySem.W.Frag} {f : Str} {to te : TE} {D : Ends} {σ : L2.St} {H : Hp} (h : te σ H fun y H1 => to σ H1 fun x H2 => ∃ a C : Addr, x = .ref a ∧ OexC K C ∧ PySem.W.findIn K (.ref C) f = some none ∧ ((H2 a = some (exo a C none) ∧ ∀ dx, H2 dx = none → dx ≠ a → D.nx σ (upd (upd H2 dx (exd dx [(f, y)])) a (exo a C (some dx)))) ∨ ∃ (dx : Addr) (fs : List (Str × V)), H2 a = some (exo a C (some dx)) ∧ H2 dx = some (exd dx fs) ∧ fs.length ≤ 900 ∧ D.nx σ (upd H2 dx (exd dx ((f, y) :: fs))))) : tOst K f to te D σ H := h
section
variable {P : Program} {w : World} {K : PySem.W.Frag} {mg : Str → Option Value} {base : Heap} {C : Addr}
abbrev sHollowInit : Stmt := inClass (top 3) 0
theorem scHollowInit : FnScope ["self", "kind"] ["self", "kind"] (defScope sHollowInit) := ⟨rfl, rfl, rfl, by decide +kernel, rfl, by decide +kernel, by decide +kernel⟩
theorem ok_iHollow {f : Addr} {fd : FuncData} (F : Fun K "__init__" "Hollow.__init__" sHollowInit f fd) (T : OexC K C) (h1 : PySem.W.findIn K (.ref C) "kind" = some none) : FnOk P w K mg base CX0 1 f fd ["self", "kind"] (spI1 C "kind") := by
  refine F.ok scHollowInit (fun vs H Q E h => ?_) (fun cdv A outer s H vs Q E hr h => ?_)
  · obtain ⟨a, y, rfl, _⟩ := h
    rfl
  · obtain ⟨a, y, rfl, ha, q⟩ := h
    refine ⟨_, pss_one (ps_ost (pv 0) (pv 1)), ?_⟩
    walk_at "in"
    exact r_ost (r_var rfl (r_var rfl ⟨a, C, rfl, T, h1, .inl ⟨ha, q⟩⟩))
abbrev sRingedInit : Stmt := inClass (top 4) 0
theorem scRingedInit : FnScope ["self", "ring"] ["self", "ring"] (defScope sRingedInit) := ⟨rfl, rfl, rfl, by decide +kernel, rfl, by decide +kernel, by decide +kernel⟩
theorem ok_iRinged {f : Addr} {fd : FuncData} (F : Fun K "__init__" "Ringed.__init__" sRingedInit f fd) (T : OexC K C) (h1 : PySem.W.findIn K (.ref C) "ring" = some none) : FnOk P w K mg base CX0 1 f fd ["self", "ring"] (spI1 C "ring") := by
  refine F.ok scRingedInit (fun vs H Q E h => ?_) (fun cdv A outer s H vs Q E hr h => ?_)
  · obtain ⟨a, y, rfl, _⟩ := h
    rfl
  · obtain ⟨a, y, rfl, ha, q⟩ := h
    refine ⟨_, pss_one (ps_ost (pv 0) (pv 1)), ?_⟩
    walk_at "in"
    exact r_ost (r_var rfl (r_var rfl ⟨a, C, rfl, T, h1, .inl ⟨ha, q⟩⟩))
abbrev sBadlineInit : Stmt := inClass (top 7) 0
theorem scBadlineInit : FnScope ["self", "number"] ["self", "number"] (defScope sBadlineInit) := ⟨rfl, rfl, rfl, by decide +kernel, rfl, by decide +kernel, by decide +kernel⟩
theorem ok_iBadLine {f : Addr} {fd : FuncData} (F : Fun K "__init__" "BadLine.__init__" sBadlineInit f fd) (T : OexC K C) (h1 : PySem.W.findIn K (.ref C) "number" = some none) : FnOk P w K mg base CX0 1 f fd ["self", "number"] (spI1 C "number") := by
  refine F.ok scBadlineInit (fun vs H Q E h => ?_) (fun cdv A outer s H vs Q E hr h => ?_)
  · obtain ⟨a, y, rfl, _⟩ := h
    rfl
  · obtain ⟨a, y, rfl, ha, q⟩ := h
    refine ⟨_, pss_one (ps_ost (pv 0) (pv 1)), ?_⟩
    walk_at "in"
    exact r_ost (r_var rfl (r_var rfl ⟨a, C, rfl, T, h1, .inl ⟨ha, q⟩⟩))
end
end My
namespace My
open PySem L2

theorem same0 {P : Program} {w : World} {K : PySem.W.Frag} {mg : Str → Option Value} {base : Heap} {f : Addr} {fd : FuncData} : FnOk P w K mg base CX0 0 f fd ["_law_got", "_law_due"] (spSame K 0) :=
  ⟨fun vs H Q E h => by obtain ⟨x, y, rfl, _⟩ := h; rfl, fun A outer s H args us vs Q E hr e b r h => by obtain ⟨x, y, _, hs, _⟩ := h; exact hs.elim⟩

theorem all_mk {l : PySem.W.OpenLaw} {w : World} {K : PySem.W.Frag} {h : Heap} {mg : Str → Option Value} {fa : Addr} (X : K.In h) (G : h.Ns mainGlobals mg) (hfa : mg "law" = some (.ref fa))
    {C : Addr} {CO : Addr} {CB : Addr} {fm0 : Addr} {fm1 : Addr} {fm2 : Addr} {fm3 : Addr} {fm4 : Addr} {fm5 : Addr} {fm6 : Addr} {fm7 : Addr} {fm8 : Addr} {fm9 : Addr} {fm10 : Addr} {fm11 : Addr} {fm12 : Addr} {fm13 : Addr} {fm14 : Addr} {fm15 : Addr} {fm16 : Addr} {fm17 : Addr} {fm18 : Addr} {fm19 : Addr} {cpBookOf cgBookOf : Addr} {crestBookOf : List Value} {fiCB t0CB : Addr} {fc0 : Addr} {fiC t0C : Addr} {fm20 : Addr} {fiCO : Addr} {fc1 : Addr} {fc2 : Addr} {fc3 : Addr} {fc4 : Addr} {fm21 : Addr} {ppOpeningContents pgOpeningContents : Addr} {restOpeningContents : List Value} {fm22 : Addr} {fm23 : Addr} {fm24 : Addr} {fm25 : Addr} {cpLotOf cgLotOf : Addr} {crestLotOf : List Value} {fm26 : Addr} {fm27 : Addr} {fm28 : Addr} {fc5 : Addr} {fc6 : Addr} {fc7 : Addr} {fc8 : Addr} {fc9 : Addr} {fc10 : Addr} {fm29 : Addr} {fm30 : Addr} {fm31 : Addr} {CR fiR : Addr} {CH fiH : Addr} {CL fiL : Addr} {CN : Addr} {uLETTERS : Value} {uDIGITS : Value} {uLONGEST_KIND : Value} {uMOST_DIGITS : Value}
    (aC : PySem.W.nsIn K mainGlobals "Lot" = some (some (.ref C)))
    (KC : CC K C)
    (nC_many : PySem.W.findIn K (.ref C) "_many" = some none)
    (aCO : PySem.W.nsIn K mainGlobals "Opening" = some (some (.ref CO)))
    (KCO : CC K CO)
    (nCO_kind : PySem.W.findIn K (.ref CO) "kind" = some none)
    (nCO_pairs : PySem.W.findIn K (.ref CO) "_pairs" = some none)
    (aCB : PySem.W.nsIn K mainGlobals "Book" = some (some (.ref CB)))
    (KCB : CC K CB)
    (nCB_openings : PySem.W.findIn K (.ref CB) "_openings" = some none)
    (nCB_parts : PySem.W.findIn K (.ref CB) "_parts" = some none)
    (am0 : PySem.W.nsIn K mainGlobals "law" = some (some (.ref fm0)))
    (Dm0 : ∃ fd, Fun K "law" "law" sLaw fm0 fd)
    (am1 : PySem.W.nsIn K mainGlobals "_law_cells" = some (some (.ref fm1)))
    (Dm1 : ∃ fd, Fun K "_law_cells" "_law_cells" sCells fm1 fd)
    (am2 : PySem.W.nsIn K mainGlobals "_law_box" = some (some (.ref fm2)))
    (Dm2 : ∃ fd, Fun K "_law_box" "_law_box" sBox fm2 fd)
    (am3 : PySem.W.nsIn K mainGlobals "_law_right" = some (some (.ref fm3)))
    (Dm3 : ∃ fd, Fun K "_law_right" "_law_right" sRight fm3 fd)
    (am4 : PySem.W.nsIn K mainGlobals "_law_names" = some (some (.ref fm4)))
    (Dm4 : ∃ fd, Fun K "_law_names" "_law_names" sNames fm4 fd)
    (am5 : PySem.W.nsIn K mainGlobals "_law_take" = some (some (.ref fm5)))
    (Dm5 : ∃ fd, Fun K "_law_take" "_law_take" sTake fm5 fd)
    (am6 : PySem.W.nsIn K mainGlobals "_law_of" = some (some (.ref fm6)))
    (Dm6 : ∃ fd, Fun K "_law_of" "_law_of" sOf fm6 fd)
    (am7 : PySem.W.nsIn K mainGlobals "_law_any" = some (some (.ref fm7)))
    (Dm7 : ∃ fd, Fun K "_law_any" "_law_any" sAny fm7 fd)
    (am8 : PySem.W.nsIn K mainGlobals "_law_tree" = some (some (.ref fm8)))
    (Dm8 : ∃ fd, Fun K "_law_tree" "_law_tree" sTree fm8 fd)
    (am9 : PySem.W.nsIn K mainGlobals "_law_rising" = some (some (.ref fm9)))
    (Dm9 : ∃ fd, Fun K "_law_rising" "_law_rising" sRising fm9 fd)
    (am10 : PySem.W.nsIn K mainGlobals "_law_ways" = some (some (.ref fm10)))
    (Dm10 : ∃ fd, Fun K "_law_ways" "_law_ways" sWays fm10 fd)
    (am11 : PySem.W.nsIn K mainGlobals "_law_single" = some (some (.ref fm11)))
    (Dm11 : ∃ fd, Fun K "_law_single" "_law_single" sSingle fm11 fd)
    (am12 : PySem.W.nsIn K mainGlobals "_law_small" = some (some (.ref fm12)))
    (Dm12 : ∃ fd, Fun K "_law_small" "_law_small" sSmall fm12 fd)
    (am13 : PySem.W.nsIn K mainGlobals "_law_worths" = some (some (.ref fm13)))
    (Dm13 : ∃ fd, Fun K "_law_worths" "_law_worths" sWorths fm13 fd)
    (am14 : PySem.W.nsIn K mainGlobals "_law_pieces" = some (some (.ref fm14)))
    (Dm14 : ∃ fd, Fun K "_law_pieces" "_law_pieces" sPieces fm14 fd)
    (am15 : PySem.W.nsIn K mainGlobals "_law_pairs" = some (some (.ref fm15)))
    (Dm15 : ∃ fd, Fun K "_law_pairs" "_law_pairs" sPairs fm15 fd)
    (am16 : PySem.W.nsIn K mainGlobals "_law_read_back" = some (some (.ref fm16)))
    (Dm16 : ∃ fd, Fun K "_law_read_back" "_law_read_back" sReadBack fm16 fd)
    (am17 : PySem.W.nsIn K mainGlobals "_law_mixed" = some (some (.ref fm17)))
    (Dm17 : ∃ fd, Fun K "_law_mixed" "_law_mixed" sMixed fm17 fd)
    (am18 : PySem.W.nsIn K mainGlobals "_law_line" = some (some (.ref fm18)))
    (Dm18 : ∃ fd, Fun K "_law_line" "_law_line" sLine fm18 fd)
    (am19 : PySem.W.nsIn K mainGlobals "_law_read" = some (some (.ref fm19)))
    (Dm19 : ∃ fd, Fun K "_law_read" "_law_read" sRead fm19 fd)
    (rdCB : PySem.W.readsIn K CB (.type "type") = true)
    (grCB : PySem.W.specialIn K (.ref CB) "__getattribute__" = some (some (.builtin "type.__getattribute__")))
    (cfBookOf : PySem.W.findCls K (.ref CB) (.type "type") "of" = some (.get (.builtin "classmethod.__get__") (.ref cpBookOf) .none (.ref CB)))
    (crBookOf : PySem.W.recIn K cpBookOf "classmethod" = some (.ref cgBookOf :: crestBookOf))
    (cnBookOf : PySem.W.fnIn K cgBookOf = true)
    (DxBookOf : ∃ fd, Fun K "of" "Book.of" sBookOf cgBookOf fd)
    (aiCB : PySem.W.findIn K (.ref CB) "__init__" = some (some (.ref fiCB)))
    (iiCB : PySem.W.isFn K (.ref fiCB) = true)
    (DiCB : ∃ fd, FunD K "__init__" "Book.__init__" (defArgs sBookInit) (defBody sBookInit) (defScope sBookInit) [.ref t0CB] [] fiCB fd)
    (S0CB : ∀ H, SqT K H t0CB [])
    (ac0 : PySem.W.findIn K (.ref CO) "place" = some (some (.ref fc0)))
    (ic0 : PySem.W.isFn K (.ref fc0) = true)
    (nc0 : PySem.W.fnIn K fc0 = true)
    (Dc0 : ∃ fd, Fun K "place" "Opening.place" sOpeningPlace fc0 fd)
    (aiC : PySem.W.findIn K (.ref C) "__init__" = some (some (.ref fiC)))
    (iiC : PySem.W.isFn K (.ref fiC) = true)
    (DiC : ∃ fd, FunD K "__init__" "Lot.__init__" (defArgs sLotInit) (defBody sLotInit) (defScope sLotInit) [.ref t0C] [] fiC fd)
    (S0C : ∀ H, SqT K H t0C [])
    (am20 : PySem.W.nsIn K mainGlobals "_counted" = some (some (.ref fm20)))
    (Dm20 : ∃ fd, Fun K "_counted" "_counted" sOwnCountedT fm20 fd)
    (aiCO : PySem.W.findIn K (.ref CO) "__init__" = some (some (.ref fiCO)))
    (iiCO : PySem.W.isFn K (.ref fiCO) = true)
    (DiCO : ∃ fd, Fun K "__init__" "Opening.__init__" sOpeningInit fiCO fd)
    (ac1 : PySem.W.findIn K (.ref C) "__len__" = some (some (.ref fc1)))
    (ic1 : PySem.W.isFn K (.ref fc1) = true)
    (nc1 : PySem.W.fnIn K fc1 = true)
    (Dc1 : ∃ fd, Fun K "__len__" "Lot.__len__" sLotLen fc1 fd)
    (ac2 : PySem.W.findIn K (.ref C) "__contains__" = some (some (.ref fc2)))
    (ic2 : PySem.W.isFn K (.ref fc2) = true)
    (nc2 : PySem.W.fnIn K fc2 = true)
    (Dc2 : ∃ fd, Fun K "__contains__" "Lot.__contains__" sLotContains fc2 fd)
    (ac3 : PySem.W.findIn K (.ref C) "pairs" = some (some (.ref fc3)))
    (ic3 : PySem.W.isFn K (.ref fc3) = true)
    (nc3 : PySem.W.fnIn K fc3 = true)
    (Dc3 : ∃ fd, Fun K "pairs" "Lot.pairs" sLotPairs fc3 fd)
    (ac4 : PySem.W.findIn K (.ref C) "kinds" = some (some (.ref fc4)))
    (ic4 : PySem.W.isFn K (.ref fc4) = true)
    (nc4 : PySem.W.fnIn K fc4 = true)
    (Dc4 : ∃ fd, Fun K "kinds" "Lot.kinds" sLotKinds fc4 fd)
    (am21 : PySem.W.nsIn K mainGlobals "_parts_of" = some (some (.ref fm21)))
    (Dm21 : ∃ fd, Fun K "_parts_of" "_parts_of" sOwnPartsOf fm21 fd)
    (apOpeningContents : PySem.W.findIn K (.ref CO) "contents" = some (some (.ref ppOpeningContents)))
    (rpOpeningContents : PySem.W.recIn K ppOpeningContents "property" = some (.ref pgOpeningContents :: restOpeningContents))
    (gpOpeningContents : PySem.W.specialIn K (.ref ppOpeningContents) "__get__" = some (some (.builtin "property.__get__")))
    (tpOpeningContents : PySem.W.takesIn K (.ref ppOpeningContents) = some true)
    (DpOpeningContents : ∃ fd, Fun K "contents" "Opening.contents" sOpeningContents pgOpeningContents fd)
    (am22 : PySem.W.nsIn K mainGlobals "_ring" = some (some (.ref fm22)))
    (Dm22 : ∃ fd, Fun K "_ring" "_ring" sOwnRing fm22 fd)
    (am23 : PySem.W.nsIn K mainGlobals "_holding" = some (some (.ref fm23)))
    (Dm23 : ∃ fd, Fun K "_holding" "_holding" sOwnHolding fm23 fd)
    (am24 : PySem.W.nsIn K mainGlobals "_read_line" = some (some (.ref fm24)))
    (Dm24 : ∃ fd, Fun K "_read_line" "_read_line" sOwnReadLine fm24 fd)
    (am25 : PySem.W.nsIn K mainGlobals "is_kind" = some (some (.ref fm25)))
    (Dm25 : ∃ fd, Fun K "is_kind" "is_kind" sIsKind fm25 fd)
    (rdC : PySem.W.readsIn K C (.type "type") = true)
    (grC : PySem.W.specialIn K (.ref C) "__getattribute__" = some (some (.builtin "type.__getattribute__")))
    (cfLotOf : PySem.W.findCls K (.ref C) (.type "type") "of" = some (.get (.builtin "classmethod.__get__") (.ref cpLotOf) .none (.ref C)))
    (crLotOf : PySem.W.recIn K cpLotOf "classmethod" = some (.ref cgLotOf :: crestLotOf))
    (cnLotOf : PySem.W.fnIn K cgLotOf = true)
    (DxLotOf : ∃ fd, Fun K "of" "Lot.of" sLotOf cgLotOf fd)
    (am26 : PySem.W.nsIn K mainGlobals "_is_many" = some (some (.ref fm26)))
    (Dm26 : ∃ fd, Fun K "_is_many" "_is_many" sOwnIsMany fm26 fd)
    (am27 : PySem.W.nsIn K mainGlobals "_law_same" = some (some (.ref fm27)))
    (Dm27 : ∃ fd, Fun K "_law_same" "_law_same" sSame fm27 fd)
    (am28 : PySem.W.nsIn K mainGlobals "_law_made" = some (some (.ref fm28)))
    (Dm28 : ∃ fd, Fun K "_law_made" "_law_made" sMade fm28 fd)
    (ac5 : PySem.W.findIn K (.ref CB) "text" = some (some (.ref fc5)))
    (ic5 : PySem.W.isFn K (.ref fc5) = true)
    (nc5 : PySem.W.fnIn K fc5 = true)
    (Dc5 : ∃ fd, Fun K "text" "Book.text" sBookText fc5 fd)
    (ac6 : PySem.W.findIn K (.ref CB) "__len__" = some (some (.ref fc6)))
    (ic6 : PySem.W.isFn K (.ref fc6) = true)
    (nc6 : PySem.W.fnIn K fc6 = true)
    (Dc6 : ∃ fd, Fun K "__len__" "Book.__len__" sBookLen fc6 fd)
    (ac7 : PySem.W.findIn K (.ref CO) "text" = some (some (.ref fc7)))
    (ic7 : PySem.W.isFn K (.ref fc7) = true)
    (nc7 : PySem.W.fnIn K fc7 = true)
    (Dc7 : ∃ fd, Fun K "text" "Opening.text" sOpeningText fc7 fd)
    (ac8 : PySem.W.findIn K (.ref C) "text" = some (some (.ref fc8)))
    (ic8 : PySem.W.isFn K (.ref fc8) = true)
    (nc8 : PySem.W.fnIn K fc8 = true)
    (Dc8 : ∃ fd, Fun K "text" "Lot.text" sLotText fc8 fd)
    (ac9 : PySem.W.findIn K (.ref CB) "__eq__" = some (some (.ref fc9)))
    (ic9 : PySem.W.isFn K (.ref fc9) = true)
    (nc9 : PySem.W.fnIn K fc9 = true)
    (Dc9 : ∃ fd, Fun K "__eq__" "Book.__eq__" sBookEq fc9 fd)
    (ac10 : PySem.W.findIn K (.ref CO) "__eq__" = some (some (.ref fc10)))
    (ic10 : PySem.W.isFn K (.ref fc10) = true)
    (nc10 : PySem.W.fnIn K fc10 = true)
    (Dc10 : ∃ fd, Fun K "__eq__" "Opening.__eq__" sOpeningEq fc10 fd)
    (am29 : PySem.W.nsIn K mainGlobals "_law_bad_right" = some (some (.ref fm29)))
    (Dm29 : ∃ fd, Fun K "_law_bad_right" "_law_bad_right" sBadRight fm29 fd)
    (am30 : PySem.W.nsIn K mainGlobals "_law_bad" = some (some (.ref fm30)))
    (Dm30 : ∃ fd, Fun K "_law_bad" "_law_bad" sBad fm30 fd)
    (am31 : PySem.W.nsIn K mainGlobals "_law_ringed_right" = some (some (.ref fm31)))
    (Dm31 : ∃ fd, Fun K "_law_ringed_right" "_law_ringed_right" sRingedRight fm31 fd)
    (aeR : PySem.W.nsIn K mainGlobals "Ringed" = some (some (.ref CR)))
    (EfR : EF K CR)
    (LkR : LK K CR bmV "ValueError.__new__")
    (aiR : PySem.W.findIn K (.ref CR) "__init__" = some (some (.ref fiR)))
    (tiR : PySem.W.typeIn K (.ref fiR) = some (.type "function"))
    (DiR : ∃ fd, Fun K "__init__" "Ringed.__init__" sRingedInit fiR fd)
    (aeH : PySem.W.nsIn K mainGlobals "Hollow" = some (some (.ref CH)))
    (EfH : EF K CH)
    (LkH : LK K CH bmV "ValueError.__new__")
    (aiH : PySem.W.findIn K (.ref CH) "__init__" = some (some (.ref fiH)))
    (tiH : PySem.W.typeIn K (.ref fiH) = some (.type "function"))
    (DiH : ∃ fd, Fun K "__init__" "Hollow.__init__" sHollowInit fiH fd)
    (aeL : PySem.W.nsIn K mainGlobals "BadLine" = some (some (.ref CL)))
    (EfL : EF K CL)
    (LkL : LK K CL bmV "ValueError.__new__")
    (aiL : PySem.W.findIn K (.ref CL) "__init__" = some (some (.ref fiL)))
    (tiL : PySem.W.typeIn K (.ref fiL) = some (.type "function"))
    (DiL : ∃ fd, Fun K "__init__" "BadLine.__init__" sBadlineInit fiL fd)
    (aeN : PySem.W.nsIn K mainGlobals "BadText" = some (some (.ref CN)))
    (EfN : EF K CN)
    (LkN : LK K CN [.type "ValueError", .type "Exception", .type "BaseException", .type "object"] "ValueError.__new__")
    (xeN : PySem.W.excIn K CN [.type "ValueError", .type "Exception", .type "BaseException", .type "object"] "ValueError.__new__" = true)
    (ne : ([CL, CR, CH] : List Addr).Nodup)
    (sCO : PySem.W.subIn K (.ref C) (.ref CO) = some false)
    (ncc : ([C, CO, CB] : List Addr).Nodup)
    (hne : PySem.W.findIn K (.ref CB) "__ne__" = some (some (.builtin "object.__ne__")))
    (hn : PySem.W.specialIn K (.builtin "object.__class__") "__get__" = some (some (.builtin "getset_descriptor.__get__")))
    (ht : PySem.W.takesIn K (.builtin "object.__class__") = some true)
    (z_int : PySem.W.nsIn K mainGlobals "int" = some none)
    (z_len : PySem.W.nsIn K mainGlobals "len" = some none)
    (z_abs : PySem.W.nsIn K mainGlobals "abs" = some none)
    (z_list : PySem.W.nsIn K mainGlobals "list" = some none)
    (z_tuple : PySem.W.nsIn K mainGlobals "tuple" = some none)
    (z_range : PySem.W.nsIn K mainGlobals "range" = some none)
    (z_enumerate : PySem.W.nsIn K mainGlobals "enumerate" = some none)
    (z_isinstance : PySem.W.nsIn K mainGlobals "isinstance" = some none)
    (z_all : PySem.W.nsIn K mainGlobals "all" = some none)
    (z_zip : PySem.W.nsIn K mainGlobals "zip" = some none)
    (z_dict : PySem.W.nsIn K mainGlobals "dict" = some none)
    (z_bool : PySem.W.nsIn K mainGlobals "bool" = some none)
    (z_str : PySem.W.nsIn K mainGlobals "str" = some none)
    (z_set : PySem.W.nsIn K mainGlobals "set" = some none)
    (z_sorted : PySem.W.nsIn K mainGlobals "sorted" = some none)
    (z_min : PySem.W.nsIn K mainGlobals "min" = some none)
    (z_sum : PySem.W.nsIn K mainGlobals "sum" = some none)
    (z_ValueError : PySem.W.nsIn K mainGlobals "ValueError" = some none)
    (auLETTERS : PySem.W.nsIn K mainGlobals "_LETTERS" = some (some uLETTERS))
    (ruLETTERS : RelV (.str sAbc) uLETTERS)
    (auDIGITS : PySem.W.nsIn K mainGlobals "_DIGITS" = some (some uDIGITS))
    (ruDIGITS : RelV (.str sDig) uDIGITS)
    (auLONGEST_KIND : PySem.W.nsIn K mainGlobals "_LONGEST_KIND" = some (some uLONGEST_KIND))
    (ruLONGEST_KIND : RelV (.int 8) uLONGEST_KIND)
    (auMOST_DIGITS : PySem.W.nsIn K mainGlobals "_MOST_DIGITS" = some (some uMOST_DIGITS))
    (ruMOST_DIGITS : RelV (.int 300) uMOST_DIGITS) :
    ∃ fd : FuncData, (∀ (s : Shared) (v : Value), BindsTo s fd ⟨[v], []⟩ [("_law_script", v)]) ∧ ∀ base : Heap, K.In base → base.Ns mainGlobals mg → FnOk l.prog w K mg base CX0 14 fa fd ["_law_script"] (spLaw K) := by
  have e := hfa.symm.trans (PySem.W.mg_of X G am0)
  cases e
  have T : Txt K mg := ⟨PySem.W.mg_none_of X G z_int, PySem.W.mg_none_of X G z_len, PySem.W.mg_none_of X G z_abs, PySem.W.mg_none_of X G z_list, PySem.W.mg_none_of X G z_tuple, PySem.W.mg_none_of X G z_range, PySem.W.mg_none_of X G z_enumerate, PySem.W.mg_none_of X G z_isinstance, PySem.W.mg_none_of X G z_all, PySem.W.mg_none_of X G z_zip, PySem.W.mg_none_of X G z_dict, PySem.W.mg_none_of X G z_bool, PySem.W.mg_none_of X G z_str, PySem.W.mg_none_of X G z_set, PySem.W.mg_none_of X G z_sorted, PySem.W.mg_none_of X G z_min, PySem.W.mg_none_of X G z_sum⟩
  have gC := PySem.W.mg_of X G aC
  have gCO := PySem.W.mg_of X G aCO
  have gCB := PySem.W.mg_of X G aCB
  obtain ⟨dm0, Fm0⟩ := Dm0
  have bm0 := Fm0.binds (ps := ["_law_script"]) fun _ _ _ _ _ _ us hl => match us, hl with | [_], _ => rfl
  obtain ⟨dm1, Fm1⟩ := Dm1
  have bm1 := Fm1.binds (ps := ["_law_script", "_law_most_so"]) fun _ _ _ _ _ _ us hl => match us, hl with | [_, _], _ => rfl
  obtain ⟨dm2, Fm2⟩ := Dm2
  have bm2 := Fm2.binds (ps := ["_law_script", "_law_k"]) fun _ _ _ _ _ _ us hl => match us, hl with | [_, _], _ => rfl
  obtain ⟨dm3, Fm3⟩ := Dm3
  have bm3 := Fm3.binds (ps := ["_law_box_here"]) fun _ _ _ _ _ _ us hl => match us, hl with | [_], _ => rfl
  obtain ⟨dm4, Fm4⟩ := Dm4
  have bm4 := Fm4.binds (ps := ["_law_box_here", "_law_some"]) fun _ _ _ _ _ _ us hl => match us, hl with | [_, _], _ => rfl
  obtain ⟨dm5, Fm5⟩ := Dm5
  have bm5 := Fm5.binds (ps := ["_law_box_here", "_law_below"]) fun _ _ _ _ _ _ us hl => match us, hl with | [_, _], _ => rfl
  obtain ⟨dm6, Fm6⟩ := Dm6
  have bm6 := Fm6.binds (ps := ["_law_box_here", "_law_some"]) fun _ _ _ _ _ _ us hl => match us, hl with | [_, _], _ => rfl
  obtain ⟨dm7, Fm7⟩ := Dm7
  have bm7 := Fm7.binds (ps := ["_law_box_here", "_law_names_here", "_law_far"]) fun _ _ _ _ _ _ us hl => match us, hl with | [_, _, _], _ => rfl
  obtain ⟨dm8, Fm8⟩ := Dm8
  have bm8 := Fm8.binds (ps := ["_law_box_here", "_law_names_here", "_law_far"]) fun _ _ _ _ _ _ us hl => match us, hl with | [_, _, _], _ => rfl
  obtain ⟨dm9, Fm9⟩ := Dm9
  have bm9 := Fm9.binds (ps := ["_law_rows_so"]) fun _ _ _ _ _ _ us hl => match us, hl with | [_], _ => rfl
  obtain ⟨dm10, Fm10⟩ := Dm10
  have bm10 := Fm10.binds (ps := ["_law_box_here", "_law_names_here", "_law_far"]) fun _ _ _ _ _ _ us hl => match us, hl with | [_, _, _], _ => rfl
  obtain ⟨dm11, Fm11⟩ := Dm11
  have bm11 := Fm11.binds (ps := ["_law_box_here", "_law_names_here", "_law_far"]) fun _ _ _ _ _ _ us hl => match us, hl with | [_, _, _], _ => rfl
  obtain ⟨dm12, Fm12⟩ := Dm12
  have bm12 := Fm12.binds (ps := ["_law_box_here", "_law_names_here"]) fun _ _ _ _ _ _ us hl => match us, hl with | [_, _], _ => rfl
  obtain ⟨dm13, Fm13⟩ := Dm13
  have bm13 := Fm13.binds (ps := ["_law_rows_so"]) fun _ _ _ _ _ _ us hl => match us, hl with | [_], _ => rfl
  obtain ⟨dm14, Fm14⟩ := Dm14
  have bm14 := Fm14.binds (ps := ["_law_box_here", "_law_names_here", "_law_worths_here", "_law_most", "_law_some"]) fun _ _ _ _ _ _ us hl => match us, hl with | [_, _, _, _, _], _ => rfl
  obtain ⟨dm15, Fm15⟩ := Dm15
  have bm15 := Fm15.binds (ps := ["_law_numbers_so"]) fun _ _ _ _ _ _ us hl => match us, hl with | [_], _ => rfl
  obtain ⟨dm16, Fm16⟩ := Dm16
  have bm16 := Fm16.binds (ps := ["_law_box_here", "_law_names_here", "_law_rows", "_law_near"]) fun _ _ _ _ _ _ us hl => match us, hl with | [_, _, _, _], _ => rfl
  obtain ⟨dm17, Fm17⟩ := Dm17
  have bm17 := Fm17.binds (ps := ["_law_box_here", "_law_rows_so"]) fun _ _ _ _ _ _ us hl => match us, hl with | [_, _], _ => rfl
  obtain ⟨dm18, Fm18⟩ := Dm18
  have bm18 := Fm18.binds (ps := ["_law_row"]) fun _ _ _ _ _ _ us hl => match us, hl with | [_], _ => rfl
  obtain ⟨dm19, Fm19⟩ := Dm19
  have bm19 := Fm19.binds (ps := ["_law_text_so", "_law_near"]) fun _ _ _ _ _ _ us hl => match us, hl with | [_, _], _ => rfl
  obtain ⟨dxBookOf, FxBookOf⟩ := DxBookOf
  have bxBookOf := FxBookOf.binds (ps := ["cls", "text"]) fun _ _ _ _ _ _ us hl => match us, hl with | [_, _], _ => rfl
  have kxBookOf : KBinds K dxBookOf ["cls", "text"] ["text"] g1 g1 := kb_mk FxBookOf fun _ _ _ _ _ _ _ _ => rfl
  obtain ⟨dnCB, FnCB⟩ := DiCB
  have bnCB : Binds K dnCB ["self", "openings"] [] := binds_full FnCB (by simp) (fun T kV doc pm an cdv ct us hl => match us, hl with | [_, _], _ => ⟨_, rfl, fun its hi => match its, hi with | [_], _ => rfl⟩)
  obtain ⟨dc0, Fc0⟩ := Dc0
  have bc0 := Fc0.binds (ps := ["self"]) fun _ _ _ _ _ _ us hl => match us, hl with | [_], _ => rfl
  obtain ⟨dnC, FnC⟩ := DiC
  have bnC : Binds K dnC ["self", "pairs"] [] := binds_full FnC (by simp) (fun T kV doc pm an cdv ct us hl => match us, hl with | [_, _], _ => ⟨_, rfl, fun its hi => match its, hi with | [_], _ => rfl⟩)
  obtain ⟨dm20, Fm20⟩ := Dm20
  have bm20 := Fm20.binds (ps := ["pairs"]) fun _ _ _ _ _ _ us hl => match us, hl with | [_], _ => rfl
  obtain ⟨dnCO, FnCO⟩ := DiCO
  have bnCO := FnCO.binds (ps := ["self", "kind", "contents"]) fun _ _ _ _ _ _ us hl => match us, hl with | [_, _, _], _ => rfl
  obtain ⟨dc1, Fc1⟩ := Dc1
  have bc1 := Fc1.binds (ps := ["self"]) fun _ _ _ _ _ _ us hl => match us, hl with | [_], _ => rfl
  obtain ⟨dc2, Fc2⟩ := Dc2
  have bc2 := Fc2.binds (ps := ["self", "x"]) fun _ _ _ _ _ _ us hl => match us, hl with | [_, _], _ => rfl
  obtain ⟨dc3, Fc3⟩ := Dc3
  have bc3 := Fc3.binds (ps := ["self"]) fun _ _ _ _ _ _ us hl => match us, hl with | [_], _ => rfl
  obtain ⟨dc4, Fc4⟩ := Dc4
  have bc4 := Fc4.binds (ps := ["self"]) fun _ _ _ _ _ _ us hl => match us, hl with | [_], _ => rfl
  obtain ⟨dm21, Fm21⟩ := Dm21
  have bm21 := Fm21.binds (ps := ["openings"]) fun _ _ _ _ _ _ us hl => match us, hl with | [_], _ => rfl
  obtain ⟨dpOpeningContents, FpOpeningContents⟩ := DpOpeningContents
  have bpOpeningContents := FpOpeningContents.binds (ps := ["self"]) fun _ _ _ _ _ _ us hl => match us, hl with | [_], _ => rfl
  obtain ⟨dm22, Fm22⟩ := Dm22
  have bm22 := Fm22.binds (ps := ["parts"]) fun _ _ _ _ _ _ us hl => match us, hl with | [_], _ => rfl
  obtain ⟨dm23, Fm23⟩ := Dm23
  have bm23 := Fm23.binds (ps := ["parts", "kind"]) fun _ _ _ _ _ _ us hl => match us, hl with | [_, _], _ => rfl
  obtain ⟨dm24, Fm24⟩ := Dm24
  have bm24 := Fm24.binds (ps := ["line"]) fun _ _ _ _ _ _ us hl => match us, hl with | [_], _ => rfl
  obtain ⟨dm25, Fm25⟩ := Dm25
  have bm25 := Fm25.binds (ps := ["word"]) fun _ _ _ _ _ _ us hl => match us, hl with | [_], _ => rfl
  obtain ⟨dxLotOf, FxLotOf⟩ := DxLotOf
  have bxLotOf := FxLotOf.binds (ps := ["cls", "text"]) fun _ _ _ _ _ _ us hl => match us, hl with | [_, _], _ => rfl
  have kxLotOf : KBinds K dxLotOf ["cls", "text"] ["text"] g1 g1 := kb_mk FxLotOf fun _ _ _ _ _ _ _ _ => rfl
  obtain ⟨dm26, Fm26⟩ := Dm26
  have bm26 := Fm26.binds (ps := ["word"]) fun _ _ _ _ _ _ us hl => match us, hl with | [_], _ => rfl
  obtain ⟨dm27, Fm27⟩ := Dm27
  have bm27 := Fm27.binds (ps := ["_law_got", "_law_due"]) fun _ _ _ _ _ _ us hl => match us, hl with | [_, _], _ => rfl
  obtain ⟨dm28, Fm28⟩ := Dm28
  have bm28 := Fm28.binds (ps := ["_law_box_here", "_law_rows_so"]) fun _ _ _ _ _ _ us hl => match us, hl with | [_, _], _ => rfl
  obtain ⟨dc5, Fc5⟩ := Dc5
  have bc5 := Fc5.binds (ps := ["self"]) fun _ _ _ _ _ _ us hl => match us, hl with | [_], _ => rfl
  obtain ⟨dc6, Fc6⟩ := Dc6
  have bc6 := Fc6.binds (ps := ["self"]) fun _ _ _ _ _ _ us hl => match us, hl with | [_], _ => rfl
  obtain ⟨dc7, Fc7⟩ := Dc7
  have bc7 := Fc7.binds (ps := ["self"]) fun _ _ _ _ _ _ us hl => match us, hl with | [_], _ => rfl
  obtain ⟨dc8, Fc8⟩ := Dc8
  have bc8 := Fc8.binds (ps := ["self"]) fun _ _ _ _ _ _ us hl => match us, hl with | [_], _ => rfl
  obtain ⟨dc9, Fc9⟩ := Dc9
  have bc9 := Fc9.binds (ps := ["self", "other"]) fun _ _ _ _ _ _ us hl => match us, hl with | [_, _], _ => rfl
  obtain ⟨dc10, Fc10⟩ := Dc10
  have bc10 := Fc10.binds (ps := ["self", "other"]) fun _ _ _ _ _ _ us hl => match us, hl with | [_, _], _ => rfl
  obtain ⟨dm29, Fm29⟩ := Dm29
  have bm29 := Fm29.binds (ps := ["_law_box_here", "_law_names_here", "_law_lines", "_law_many_so", "_law_near"]) fun _ _ _ _ _ _ us hl => match us, hl with | [_, _, _, _, _], _ => rfl
  obtain ⟨dm30, Fm30⟩ := Dm30
  have bm30 := Fm30.binds (ps := ["_law_box_here", "_law_names_here"]) fun _ _ _ _ _ _ us hl => match us, hl with | [_, _], _ => rfl
  obtain ⟨dm31, Fm31⟩ := Dm31
  have bm31 := Fm31.binds (ps := ["_law_box_here", "_law_names_here", "_law_lines", "_law_many_so", "_law_near"]) fun _ _ _ _ _ _ us hl => match us, hl with | [_, _, _, _, _], _ => rfl
  obtain ⟨diR, FiR⟩ := DiR
  have bR : Binds K diR ["self", "ring"] [] := FiR.binds (ps := ["self", "ring"]) fun _ _ _ _ _ _ us hl => match us, hl with | [_, _], _ => rfl
  have pR : KBn K diR ["self", "ring"] 2 [] (fun us _ => us) (fun vs _ => vs) := kbn_mk FiR (fun r _ => r) fun _ _ _ _ _ _ us ws hl hw => match us, ws, hl, hw with | [_, _], [], _, _ => rfl
  have qR : KBn K diR ["self", "ring"] 1 ["ring"] (fun us ws => us ++ ws) (fun vs zs => vs ++ zs) := kbn_mk FiR (fun r s => r.append s) fun _ _ _ _ _ _ us ws hl hw => match us, ws, hl, hw with | [_], [_], _, _ => rfl
  have OR : ∀ base : Heap, E1 l.prog w K mg base CR "Ringed" "ring" := fun base => ⟨oex_mk EfR LkR, PySem.W.mg_of X G aeR, fiR, diR, aiR, tiR, ok_iRinged FiR (oex_mk EfR LkR) EfR.n4, pR, qR, bR⟩
  obtain ⟨diH, FiH⟩ := DiH
  have bH : Binds K diH ["self", "kind"] [] := FiH.binds (ps := ["self", "kind"]) fun _ _ _ _ _ _ us hl => match us, hl with | [_, _], _ => rfl
  have pH : KBn K diH ["self", "kind"] 2 [] (fun us _ => us) (fun vs _ => vs) := kbn_mk FiH (fun r _ => r) fun _ _ _ _ _ _ us ws hl hw => match us, ws, hl, hw with | [_, _], [], _, _ => rfl
  have qH : KBn K diH ["self", "kind"] 1 ["kind"] (fun us ws => us ++ ws) (fun vs zs => vs ++ zs) := kbn_mk FiH (fun r s => r.append s) fun _ _ _ _ _ _ us ws hl hw => match us, ws, hl, hw with | [_], [_], _, _ => rfl
  have OH : ∀ base : Heap, E1 l.prog w K mg base CH "Hollow" "kind" := fun base => ⟨oex_mk EfH LkH, PySem.W.mg_of X G aeH, fiH, diH, aiH, tiH, ok_iHollow FiH (oex_mk EfH LkH) EfH.n1, pH, qH, bH⟩
  obtain ⟨diL, FiL⟩ := DiL
  have bL : Binds K diL ["self", "number"] [] := FiL.binds (ps := ["self", "number"]) fun _ _ _ _ _ _ us hl => match us, hl with | [_, _], _ => rfl
  have pL : KBn K diL ["self", "number"] 2 [] (fun us _ => us) (fun vs _ => vs) := kbn_mk FiL (fun r _ => r) fun _ _ _ _ _ _ us ws hl hw => match us, ws, hl, hw with | [_, _], [], _, _ => rfl
  have qL : KBn K diL ["self", "number"] 1 ["number"] (fun us ws => us ++ ws) (fun vs zs => vs ++ zs) := kbn_mk FiL (fun r s => r.append s) fun _ _ _ _ _ _ us ws hl hw => match us, ws, hl, hw with | [_], [_], _, _ => rfl
  have OL : ∀ base : Heap, E1 l.prog w K mg base CL "BadLine" "number" := fun base => ⟨oex_mk EfL LkL, PySem.W.mg_of X G aeL, fiL, diL, aiL, tiL, ok_iBadLine FiL (oex_mk EfL LkL) EfL.n5, pL, qL, bL⟩
  have GL : GlS mg := ⟨⟨_, PySem.W.mg_of X G auLETTERS, ruLETTERS⟩, ⟨_, PySem.W.mg_of X G auDIGITS, ruDIGITS⟩, ⟨_, PySem.W.mg_of X G auLONGEST_KIND, ruLONGEST_KIND⟩, ⟨_, PySem.W.mg_of X G auMOST_DIGITS, ruMOST_DIGITS⟩⟩
  have Lo : TxL K C := ⟨KC.oc, nC_many⟩
  have O : TxO K CO := ⟨KCO.oc, nCO_kind, nCO_pairs⟩
  have B : TxB K CB := ⟨KCB.oc, nCB_openings, nCB_parts⟩
  have nCO : C ≠ CO := fun z => by rw [z] at ncc; simp at ncc
  have SI : TxOI K mg C CO := ⟨gCO, KCO.ha, hn, ht, KCO.hm, kit_cls KCO.ic KCO.ty (ref_type ..) KCO.st, kit_cls KCO.ic KCO.ty (ref_type ..) KCO.ss, kit_cls KCO.ic KCO.ty (beq_eq_false_iff_ne.mpr fun z => nCO (Value.ref.inj z)) sCO⟩
  have SB : TxBI K mg CB := ⟨gCB, KCB.ha, hn, ht, KCB.hm, kit_cls KCB.ic KCB.ty (ref_type ..) KCB.si⟩
  have nLR : CL ≠ CR := fun z => by rw [z] at ne; simp at ne
  have nLH : CL ≠ CH := fun z => by rw [z] at ne; simp at ne
  have TB : TxBt K mg CN := ⟨PySem.W.mg_of X G aeN, xeN, EfN.kp, by rw [LkN.sub, con_type]; decide +kernel, EfN.ty⟩
  have mN : PySem.W.exmOne K (.ref CN) (.ref CN) = some true := by
    refine PySem.W.exm_ref (by rw [LkN.sub, con_type]; decide +kernel) LkN.dict EfN.ty ?_
    rw [LkN.sub, con_ref _ _ _ (by decide +kernel), decide_eq_true rfl]
  have Y : TxR3 K mg CL CR CH := by
    refine ⟨PySem.W.mg_of X G aeL, PySem.W.mg_of X G aeR, PySem.W.mg_of X G aeH, PySem.W.mg_none_of X G z_ValueError, PySem.W.exm_ref (by rw [LkL.sub, con_type]; decide +kernel) LkL.dict EfL.ty ?_, PySem.W.exm_ref (by rw [LkL.sub, con_type]; decide +kernel) LkL.dict EfL.ty ?_, PySem.W.exm_ref (by rw [LkR.sub, con_type]; decide +kernel) LkR.dict EfR.ty ?_, exC_mk EfL LkL hn ht (by decide +kernel) (by decide +kernel), exC_mk EfR LkR hn ht (by decide +kernel) (by decide +kernel), xfC_mk EfL LkL (by decide +kernel), xfC_mk EfR LkR (by decide +kernel), ?_, ?_, ?_, EfL.n5, EfR.n4⟩
    · rw [LkL.sub, con_ref _ _ _ (by decide +kernel), decide_eq_true rfl]
    · rw [LkR.sub, con_ref _ _ _ (by decide +kernel), decide_eq_false (fun z => nLR z.symm)]
    · rw [LkR.sub, con_ref _ _ _ (by decide +kernel), decide_eq_true rfl]
    · rw [kit_type LkL (by decide +kernel)]; decide +kernel
    · rw [kit_ref LkL LkH EfH (by decide +kernel), decide_eq_false nLH]
    · rw [kit_ref LkR LkL EfL (by decide +kernel), decide_eq_false (Ne.symm nLR)]
  refine ⟨dm0, fun s v => ?_, fun base _ _ => ?_⟩
  · obtain ⟨oc, od, kV, doc, pm, an, cdv, ct, osl, rfl, lk, hcd⟩ := Fm0.ex
    exact .of_eq rfl
  have V1 : Cal l.prog w K mg base CX0 1 "_law_cells" ["_law_script", "_law_most_so"] (spCells K) := ⟨_, _, ok_cells Fm1 T, PySem.W.mg_of X G am1, Fm1.kp, bm1⟩
  have V2 : Cal l.prog w K mg base CX0 1 "_law_box" ["_law_script", "_law_k"] (spBox K) := ⟨_, _, ok_box Fm2 T, PySem.W.mg_of X G am2, Fm2.kp, bm2⟩
  have V3 : Cal l.prog w K mg base CX0 1 "_law_take" ["_law_box_here", "_law_below"] spTake := ⟨_, _, ok_take Fm5 T, PySem.W.mg_of X G am5, Fm5.kp, bm5⟩
  have V4 : Cal l.prog w K mg base CX0 2 "_law_of" ["_law_box_here", "_law_some"] spOf := ⟨_, _, ok_of Fm6 T V3, PySem.W.mg_of X G am6, Fm6.kp, bm6⟩
  have V5 : Cal l.prog w K mg base CX0 3 "_law_names" ["_law_box_here", "_law_some"] spNames := ⟨_, _, ok_names Fm4 T V3 V4, PySem.W.mg_of X G am4, Fm4.kp, bm4⟩
  have V6 : Cal l.prog w K mg base CX0 1 "_law_rising" ["_law_rows_so"] (spRising K) := ⟨_, _, ok_rising Fm9 T, PySem.W.mg_of X G am9, Fm9.kp, bm9⟩
  have V7 : Cal l.prog w K mg base CX0 2 "_law_tree" ["_law_box_here", "_law_names_here", "_law_far"] (spDraw id) := ⟨_, _, ok_tree Fm8 T V3 V6, PySem.W.mg_of X G am8, Fm8.kp, bm8⟩
  have V8 : Cal l.prog w K mg base CX0 2 "_law_ways" ["_law_box_here", "_law_names_here", "_law_far"] (spDraw id) := ⟨_, _, ok_ways Fm10 T V3 V6, PySem.W.mg_of X G am10, Fm10.kp, bm10⟩
  have V9 : Cal l.prog w K mg base CX0 2 "_law_single" ["_law_box_here", "_law_names_here", "_law_far"] (spDraw id) := ⟨_, _, ok_single Fm11 T V3 V6, PySem.W.mg_of X G am11, Fm11.kp, bm11⟩
  have V10 : Cal l.prog w K mg base CX0 3 "_law_any" ["_law_box_here", "_law_names_here", "_law_far"] spAny := ⟨_, _, ok_any Fm7 T V3 V7 V8 V9, PySem.W.mg_of X G am7, Fm7.kp, bm7⟩
  have V11 : Cal l.prog w K mg base CX0 1 "_law_worths" ["_law_rows_so"] (spWorths K) := ⟨_, _, ok_worths Fm13 T, PySem.W.mg_of X G am13, Fm13.kp, bm13⟩
  have V12 : Cal l.prog w K mg base CX0 2 "_law_pairs" ["_law_numbers_so"] spPairs := ⟨_, _, ok_pairs Fm15 T V6, PySem.W.mg_of X G am15, Fm15.kp, bm15⟩
  have V13 : Cal l.prog w K mg base CX0 3 "_law_pieces" ["_law_box_here", "_law_names_here", "_law_worths_here", "_law_most", "_law_some"] spPieces := ⟨_, _, ok_pieces Fm14 T V4 V12, PySem.W.mg_of X G am14, Fm14.kp, bm14⟩
  have V14 : Cal l.prog w K mg base CX0 4 "_law_small" ["_law_box_here", "_law_names_here"] spSmall := ⟨_, _, ok_small Fm12 T V3 V11 V13, PySem.W.mg_of X G am12, Fm12.kp, bm12⟩
  have V15 : Cal l.prog w K mg base CX0 1 "_law_rising" ["_law_rows_so"] (spRisingD K) := ⟨_, _, ok_risingD Fm9 T, PySem.W.mg_of X G am9, Fm9.kp, bm9⟩
  have V16 : Cal l.prog w K mg base CX0 2 "_law_mixed" ["_law_box_here", "_law_rows_so"] (spMixedL K) := ⟨_, _, ok_mixedL Fm17 T V3, PySem.W.mg_of X G am17, Fm17.kp, bm17⟩
  have V17 : Cal l.prog w K mg base CX0 1 "_law_line" ["_law_row"] spLine := ⟨_, _, ok_line Fm18 T, PySem.W.mg_of X G am18, Fm18.kp, bm18⟩
  have V18 : OCal l.prog w K mg base CX0 1 CO "place" ["self"] (spOpPlace CO) := ⟨_, _, ok_opPlace Fc0 O, ac0, ic0, Fc0.kp, nc0, bc0⟩
  have V19 : Cal l.prog w K mg base CX0 1 "_counted" ["pairs"] (spOwnCountedT K) := ⟨_, _, ok_ownCountedT Fm20 T, PySem.W.mg_of X G am20, Fm20.kp, bm20⟩
  have V20 : OMk l.prog w K mg base CX0 2 C "Lot" ["self", "pairs"] (spLotInitT K C) := ⟨_, _, ⟨KC.mC, aiC, iiC, KC.kc⟩, ok_lotInitT FnC Lo V19, gC, bnC⟩
  have V21 : OCal l.prog w K mg base CX0 1 C "__len__" ["self"] (spLotLen C) := ⟨_, _, ok_lotLen Fc1 T Lo, ac1, ic1, Fc1.kp, nc1, bc1⟩
  have V22 : OCal l.prog w K mg base CX0 1 C "__contains__" ["self", "x"] (spLotContains C) := ⟨_, _, ok_lotContains Fc2 Lo, ac2, ic2, Fc2.kp, nc2, bc2⟩
  have V23 : OCal l.prog w K mg base CX0 1 C "kinds" ["self"] (spLotKinds C) := ⟨_, _, ok_lotKinds Fc4 T Lo, ac4, ic4, Fc4.kp, nc4, bc4⟩
  have V24 : OCal l.prog w K mg base CX0 2 C "pairs" ["self"] (spLotPairs C) := ⟨_, _, ok_lotPairs Fc3 T Lo V23, ac3, ic3, Fc3.kp, nc3, bc3⟩
  have V25 : OMk l.prog w K mg base CX0 3 CO "Opening" ["self", "kind", "contents"] (spOpInit C CO) := ⟨_, _, ⟨KCO.mC, aiCO, iiCO, KCO.kc⟩, ok_opInit FnCO T Lo O V21 V22 V24, gCO, bnCO⟩
  have V26 : OPr l.prog w K mg base CX0 4 CO "contents" (spOpContents C CO) := ⟨_, _, _, ⟨apOpeningContents, gpOpeningContents, tpOpeningContents, ⟨_, rpOpeningContents⟩⟩, ok_opContents FpOpeningContents O V20, bpOpeningContents⟩
  have V27 : Cal l.prog w K mg base CX0 6 "_parts_of" ["openings"] (spPartsOf CO) := ⟨_, _, ok_partsOf Fm21 T Lo O V26 V23, PySem.W.mg_of X G am21, Fm21.kp, bm21⟩
  have V28 : Cal l.prog w K mg base CX0 1 "_holding" ["parts", "kind"] spHolding := ⟨_, _, ok_holding Fm23 T, PySem.W.mg_of X G am23, Fm23.kp, bm23⟩
  have V29 : Cal l.prog w K mg base CX0 2 "_ring" ["parts"] spRing0 := ⟨_, _, ok_ring0 Fm22 T V28, PySem.W.mg_of X G am22, Fm22.kp, bm22⟩
  obtain ⟨dsV30, rdsV30, bdsV30⟩ := bindsD FnCB fun T kV doc pm an cdv ct u v => ⟨_, rfl, rfl⟩
  have V30 : OMkD l.prog w K mg base CX0 7 CB ["self", "openings"] [.ref t0CB] (spBookInit K CO CB) := ⟨_, _, dsV30, ⟨KCB.mC, aiCB, iiCB, KCB.kc⟩, ok_bookInit FnCB T Lo O B V18 V20 V25 V27 V29, bdsV30, rdsV30⟩
  have V31 : Cal l.prog w K mg base CX0 2 "_ring" ["parts"] spRing := ⟨_, _, ok_ring Fm22 T V28, PySem.W.mg_of X G am22, Fm22.kp, bm22⟩
  have V32 : OMk l.prog w K mg base (CX l.prog w) 7 CB "Book" ["self", "openings"] (spBookInitX K CO CB CR) := ⟨_, _, ⟨KCB.mC, aiCB, iiCB, KCB.kc⟩, ok_bookInitX FnCB T Lo O B (OR base) V18 V20 V25 V27 V31, gCB, bnCB⟩
  have V33 : OMk l.prog w K mg base (CX l.prog w) 3 CO "Opening" ["self", "kind", "contents"] (spOpInitX C CO CH CR) := ⟨_, _, ⟨KCO.mC, aiCO, iiCO, KCO.kc⟩, ok_opInitX FnCO T Lo O (OH base) (OR base) V21 V22 V24, gCO, bnCO⟩
  have V34 : Cal l.prog w K mg base CX0 1 "is_kind" ["word"] spIsKind := ⟨_, _, ok_isKind Fm25 T GL, PySem.W.mg_of X G am25, Fm25.kp, bm25⟩
  have V35 : Cal l.prog w K mg base CX0 1 "_counted" ["pairs"] (spOwnCounted K) := ⟨_, _, ok_ownCounted Fm20 T, PySem.W.mg_of X G am20, Fm20.kp, bm20⟩
  have V36 : OMk l.prog w K mg base CX0 2 C "Lot" ["self", "pairs"] (spLotInit K C) := ⟨_, _, ⟨KC.mC, aiC, iiC, KC.kc⟩, ok_lotInit FnC Lo V35, gC, bnC⟩
  obtain ⟨dsV37, rdsV37, bdsV37⟩ := bindsD FnC fun T kV doc pm an cdv ct u v => ⟨_, rfl, rfl⟩
  have V37 : OMkD l.prog w K mg base CX0 2 C ["self", "pairs"] [.ref t0C] (spLotInitT K C) := ⟨_, _, dsV37, ⟨KC.mC, aiC, iiC, KC.kc⟩, ok_lotInitT FnC Lo V19, bdsV37, rdsV37⟩
  have V38 : Cal l.prog w K mg base CX0 1 "_is_many" ["word"] spIsMany := ⟨_, _, ok_isMany Fm26 T GL, PySem.W.mg_of X G am26, Fm26.kp, bm26⟩
  have V39 : CCal l.prog w K mg base (CX l.prog w) 4 C "of" ["cls", "text"] ["text"] (spLotOf C CN) := ⟨_, _, _, (.type "type"), ok_lotOf FxLotOf T Lo TB V36 V37 S0C V34 V38, ⟨rdC, grC⟩, ⟨cfLotOf, ⟨_, crLotOf⟩, cnLotOf⟩, bxLotOf, kxLotOf⟩
  have V40 : Cal l.prog w K mg base CX0 5 "_read_line" ["line"] (spReadLine C) := ⟨_, _, ok_readLine Fm24 T TB gC mN V34 V39, PySem.W.mg_of X G am24, Fm24.kp, bm24⟩
  have V41 : CCal l.prog w K mg base (CX l.prog w) 9 CB "of" ["cls", "text"] ["text"] (spBookOf CO CB CR CL) := ⟨_, _, _, (.type "type"), ok_bookOf FxBookOf T Lo O B (OL base) V30 S0CB V32 V33 V40, ⟨rdCB, grCB⟩, ⟨cfBookOf, ⟨_, crBookOf⟩, cnBookOf⟩, bxBookOf, kxBookOf⟩
  have V42 : Cal l.prog w K mg base CX0 10 "_law_read" ["_law_text_so", "_law_near"] (spRead CO CB) := ⟨_, _, ok_read Fm19 T Y gCB V41, PySem.W.mg_of X G am19, Fm19.kp, bm19⟩
  have V43 : Cal l.prog w K mg base CX0 0 "_law_same" ["_law_got", "_law_due"] (spSame K 0) := ⟨_, _, same0, PySem.W.mg_of X G am27, Fm27.kp, bm27⟩
  have V44 : Cal l.prog w K mg base CX0 1 "_law_same" ["_law_got", "_law_due"] (spSame K 1) := ⟨_, _, ok_same Fm27 T 0 V43, PySem.W.mg_of X G am27, Fm27.kp, bm27⟩
  have V45 : Cal l.prog w K mg base CX0 2 "_law_same" ["_law_got", "_law_due"] (spSame K 2) := ⟨_, _, ok_same Fm27 T 1 V44, PySem.W.mg_of X G am27, Fm27.kp, bm27⟩
  have V46 : Cal l.prog w K mg base CX0 3 "_law_same" ["_law_got", "_law_due"] (spSame K 3) := ⟨_, _, ok_same Fm27 T 2 V45, PySem.W.mg_of X G am27, Fm27.kp, bm27⟩
  have V47 : Cal l.prog w K mg base CX0 4 "_law_same" ["_law_got", "_law_due"] (spSame K 4) := ⟨_, _, ok_same Fm27 T 3 V46, PySem.W.mg_of X G am27, Fm27.kp, bm27⟩
  have V48 : Cal l.prog w K mg base CX0 5 "_law_same" ["_law_got", "_law_due"] (spSame K 5) := ⟨_, _, ok_same Fm27 T 4 V47, PySem.W.mg_of X G am27, Fm27.kp, bm27⟩
  have V49 : Cal l.prog w K mg base CX0 6 "_law_same" ["_law_got", "_law_due"] (spSame K 6) := ⟨_, _, ok_same Fm27 T 5 V48, PySem.W.mg_of X G am27, Fm27.kp, bm27⟩
  have V50 : Cal l.prog w K mg base CX0 2 "_law_mixed" ["_law_box_here", "_law_rows_so"] (spMixed K) := ⟨_, _, ok_mixed Fm17 T V3, PySem.W.mg_of X G am17, Fm17.kp, bm17⟩
  have V51 : OMk l.prog w K mg base CX0 7 CB "Book" ["self", "openings"] (spBookInit K CO CB) := ⟨_, _, ⟨KCB.mC, aiCB, iiCB, KCB.kc⟩, ok_bookInit FnCB T Lo O B V18 V20 V25 V27 V29, gCB, bnCB⟩
  have V52 : Cal l.prog w K mg base CX0 9 "_law_made" ["_law_box_here", "_law_rows_so"] (spMade CO CB) := ⟨_, _, ok_made Fm28 V16 V50 V36 V25 V51, PySem.W.mg_of X G am28, Fm28.kp, bm28⟩
  have V53 : OCal l.prog w K mg base CX0 1 CB "__len__" ["self"] (spBookLen CO CB) := ⟨_, _, ok_bookLen Fc6 T B, ac6, ic6, Fc6.kp, nc6, bc6⟩
  have V54 : OCal l.prog w K mg base CX0 3 C "text" ["self"] (spLotText C) := ⟨_, _, ok_lotText Fc8 T Lo V24 V21, ac8, ic8, Fc8.kp, nc8, bc8⟩
  have V55 : OCal l.prog w K mg base CX0 6 CO "text" ["self"] (spOpText CO) := ⟨_, _, ok_opText Fc7 T Lo O V54 V26, ac7, ic7, Fc7.kp, nc7, bc7⟩
  have V56 : OCal l.prog w K mg base CX0 7 CB "text" ["self"] (spBookText CO CB) := ⟨_, _, ok_bookText Fc5 T O B V53 V55, ac5, ic5, Fc5.kp, nc5, bc5⟩
  have V57 : OCal l.prog w K mg base CX0 2 CO "__eq__" ["self", "other"] (spOpEq CO) := ⟨_, _, ok_opEq Fc10 T O SI V18, ac10, ic10, Fc10.kp, nc10, bc10⟩
  have V58 : OCal l.prog w K mg base CX0 4 CB "__eq__" ["self", "other"] (spBookEq CO CB) := ⟨_, _, ok_bookEq Fc9 T B SB V57, ac9, ic9, Fc9.kp, nc9, bc9⟩
  have V59 : Cal l.prog w K mg base CX0 11 "_law_read_back" ["_law_box_here", "_law_names_here", "_law_rows", "_law_near"] spReadBack := ⟨_, _, ok_readBack Fm16 T O B hne KCB.hm V15 V16 V3 V17 V42 V49 V52 V56 V58, PySem.W.mg_of X G am16, Fm16.kp, bm16⟩
  have V60 : Cal l.prog w K mg base CX0 3 "_law_bad" ["_law_box_here", "_law_names_here"] spBad := ⟨_, _, ok_bad Fm30 T V15 V4, PySem.W.mg_of X G am30, Fm30.kp, bm30⟩
  have V61 : Cal l.prog w K mg base CX0 11 "_law_ringed_right" ["_law_box_here", "_law_names_here", "_law_lines", "_law_many_so", "_law_near"] (spRinged CO CB) := ⟨_, _, ok_ringed Fm31 T V16 V3 V42, PySem.W.mg_of X G am31, Fm31.kp, bm31⟩
  have V62 : Cal l.prog w K mg base CX0 12 "_law_bad_right" ["_law_box_here", "_law_names_here", "_law_lines", "_law_many_so", "_law_near"] spBadRight := ⟨_, _, ok_badRight Fm29 T V3 V4 V60 V42 V49 V61, PySem.W.mg_of X G am29, Fm29.kp, bm29⟩
  have V63 : Cal l.prog w K mg base CX0 13 "_law_right" ["_law_box_here"] spRightT := ⟨_, _, ok_rightT Fm3 T V5 V3 V4 V10 V14 V59 V62 V42 V49, PySem.W.mg_of X G am3, Fm3.kp, bm3⟩
  exact ok_law Fm0 T V1 V2 V63
theorem walk {l : PySem.W.OpenLaw} {q : Program} {loose : List Str} {XP : (Str → Option Value) → Heap → Prop} {YP : World → Heap → Prop} {d : DefRec} {K : Params → PySem.W.Frag} (hn : l.most = some 63) (hdf : d.params.defaults = [])
    (hY : ∀ (w : World) (h : Heap), YP w h → (K w.params).In h)
    (F : ∀ (w : World) (mg : Str → Option Value) (fa : Addr) (h : Heap), (K w.params).In h → h.Ns mainGlobals mg → mg d.name = some (.ref fa) →
      ∃ fd : FuncData, (∀ (s : Shared) (u : Value), BindsTo s fd ⟨[u], []⟩ [("_law_script", u)]) ∧ ∀ base : Heap, (K w.params).In base → base.Ns mainGlobals mg → FnOk l.prog w (K w.params) mg base CX0 14 fa fd ["_law_script"] (spLaw (K w.params))) :
    PySem.W.WalkO q loose XP YP l.row.toRowW d [] (fun f vs => PySem.call f vs) :=
  L2.walk_of (n := 63) (k := 14) (x := "_law_script") (CX := fun _ => CX0) (sp := fun w => spLaw (K w.params)) hn (by decide) hdf ⟨rfl, by decide, by decide⟩ hY F (fun _ _ a ns hl _ hS => ⟨a, ns, rfl, hS, hl, fun _ => rfl⟩) fun _ _ _ _ _ z => z
end My
open PySem PySem.W PyProof.Rows
set_option maxHeartbeats 0 in
theorem PySem.Challenge.cw_onceopened_k54_books_as_texts_holds : PySem.Challenge.rw_onceopened_k54_books_as_texts.Holds := by
  w_on
  o_law
  k_head
  (case hw => w_witness2)
  k_fill
  refine My.walk (l := PySem.Challenge.rw_onceopened_k54_books_as_texts) rfl rfl (fun w h Y => PySem.W.kIn_of Y) ?F
  case F =>
    intro w mg fa h KX G hmg
    refine' My.all_mk KX G hmg ?aC ?KC ?nC_many ?aCO ?KCO ?nCO_kind ?nCO_pairs ?aCB ?KCB ?nCB_openings ?nCB_parts ?am0 ?Dm0 ?am1 ?Dm1 ?am2 ?Dm2 ?am3 ?Dm3 ?am4 ?Dm4 ?am5 ?Dm5 ?am6 ?Dm6 ?am7 ?Dm7 ?am8 ?Dm8 ?am9 ?Dm9 ?am10 ?Dm10 ?am11 ?Dm11 ?am12 ?Dm12 ?am13 ?Dm13 ?am14 ?Dm14 ?am15 ?Dm15 ?am16 ?Dm16 ?am17 ?Dm17 ?am18 ?Dm18 ?am19 ?Dm19 ?rdCB ?grCB ?cfBookOf ?crBookOf ?cnBookOf ?DxBookOf ?aiCB ?iiCB ?DiCB ?S0CB ?ac0 ?ic0 ?nc0 ?Dc0 ?aiC ?iiC ?DiC ?S0C ?am20 ?Dm20 ?aiCO ?iiCO ?DiCO ?ac1 ?ic1 ?nc1 ?Dc1 ?ac2 ?ic2 ?nc2 ?Dc2 ?ac3 ?ic3 ?nc3 ?Dc3 ?ac4 ?ic4 ?nc4 ?Dc4 ?am21 ?Dm21 ?apOpeningContents ?rpOpeningContents ?gpOpeningContents ?tpOpeningContents ?DpOpeningContents ?am22 ?Dm22 ?am23 ?Dm23 ?am24 ?Dm24 ?am25 ?Dm25 ?rdC ?grC ?cfLotOf ?crLotOf ?cnLotOf ?DxLotOf ?am26 ?Dm26 ?am27 ?Dm27 ?am28 ?Dm28 ?ac5 ?ic5 ?nc5 ?Dc5 ?ac6 ?ic6 ?nc6 ?Dc6 ?ac7 ?ic7 ?nc7 ?Dc7 ?ac8 ?ic8 ?nc8 ?Dc8 ?ac9 ?ic9 ?nc9 ?Dc9 ?ac10 ?ic10 ?nc10 ?Dc10 ?am29 ?Dm29 ?am30 ?Dm30 ?am31 ?Dm31 ?aeR ?EfR ?LkR ?aiR ?tiR ?DiR ?aeH ?EfH ?LkH ?aiH ?tiH ?DiH ?aeL ?EfL ?LkL ?aiL ?tiL ?DiL ?aeN ?EfN ?LkN ?xeN ?ne ?sCO ?ncc ?hne ?hn ?ht ?z_int ?z_len ?z_abs ?z_list ?z_tuple ?z_range ?z_enumerate ?z_isinstance ?z_all ?z_zip ?z_dict ?z_bool ?z_str ?z_set ?z_sorted ?z_min ?z_sum ?z_ValueError ?auLETTERS ?ruLETTERS ?auDIGITS ?ruDIGITS ?auLONGEST_KIND ?ruLONGEST_KIND ?auMOST_DIGITS ?ruMOST_DIGITS
    (case aC => k_is)
    (case aCO => k_is)
    (case aCB => k_is)
    (case am0 => k_is)
    (case am1 => k_is)
    (case am2 => k_is)
    (case am3 => k_is)
    (case am4 => k_is)
    (case am5 => k_is)
    (case am6 => k_is)
    (case am7 => k_is)
    (case am8 => k_is)
    (case am9 => k_is)
    (case am10 => k_is)
    (case am11 => k_is)
    (case am12 => k_is)
    (case am13 => k_is)
    (case am14 => k_is)
    (case am15 => k_is)
    (case am16 => k_is)
    (case am17 => k_is)
    (case am18 => k_is)
    (case am19 => k_is)
    (case am20 => k_is)
    (case am21 => k_is)
    (case am22 => k_is)
    (case am23 => k_is)
    (case am24 => k_is)
    (case am25 => k_is)
    (case am26 => k_is)
    (case am27 => k_is)
    (case am28 => k_is)
    (case am29 => k_is)
    (case am30 => k_is)
    (case am31 => k_is)
    (case aeR => k_is)
    (case aeH => k_is)
    (case aeL => k_is)
    (case aeN => k_is)
    (case auLETTERS => k_is)
    (case auDIGITS => k_is)
    (case auLONGEST_KIND => k_is)
    (case auMOST_DIGITS => k_is)
    (case cfBookOf => k_is)
    (case crBookOf => k_is)
    (case aiCB => k_is)
    (case ac0 => k_is)
    (case aiC => k_is)
    (case aiCO => k_is)
    (case ac1 => k_is)
    (case ac2 => k_is)
    (case ac3 => k_is)
    (case ac4 => k_is)
    (case apOpeningContents => k_is)
    (case rpOpeningContents => k_is)
    (case cfLotOf => k_is)
    (case crLotOf => k_is)
    (case ac5 => k_is)
    (case ac6 => k_is)
    (case ac7 => k_is)
    (case ac8 => k_is)
    (case ac9 => k_is)
    (case ac10 => k_is)
    (case aiR => k_is)
    (case aiH => k_is)
    (case aiL => k_is)
    (case KC => (refine' ⟨?_, ?_, ?_, ?_, ?_, ?_, ?_, ?_, ?_, ?_, ?_, ?_, ?_, ?_, ?_, ?_⟩ <;> k_is))
    (case nC_many => k_is)
    (case KCO => (refine' ⟨?_, ?_, ?_, ?_, ?_, ?_, ?_, ?_, ?_, ?_, ?_, ?_, ?_, ?_, ?_, ?_⟩ <;> k_is))
    (case nCO_kind => k_is)
    (case nCO_pairs => k_is)
    (case KCB => (refine' ⟨?_, ?_, ?_, ?_, ?_, ?_, ?_, ?_, ?_, ?_, ?_, ?_, ?_, ?_, ?_, ?_⟩ <;> k_is))
    (case nCB_openings => k_is)
    (case nCB_parts => k_is)
    (case Dm0 => (refine' My.funF ?l ?c ?k; (case l => k_is); (case c => k_is); (case k => k_is)))
    (case Dm1 => (refine' My.funF ?l ?c ?k; (case l => k_is); (case c => k_is); (case k => k_is)))
    (case Dm2 => (refine' My.funF ?l ?c ?k; (case l => k_is); (case c => k_is); (case k => k_is)))
    (case Dm3 => (refine' My.funF ?l ?c ?k; (case l => k_is); (case c => k_is); (case k => k_is)))
    (case Dm4 => (refine' My.funF ?l ?c ?k; (case l => k_is); (case c => k_is); (case k => k_is)))
    (case Dm5 => (refine' My.funF ?l ?c ?k; (case l => k_is); (case c => k_is); (case k => k_is)))
    (case Dm6 => (refine' My.funF ?l ?c ?k; (case l => k_is); (case c => k_is); (case k => k_is)))
    (case Dm7 => (refine' My.funF ?l ?c ?k; (case l => k_is); (case c => k_is); (case k => k_is)))
    (case Dm8 => (refine' My.funF ?l ?c ?k; (case l => k_is); (case c => k_is); (case k => k_is)))
    (case Dm9 => (refine' My.funF ?l ?c ?k; (case l => k_is); (case c => k_is); (case k => k_is)))
    (case Dm10 => (refine' My.funF ?l ?c ?k; (case l => k_is); (case c => k_is); (case k => k_is)))
    (case Dm11 => (refine' My.funF ?l ?c ?k; (case l => k_is); (case c => k_is); (case k => k_is)))
    (case Dm12 => (refine' My.funF ?l ?c ?k; (case l => k_is); (case c => k_is); (case k => k_is)))
    (case Dm13 => (refine' My.funF ?l ?c ?k; (case l => k_is); (case c => k_is); (case k => k_is)))
    (case Dm14 => (refine' My.funF ?l ?c ?k; (case l => k_is); (case c => k_is); (case k => k_is)))
    (case Dm15 => (refine' My.funF ?l ?c ?k; (case l => k_is); (case c => k_is); (case k => k_is)))
    (case Dm16 => (refine' My.funF ?l ?c ?k; (case l => k_is); (case c => k_is); (case k => k_is)))
    (case Dm17 => (refine' My.funF ?l ?c ?k; (case l => k_is); (case c => k_is); (case k => k_is)))
    (case Dm18 => (refine' My.funF ?l ?c ?k; (case l => k_is); (case c => k_is); (case k => k_is)))
    (case Dm19 => (refine' My.funF ?l ?c ?k; (case l => k_is); (case c => k_is); (case k => k_is)))
    (case rdCB => k_is)
    (case grCB => k_is)
    (case cnBookOf => k_is)
    (case DxBookOf => (refine' My.funF ?l ?c ?k; (case l => k_is); (case c => k_is); (case k => k_is)))
    (case iiCB => k_is)
    (case DiCB => (refine' My.funDF ?l ?c ?t ?k; (case l => k_is); (case c => k_is); (case t => k_is); (case k => k_is)))
    (case S0CB => (refine' My.sq0 ?l; (case l => k_is)))
    (case ic0 => k_is)
    (case nc0 => k_is)
    (case Dc0 => (refine' My.funF ?l ?c ?k; (case l => k_is); (case c => k_is); (case k => k_is)))
    (case iiC => k_is)
    (case DiC => (refine' My.funDF ?l ?c ?t ?k; (case l => k_is); (case c => k_is); (case t => k_is); (case k => k_is)))
    (case S0C => (refine' My.sq0 ?l; (case l => k_is)))
    (case Dm20 => (refine' My.funF ?l ?c ?k; (case l => k_is); (case c => k_is); (case k => k_is)))
    (case iiCO => k_is)
    (case DiCO => (refine' My.funF ?l ?c ?k; (case l => k_is); (case c => k_is); (case k => k_is)))
    (case ic1 => k_is)
    (case nc1 => k_is)
    (case Dc1 => (refine' My.funF ?l ?c ?k; (case l => k_is); (case c => k_is); (case k => k_is)))
    (case ic2 => k_is)
    (case nc2 => k_is)
    (case Dc2 => (refine' My.funF ?l ?c ?k; (case l => k_is); (case c => k_is); (case k => k_is)))
    (case ic3 => k_is)
    (case nc3 => k_is)
    (case Dc3 => (refine' My.funF ?l ?c ?k; (case l => k_is); (case c => k_is); (case k => k_is)))
    (case ic4 => k_is)
    (case nc4 => k_is)
    (case Dc4 => (refine' My.funF ?l ?c ?k; (case l => k_is); (case c => k_is); (case k => k_is)))
    (case Dm21 => (refine' My.funF ?l ?c ?k; (case l => k_is); (case c => k_is); (case k => k_is)))
    (case gpOpeningContents => k_is)
    (case tpOpeningContents => k_is)
    (case DpOpeningContents => (refine' My.funF ?l ?c ?k; (case l => k_is); (case c => k_is); (case k => k_is)))
    (case Dm22 => (refine' My.funF ?l ?c ?k; (case l => k_is); (case c => k_is); (case k => k_is)))
    (case Dm23 => (refine' My.funF ?l ?c ?k; (case l => k_is); (case c => k_is); (case k => k_is)))
    (case Dm24 => (refine' My.funF ?l ?c ?k; (case l => k_is); (case c => k_is); (case k => k_is)))
    (case Dm25 => (refine' My.funF ?l ?c ?k; (case l => k_is); (case c => k_is); (case k => k_is)))
    (case rdC => k_is)
    (case grC => k_is)
    (case cnLotOf => k_is)
    (case DxLotOf => (refine' My.funF ?l ?c ?k; (case l => k_is); (case c => k_is); (case k => k_is)))
    (case Dm26 => (refine' My.funF ?l ?c ?k; (case l => k_is); (case c => k_is); (case k => k_is)))
    (case Dm27 => (refine' My.funF ?l ?c ?k; (case l => k_is); (case c => k_is); (case k => k_is)))
    (case Dm28 => (refine' My.funF ?l ?c ?k; (case l => k_is); (case c => k_is); (case k => k_is)))
    (case ic5 => k_is)
    (case nc5 => k_is)
    (case Dc5 => (refine' My.funF ?l ?c ?k; (case l => k_is); (case c => k_is); (case k => k_is)))
    (case ic6 => k_is)
    (case nc6 => k_is)
    (case Dc6 => (refine' My.funF ?l ?c ?k; (case l => k_is); (case c => k_is); (case k => k_is)))
    (case ic7 => k_is)
    (case nc7 => k_is)
    (case Dc7 => (refine' My.funF ?l ?c ?k; (case l => k_is); (case c => k_is); (case k => k_is)))
    (case ic8 => k_is)
    (case nc8 => k_is)
    (case Dc8 => (refine' My.funF ?l ?c ?k; (case l => k_is); (case c => k_is); (case k => k_is)))
    (case ic9 => k_is)
    (case nc9 => k_is)
    (case Dc9 => (refine' My.funF ?l ?c ?k; (case l => k_is); (case c => k_is); (case k => k_is)))
    (case ic10 => k_is)
    (case nc10 => k_is)
    (case Dc10 => (refine' My.funF ?l ?c ?k; (case l => k_is); (case c => k_is); (case k => k_is)))
    (case Dm29 => (refine' My.funF ?l ?c ?k; (case l => k_is); (case c => k_is); (case k => k_is)))
    (case Dm30 => (refine' My.funF ?l ?c ?k; (case l => k_is); (case c => k_is); (case k => k_is)))
    (case Dm31 => (refine' My.funF ?l ?c ?k; (case l => k_is); (case c => k_is); (case k => k_is)))
    (case EfR => (refine' ⟨?_, ?_, ?_, ?_, ?_, ?_, ?_, ?_, ?_, ?_, ?_⟩ <;> k_is))
    (case LkR => (refine' My.lk_mk (x := ?x); (case x => k_is)))
    (case tiR => k_is)
    (case DiR => (refine' My.funF ?l ?c ?k; (case l => k_is); (case c => k_is); (case k => k_is)))
    (case EfH => (refine' ⟨?_, ?_, ?_, ?_, ?_, ?_, ?_, ?_, ?_, ?_, ?_⟩ <;> k_is))
    (case LkH => (refine' My.lk_mk (x := ?x); (case x => k_is)))
    (case tiH => k_is)
    (case DiH => (refine' My.funF ?l ?c ?k; (case l => k_is); (case c => k_is); (case k => k_is)))
    (case EfL => (refine' ⟨?_, ?_, ?_, ?_, ?_, ?_, ?_, ?_, ?_, ?_, ?_⟩ <;> k_is))
    (case LkL => (refine' My.lk_mk (x := ?x); (case x => k_is)))
    (case tiL => k_is)
    (case DiL => (refine' My.funF ?l ?c ?k; (case l => k_is); (case c => k_is); (case k => k_is)))
    (case EfN => (refine' ⟨?_, ?_, ?_, ?_, ?_, ?_, ?_, ?_, ?_, ?_, ?_⟩ <;> k_is))
    (case LkN => (refine' My.lk_mk (x := ?x); (case x => k_is)))
    (case xeN => k_exc)
    (case ne => decide)
    (case sCO => k_is)
    (case ncc => decide)
    (case hne => k_is)
    (case hn => k_is)
    (case ht => k_is)
    (case z_int => k_is)
    (case z_len => k_is)
    (case z_abs => k_is)
    (case z_list => k_is)
    (case z_tuple => k_is)
    (case z_range => k_is)
    (case z_enumerate => k_is)
    (case z_isinstance => k_is)
    (case z_all => k_is)
    (case z_zip => k_is)
    (case z_dict => k_is)
    (case z_bool => k_is)
    (case z_str => k_is)
    (case z_set => k_is)
    (case z_sorted => k_is)
    (case z_min => k_is)
    (case z_sum => k_is)
    (case z_ValueError => k_is)
    (case ruLETTERS => first | rfl | exact ⟨_, rfl⟩)
    (case ruDIGITS => first | rfl | exact ⟨_, rfl⟩)
    (case ruLONGEST_KIND => first | rfl | exact ⟨_, rfl⟩)
    (case ruMOST_DIGITS => first | rfl | exact ⟨_, rfl⟩)

