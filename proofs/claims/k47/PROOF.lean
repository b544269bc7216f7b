import PyProof.Rows.All
import Wide.All
import OpenK.AllK
import Wide.FinOn
import HandS.ForMost
import HandS.Exc
import HandS.TryOnly
import HandS.TryMany
import HandS.ExcInit
import HandS.ExcField
import HandS.ExcIs
import HandS.IsInst
import HandS.WordsExc
import HandS.OwnEq
import HandS.Flow
import HandS.Style
import HandS.Strs
import HandS.Conv
import HandS.SetKeys
import HandS.DictComp
import HandS.TupLe
import HandS.TupAny
import HandS.Defaults
import HandS.Wide
import HandS.EndBits
import HandS.SortInts
import HandS.Walk
import HandS.Rev
import HandS.Evl
import KE.KOpsOwn
import KE.KOwnIter
import HandS.List
import HandS.IterNext
import HandS.Zip0
import PyProof.TupleIter
import PyProof.FactsLen
import HandS.Property
import HandS.ExcCtx
import HandS.HotCalls
import KE.KExcIs
import HandS.SortKw
import HandS.Deep
import PyProof.ReprRoads
import PyProof.ReprLen
import HandS.Ends
import KE.GoesMore
import KE.GoesEnum
import HandS.More
import HandS.Star
import PyProof.ExcBaseAll.ValueError
import HandS.MakeKwOnly
import HandS.Records
import PyProof.MeetsIn
import PyProof.Conv_bool
import HandS.FStr
import OpenK.KMeth
import KE.KDictDisplayH
import PyProof.FactsAll.object_1
import HandS.ClsMeth
import PyProof.AttrMiss
import KE.DataCmp
import HandS.ListItems
import KE.KDictList
import KE.SortData
import PySem.Challenge.RW_duehouse_k47_whole_cleared
/-! DhBase -/
set_option Elab.async false
set_option linter.all false
set_option maxRecDepth 100000
set_option maxHeartbeats 4000000
namespace Dh
open PySem PySem.Spec L2

/-! ### own operators of an instance -/
section
variable {X : Cx} {CX : CXT} {k : Nat} {f C : Addr} {fd : FuncData} {ps : List Str} {sp : Sp} {E : XK}
def rOwn (C : Addr) (sp : Sp) (E : XK) : R2 := fun x y H Q => ∃ a dx fs, x = .ref a ∧ H a = some (.ins C dx fs) ∧ sp [x, y] H Q E
theorem cmpBack_of {pins : List (Addr × Obj)} {σ : L2.St} {Q : VK} {u : Value} {s : Shared} (h : EP X pins σ Q u s) : PySem.W.CmpBack (EP X pins σ Q) u s := by
  cases u with
  | notImplemented =>
    obtain ⟨v, H', _, r, _⟩ := h
    cases v
    · cases r
    · cases r
    · obtain ⟨_, e⟩ := r; cases e
    · obtain ⟨_, e⟩ := r; cases e
    · obtain ⟨_, e⟩ := r; cases e
    · obtain ⟨_, e⟩ := r; cases e
    · cases r
    · cases r
  | _ => exact h
theorem ip_own {op : Operator} (F : FnOk X.prog X.w X.K X.mg X.base CX k f fd ps sp) (hr : Room k X.A) (hc : PySem.W.selfFirst X.K C = true)
    (hs : PySem.W.findIn X.K (.ref C) (PySem.dunderI op.info.2) = some (some (.ref f))) (hf : PySem.W.isFn X.K (.ref f) = true) (hb : Binds X.K fd ps []) (hx : Passes CX X E) : PIp X op (rOwn C sp E) := by
  intro pins s σ H x y v u Q I rx ry h
  obtain ⟨a, dx, fs, rfl, ha, hsp⟩ := h
  obtain rfl : v = Value.ref a := rx
  obtain ⟨mA, J, _⟩ := ins_get I.hok ha
  obtain ⟨od, J, _⟩ := J.look
  obtain ⟨m, hF⟩ := I.fr
  refine PySem.W.ksp_inplace hF I.ok.mod.kin J hc hs hf ?_
  refine wpAny_mono (run_fn (us := [.ref a, u]) (ds := []) (dvs := []) F hr hb .nil hx I (.cons (show RelV (.ref a) (.ref a) from rfl) (.cons ry .nil)) (by simpa using hsp)) (fun u s' q => cmpBack_of q) fun _ _ e => e
end

/-! ### small operators -/
section
variable {X : Cx}
theorem op_mul_ib : OpR X (binaryOp .Mult) (fun x y H Q => ∃ i k, x = .int i ∧ y = .bl k ∧ Q (.int (i * (if k = true then 1 else 0))) H) := by
  intro pins s σ H x y v u Q I rx ry h
  obtain ⟨i, k, rfl, rfl, q⟩ := h
  obtain ⟨t, rfl⟩ := rx
  obtain rfl : u = Value.bool k := ry
  exact PySem.IntBool.mul_int_bool ⟨.int (i * (if k = true then 1 else 0)), H, I.tok _, ⟨_, rfl⟩, q⟩
end
end Dh
namespace Ob
open PySem PySem.SeqAt
open AutoSeq1 (wpAny_loadPart')
open MeetsSeq MeetsSeq2 MeetsSeq3 SeqRoads2
/-- t <= u of two tuples whose first items are told apart -/
theorem tuple_leFirst (l b : Addr) (items items2 : Array Value) (n n2 : Nat) (dd dd2 : Option Addr) (sl sl2 : Array (Option Value)) (r : Bool) (h1 : 0 < items.size) (h2 : 0 < items2.size) :
    Meets (Builtin.«tuple.__le__» ⟨[.ref l, .ref b], []⟩)
      (fun A R s => s.heap.get? l = some { cls := .type "tuple", dict := dd, data := .seq items n, slots := sl } ∧ s.heap.get? b = some { cls := .type "tuple", dict := dd2, data := .seq items2 n2, slots := sl2 } ∧
        EqAt A.in1 s items[0] items2[0] false ∧ RcOp .LtE A.in1 s items[0] items2[0] r ∧ R (.ok (.ret (.bool r))) s) :=
  .of_wp fun prog w A R s h => by
    obtain ⟨hp, g, d, tk, os⟩ := s; obtain ⟨hl, hb, he, hr, h⟩ := h
    have f2 := AutoSeq1.sub_tuple_tuple
    have hZ : (items.toList.zip items2.toList).length = min items.size items2.size := by simp
    have hlt : 0 < (items.toList.zip items2.toList).length := by rw [hZ]; omega
    wp_walk using wpAny_loadPart' hl, wpAny_loadPart' hb, wpAny_forIn_list _ (fun rest b s' => b.1 = none ∧ s' = ⟨hp, g, d, tk, os⟩ ∧ rest = (items.toList.zip items2.toList)) _
    case turn =>
      rintro ⟨y, x⟩ rest b s' ⟨hb', rfl, hz⟩
      have hz' : (y, x) :: rest = (items.toList.zip items2.toList).drop 0 := by rw [List.drop_zero]; exact hz
      rw [List.drop_eq_getElem_cons hlt] at hz'
      injection hz' with hyx hrest
      have hy : y = items[0] := by have := congrArg Prod.fst hyx; simpa using this
      have hx : x = items2[0] := by have := congrArg Prod.snd hyx; simpa using this
      subst hy hx
      refine wpAny_bind (he prog w _ _ ?_)
      have hri := hr prog w
      wp_walk using hri
      exact ⟨_, rfl, h⟩
    case fin =>
      rintro ⟨b1, b2⟩ s' ⟨hb', rfl, hz⟩
      rw [← hz] at hlt
      exact absurd hlt (by simp)
    case h =>
      exact ⟨rfl, rfl, rfl⟩
theorem RcOp.tuples_leF {A : Around} {s : Shared} {l b : Addr} {items items2 : Array Value} {r : Bool} (hl : s.heap.IsTuple l items) (hb : s.heap.IsTuple b items2) (hu : A.units < cLine) (h1 : 0 < items.size) (h2 : 0 < items2.size)
    (he : EqAt A.in1 s items[0] items2[0] false) (hr : RcOp .LtE A.in1 s items[0] items2[0] r) :
    RcOp .LtE A s (.ref l) (.ref b) r := fun prog w E Q h => by
  obtain ⟨⟨cls, dd, data, sl⟩, ho, hc, n, hd⟩ := id hl
  obtain ⟨⟨cls2, dd2, data2, sl2⟩, ho2, hc2, n2, hd2⟩ := id hb
  simp only at hc hd hc2 hd2
  subst hc hd hc2 hd2
  exact richCompare_meets_room (op := .LtE) ⟨_, ho, rfl⟩ ⟨_, ho2, rfl⟩ F.slot_tuple_le F.entry_tuple_le (F.args_tuple_le_2 _ _) (tuple_leFirst l b items items2 n n2 dd dd2 sl sl2 r h1 h2)
    ⟨ho, ho2, he, hr, ⟨(fun x => nomatch x), h⟩⟩ hu
end Ob
namespace Dh
open PySem PySem.Spec L2
/-- t <= u, their first items two different ints -/
def rLeF (K : PySem.W.Frag) : R2 := fun x y H Q => ∃ (a b : Addr) (i j : Int) (xs ys : List V), x = .ref a ∧ y = .ref b ∧ SqT K H a (.int i :: xs) ∧ SqT K H b (.int j :: ys) ∧ i ≠ j ∧ Q (.bl (decide (i ≤ j))) H
theorem op_leF {X : Cx} (hu : X.A.units < cLine) : OpR X (compareOp .LtE) (rLeF X.K) := by
  intro pins s σ H x y v u Q I rx ry h
  obtain ⟨a, b, i, j, xs, ys, rfl, rfl, ha, hb, ne, q⟩ := h
  obtain rfl : v = Value.ref a := rx
  obtain rfl : u = Value.ref b := ry
  obtain ⟨its, r1, p1, _⟩ := I.tuple ha
  obtain ⟨its2, r2, p2, _⟩ := I.tuple hb
  cases r1 with
  | cons q1 t1 =>
    cases r2 with
    | cons q2 t2 =>
      rename_i u1 us1 u2 us2
      obtain ⟨t, rfl⟩ := q1
      obtain ⟨t', rfl⟩ := q2
      have R := Ob.RcOp.tuples_leF (A := X.A) (s := s) (r := decide (i ≤ j)) p1 p2 hu (by simp) (by simp) (by
          have z : (i == j) = false := beq_eq_false_iff_ne.mpr ne
          have := SeqAt.EqAt.int_int (A := X.A.in1) (s := s) i t j t'
          rw [z] at this
          simpa using this) (by simpa using Ob.RcOp.le_int _ _ _ _)
      exact R X.prog X.w X.xe (EP X pins σ Q) ⟨.bl _, H, I, rfl, q⟩
end Dh
namespace Dh
open PySem PySem.Spec L2
/-! ### the calls of built-ins, by names -/
def rInt1 : List V → Hp → VK → Prop := fun xs H Q => (∃ i, xs = [.int i] ∧ Q (.int i) H) ∨ ∃ k, xs = [.bl k] ∧ Q (.int (if k then 1 else 0)) H
def rAbs : List V → Hp → VK → Prop := fun xs H Q => ∃ i, xs = [.int i] ∧ Q (.int (if i < 0 then -i else i)) H
def rLenQ (K : PySem.W.Frag) : List V → Hp → VK → Prop := fun xs H Q => ∃ p ys, xs = [.ref p] ∧ (SqL K H p ys ∨ SqT K H p ys) ∧ Q (.int ys.length) H
def rLenS : List V → Hp → VK → Prop := fun xs H Q => ∃ z, xs = [.str z] ∧ z.length ≤ sizeLine ∧ Q (.int z.length) H
def rLenD : List V → Hp → VK → Prop := fun xs H Q => ∃ a kvs, xs = [V.ref a] ∧ H a = some (.dK kvs) ∧ Q (.int kvs.length) H
def rListQ (K : PySem.W.Frag) : List V → Hp → VK → Prop := fun xs H Q => ∃ p ys, xs = [.ref p] ∧ (SqL K H p ys ∨ SqT K H p ys) ∧ ∀ l, H l = none → Q (.ref l) (upd H l (.lst ys))
def rTupQ (K : PySem.W.Frag) : List V → Hp → VK → Prop := fun xs H Q => ∃ p ys, xs = [.ref p] ∧ ((SqL K H p ys ∧ ∀ l, H l = none → Q (.ref l) (upd H l (.tup ys))) ∨ (SqT K H p ys ∧ Q (.ref p) H))
section
variable {X : Cx}
theorem cl_int : CallR X (.type "int") rInt1 := call_int1
theorem cl_abs : CallR X (.builtin "abs") rAbs := call_abs
theorem cl_len : CallR X (.builtin "len") (rLenQ X.K) := call_len_seq
theorem cl_lenS : CallR X (.builtin "len") rLenS := call_len_str
theorem cl_lenD : CallR X (.builtin "len") rLenD := call_lenD
theorem cl_list : CallR X (.type "list") (rListQ X.K) := call_list_of
theorem cl_tuple : CallR X (.type "tuple") (rTupQ X.K) := call_tuple_of
def rAddIB : R2 := fun x y H Q => ∃ i k, x = .int i ∧ y = .bl k ∧ Q (.int (i + PyProof.Rows.b2i k)) H
def rMulIB : R2 := fun x y H Q => ∃ i k, x = .int i ∧ y = .bl k ∧ Q (.int (i * (if k = true then 1 else 0))) H
theorem op_addIB : OpR X (binaryOp .Add) rAddIB := op_add_ib
theorem op_mulIB : OpR X (binaryOp .Mult) rMulIB := op_mul_ib
def rAddS : R2 := fun x y H Q => ∃ i j : Str, x = .str i ∧ y = .str j ∧ i.length + j.length ≤ sizeLine ∧ Q (.str (i.append j)) H
end
end Dh
namespace Dh
open PySem PySem.Spec L2
open _root_.Evl (Ex)
/-! ### numbers -/
theorem int_eq {i j : Int} : decide (V.int i = V.int j) = decide (i = j) := by simp
theorem str_eq {i j : Str} : decide (V.str i = V.str j) = decide (i = j) := by simp
theorem fmod_lt {a m : Int} (h : 0 < m) : 0 ≤ a.fmod m ∧ a.fmod m < m := by
  rw [Int.fmod_eq_emod_of_nonneg _ (Int.le_of_lt h)]
  exact ⟨Int.emod_nonneg _ (by omega), Int.emod_lt_of_pos _ h⟩
theorem cm_fmod {a m j : Int} (h0 : 0 < m) (h1 : m ≤ 18446744073709551616) : CMul (a.fmod m) j := by
  have := fmod_lt (a := a) h0
  exact Or.inl ⟨by omega, by omega⟩
theorem atI_lt {α : Type} {xs : List α} {i : Int} (h0 : 0 ≤ i) (h1 : i < xs.length) : ∃ v, atI xs i = some v ∧ xs[i.toNat]? = some v := by
  obtain ⟨j, rfl⟩ := Int.eq_ofNat_of_zero_le h0
  have hj : j < xs.length := by omega
  exact ⟨xs[j], atI_nat (by simp [hj]), by simp [hj]⟩
theorem atI_ints {ns : List Int} {i : Int} (h0 : 0 ≤ i) (h1 : i < ns.length) : ∃ z, atI (ns.map V.int) i = some (.int z) ∧ ns[i.toNat]? = some z := by
  obtain ⟨v, h, e⟩ := atI_lt (xs := ns.map V.int) h0 (by simpa using h1)
  rw [List.getElem?_map] at e
  cases q : ns[i.toNat]? with
  | none => rw [q] at e; cases e
  | some z => rw [q] at e; cases e; exact ⟨z, h, rfl⟩
theorem erase_perm {α : Type} : ∀ {l : List α} {n : Nat} {y : α}, l[n]? = some y → (y :: l.eraseIdx n).Perm l
  | [], _, _, h => by simp at h
  | a :: l, 0, y, h => by simp at h; subst h; simp
  | a :: l, n + 1, y, h => by
    have ih := erase_perm (l := l) (n := n) (y := y) (by simpa using h)
    rw [List.eraseIdx_cons_succ]
    exact (List.Perm.swap _ _ _).trans (ih.cons a)
/-! ### a reading, step by step -/
section
variable {σ : L2.St} {H : Hp} {Q : VK} {v : V} {ta tb te : TE} {r : R2} {D : Ends} {t u : TS} {K : PySem.W.Frag}
theorem i_var {i : Nat} (h : σ[i]? = some (some v)) (k : Q v H) : tVar i σ H Q := ⟨v, h, k⟩
theorem i_c (k : Q v H) : tC v σ H Q := k
theorem i_op (k : ta σ H fun x H1 => tb σ H1 fun y H2 => r x y H2 Q) : tOp r ta tb σ H Q := k
theorem i_un {q : V → Hp → VK → Prop} (k : ta σ H fun x H1 => q x H1 Q) : tUn q ta σ H Q := k
theorem i_cb {q : List V → Hp → VK → Prop} {a : TA} (k : a σ H fun vs H1 => q vs H1 Q) : tCB q a σ H Q := k
theorem i_nil {q : List V → Hp → Prop} (k : q [] H) : tNil σ H q := k
theorem i_cons {a : TA} {q : List V → Hp → Prop} (k : ta σ H fun x H1 => a σ H1 fun xs H2 => q (x :: xs) H2) : tCons ta a σ H q := k
theorem i_call {sp : Sp} {E : XK} {a : TA} (k : a σ H fun vs H1 => sp (vs ++ []) H1 Q E) : tCall sp [] E a σ H Q := k
theorem i_call' {sp : Sp} {E : XK} {vs : List V} (k : sp vs H Q E) : sp (vs ++ []) H Q E := by rw [List.append_nil]; exact k
theorem i_I0 {g : Int → Int → V} {i j : Int} (k : Q (g i j) H) : rI0 g (.int i) (.int j) H Q := ⟨i, j, rfl, rfl, k⟩
theorem i_I {C : Int → Int → Prop} {g : Int → Int → V} {i j : Int} (c : C i j) (k : Q (g i j) H) : rI C g (.int i) (.int j) H Q := ⟨i, j, rfl, rfl, c, k⟩
theorem i_eqI {i j : Int} (k : Q (.bl (decide (i = j))) H) : rEq (.int i) (.int j) H Q := ⟨rfl, by rw [int_eq]; exact k⟩
theorem i_neI {i j : Int} (k : Q (.bl (!decide (i = j))) H) : rNe (.int i) (.int j) H Q := ⟨rfl, by rw [int_eq]; exact k⟩
theorem i_eqS {i j : Str} (k : Q (.bl (decide (i = j))) H) : rEq (.str i) (.str j) H Q := ⟨rfl, by rw [str_eq]; exact k⟩
theorem i_neS {i j : Str} (k : Q (.bl (!decide (i = j))) H) : rNe (.str i) (.str j) H Q := ⟨rfl, by rw [str_eq]; exact k⟩
theorem i_eq {x y : V} (s : scal x y = true) (k : Q (.bl (decide (x = y))) H) : rEq x y H Q := ⟨s, k⟩
theorem i_ne {x y : V} (s : scal x y = true) (k : Q (.bl (!decide (x = y))) H) : rNe x y H Q := ⟨s, k⟩
theorem i_int1 {i : Int} (k : Q (.int i) H) : rInt1 [.int i] H Q := .inl ⟨i, rfl, k⟩
theorem i_abs {i : Int} (k : Q (.int (if i < 0 then -i else i)) H) : rAbs [.int i] H Q := ⟨i, rfl, k⟩
theorem i_addIB {i : Int} {c : Bool} (k : Q (.int (i + PyProof.Rows.b2i c)) H) : rAddIB (.int i) (.bl c) H Q := ⟨i, c, rfl, rfl, k⟩
theorem i_mulIB {i : Int} {c : Bool} (k : Q (.int (i * (if c = true then 1 else 0))) H) : rMulIB (.int i) (.bl c) H Q := ⟨i, c, rfl, rfl, k⟩
theorem i_listL {p : Addr} {xs : List V} (h : SqL K H p xs) (k : ∀ l, H l = none → Q (.ref l) (upd H l (.lst xs))) : rListQ K [.ref p] H Q := ⟨p, xs, rfl, .inl h, k⟩
theorem i_listT {p : Addr} {xs : List V} (h : SqT K H p xs) (k : ∀ l, H l = none → Q (.ref l) (upd H l (.lst xs))) : rListQ K [.ref p] H Q := ⟨p, xs, rfl, .inr h, k⟩
theorem i_tupL {p : Addr} {xs : List V} (h : SqL K H p xs) (k : ∀ l, H l = none → Q (.ref l) (upd H l (.tup xs))) : rTupQ K [.ref p] H Q := ⟨p, xs, rfl, .inl ⟨h, k⟩⟩
theorem i_lenD {p : Addr} {xs : List (Key × V)} (h : H p = some (.dK xs)) (k : Q (.int xs.length) H) : rLenD [.ref p] H Q := ⟨p, xs, rfl, h, k⟩
theorem i_ixL {p : Addr} {xs : List V} {i : Int} (h : SqL K H p xs) (a : atI xs i = some v) (k : Q v H) : rIxL K (.ref p) (.int i) H Q := ⟨p, xs, i, v, rfl, rfl, h, a, k⟩
theorem i_ixT {p : Addr} {xs : List V} {i : Int} (h : SqT K H p xs) (a : atI xs i = some v) (k : Q v H) : rIxT K (.ref p) (.int i) H Q := ⟨p, xs, i, v, rfl, rfl, h, a, k⟩
theorem i_lenL {p : Addr} {xs : List V} (h : SqL K H p xs) (k : Q (.int xs.length) H) : rLenQ K [.ref p] H Q := ⟨p, xs, rfl, .inl h, k⟩
theorem i_lenT {p : Addr} {xs : List V} (h : SqT K H p xs) (k : Q (.int xs.length) H) : rLenQ K [.ref p] H Q := ⟨p, xs, rfl, .inr h, k⟩
theorem i_lenS {z : Str} (h : z.length ≤ sizeLine) (k : Q (.int z.length) H) : rLenS [.str z] H Q := ⟨z, rfl, h, k⟩
theorem i_tup {a : TA} (k : a σ H fun xs H1 => xs.length ≤ sizeLine ∧ ∀ p, H1 p = none → Q (.ref p) (upd H1 p (.tup xs))) : tTup a σ H Q := k
theorem i_lst {a : TA} (k : a σ H fun xs H1 => xs.length ≤ sizeLine ∧ ∀ p, H1 p = none → Q (.ref p) (upd H1 p (.lst xs))) : tLst a σ H Q := k
theorem i_seq (k : t { D with nx := u D } σ H) : tSeq t u D σ H := k
theorem i_asg {i : Nat} (k : te σ H fun x H1 => D.nx (σ.set i (some x)) H1) : tAsg te (gName i) D σ H := k
theorem i_asgG {g : TG} (k : te σ H fun x H1 => g x σ H1 D.nx) : tAsg te g D σ H := k
theorem i_gname {i : Nat} {q : L2.St → Hp → Prop} (k : q (σ.set i (some v)) H) : gName i v σ H q := k
theorem i_gsub {to ti : TE} {s : TSet} {q : L2.St → Hp → Prop} (k : to σ H fun o H1 => ti σ H1 fun i H2 => s o i v H2 fun H3 => q σ H3) : gSub to ti s v σ H q := k
theorem i_setL {p : Addr} {xs : List V} {i : Int} {j : Nat} {q : Hp → Prop} (h : H p = some (.lst xs)) (a : ixN xs.length i = some j) (k : q (upd H p (.lst (xs.set j v)))) : rSetL (.ref p) (.int i) v H q := ⟨p, xs, i, j, rfl, rfl, h, a, k⟩
theorem i_ret (k : te σ H D.rt) : tRet te D σ H := k
theorem i_drop (k : te σ H fun _ H1 => D.nx σ H1) : tDrop te D σ H := k
theorem i_ifS {c : TT} (k : c σ H fun b H1 => if b = true then t D σ H1 else u D σ H1) : tIfS c t u D σ H := k
theorem i_next (k : D.nx σ H) : tNext D σ H := k
theorem i_test {q : Bool → Hp → Prop} (k : te σ H fun x H1 => ∃ b, x = .bl b ∧ q b H1) : tTest te σ H q := k
theorem i_B {q : Bool → Hp → Prop} (k : te σ H fun x H1 => ∃ b, x = .bl b ∧ q b H1) : tB te σ H q := k
theorem i_bl {b : Bool} {p : Bool → Prop} (k : p b) : ∃ b', V.bl b = .bl b' ∧ p b' := ⟨b, rfl, k⟩
theorem i_not {c : TT} {q : Bool → Hp → Prop} (k : c σ H fun b H1 => q (!b) H1) : tNot c σ H q := k
theorem i_and {c d : TT} {q : Bool → Hp → Prop} (k : c σ H fun b H1 => if b = true then d σ H1 q else q false H1) : tAnd c d σ H q := k
theorem i_or {c d : TT} {q : Bool → Hp → Prop} (k : c σ H fun b H1 => if b = true then q true H1 else d σ H1 q) : tOr c d σ H q := k
theorem i_app {l : Addr} {xs : List V} {y : V} (h : H l = some (.lst xs)) (z : xs.length < sizeLine) (k : Q .non (upd H l (.lst (xs ++ [y])))) : rAppend (.ref l) [y] H Q := ⟨l, xs, y, rfl, rfl, h, z, k⟩
theorem i_bm {T : String} {q : V → List V → Hp → VK → Prop} {a : TA} (k : te σ H fun x H1 => tyV K T x H1 ∧ a σ H1 fun xs H2 => q x xs H2 Q) : tBM K T q te a σ H Q := k
theorem i_sl {r : V → Option Int → Option Int → Hp → VK → Prop} {tl th : TO} (k : te σ H fun x H1 => tl σ H1 fun l H2 => th σ H2 fun u H3 => r x l u H3 Q) : tSl r te tl th σ H Q := k
theorem i_nopart {q : Option Int → Hp → Prop} (k : q none H) : tNoPart σ H q := k
theorem i_part {q : Option Int → Hp → Prop} (k : te σ H fun x H1 => ∃ i, x = .int i ∧ q (some i) H1) : tPart te σ H q := k
theorem i_isint {i : Int} {p : Int → Prop} (k : p i) : ∃ i', V.int i = .int i' ∧ p i' := ⟨i, rfl, k⟩
theorem i_slL {p : Addr} {xs : List V} {lo hi : Option Int} (h : SqL K H p xs) (k : ∀ q, H q = none → Q (.ref q) (upd H q (.lst (cutV xs lo hi)))) : rSlL K (.ref p) lo hi H Q := ⟨p, xs, rfl, h, k⟩
theorem i_slS {z : Str} {lo hi : Option Int} (h : z.length ≤ sizeLine) (k : Q (.str (cutS z lo hi)) H) : rSlS (.str z) lo hi H Q := ⟨z, rfl, h, k⟩
theorem i_gtup {n : Nat} {t : TGs} {p : Addr} {xs : List V} {q : L2.St → Hp → Prop} (h : SqT K H p xs) (l : xs.length = n) (k : t xs σ H q) : gTup K n t (.ref p) σ H q := ⟨p, xs, rfl, h, l, k⟩
theorem i_gcons {t : TG} {u : TGs} {r : List V} {q : L2.St → Hp → Prop} (k : t v σ H fun σ' H' => u r σ' H' q) : gCons t u (v :: r) σ H q := ⟨v, r, rfl, k⟩
theorem i_gnil {q : L2.St → Hp → Prop} (k : q σ H) : gNil [] σ H q := ⟨rfl, k⟩
theorem i_ty {l : Addr} {xs : List V} {p : Prop} (h : H l = some (.lst xs)) (k : p) : tyV K "list" (.ref l) H ∧ p := ⟨.inl ⟨rfl, _, .inl (.inl h)⟩, k⟩
theorem i_popN {l : Addr} {xs : List V} {i : Int} (h : H l = some (.lst xs)) (h0 : 0 ≤ i) (h1 : i < xs.length) (h2 : xs.length < 1000000000) (k : ∀ y, xs[i.toNat]? = some y → Q y (upd H l (.lst (xs.eraseIdx i.toNat)))) : rPopAt (.ref l) [.int i] H Q := by
  obtain ⟨j, rfl⟩ := Int.eq_ofNat_of_zero_le h0
  have hj : j < xs.length := by omega
  refine ⟨l, xs, _, j, xs[j], rfl, rfl, h, by omega, by omega, ?_, by simp [hj], k _ (by simp [hj])⟩
  simp [seqIndex?]
  omega
theorem i_bm0 {T : String} {q : V → List V → Hp → VK → Prop} (k : te σ H fun x H1 => tyV K T x H1 ∧ q x [] H1 Q) : tBM0 K T q te σ H Q := k
theorem ty_l {l : Addr} {xs : List V} (h : H l = some (.lst xs)) : tyV K "list" (.ref l) H := .inl ⟨rfl, _, .inl (.inl h)⟩
theorem iteD {c A B : Prop} [Decidable c] (h1 : c → A) (h2 : ¬ c → B) : if decide c = true then A else B := by
  by_cases h : c
  · rw [if_pos (decide_eq_true h)]; exact h1 h
  · rw [if_neg (by simp [h])]; exact h2 h
theorem iteB {c : Bool} {A B : Prop} (h1 : c = true → A) (h2 : c = false → B) : if c = true then A else B := by
  cases c with
  | true => exact iteT (h1 rfl)
  | false => exact iteF (h2 rfl)
theorem i_ifJ {c : TT} (b : Bool) (h : ∀ q : Bool → Hp → Prop, q b H → c σ H q) (k : if b = true then t D σ H else u D σ H) : tIfS c t u D σ H := h _ k
theorem and_q {b1 b2 : Bool} {q : Bool → Hp → Prop} {X : Prop} (hq : q (b1 && b2) H) (hx : q b2 H → X) : if b1 = true then X else q false H := by
  cases b1 with
  | true => exact iteT (hx hq)
  | false => exact iteF hq
theorem or_q {b1 b2 : Bool} {q : Bool → Hp → Prop} {X : Prop} (hq : q (b1 || b2) H) (hx : q b2 H → X) : if b1 = true then q true H else X := by
  cases b1 with
  | true => exact iteT hq
  | false => exact iteF (hx hq)
theorem iteNT {A B : Prop} (h : B) : if (!true) = true then A else B := iteF h
theorem iteNF {A B : Prop} (h : A) : if (!false) = true then A else B := iteT h
theorem notF {c : Prop} [Decidable c] (h : ¬ c) : (!decide c) = true := by simp [h]
theorem notT {c : Prop} [Decidable c] (h : c) : (!decide c) = false := by simp [h]
theorem iteN {c A B : Prop} [Decidable c] (h1 : ¬ c → A) (h2 : c → B) : if (!decide c) = true then A else B := by
  by_cases h : c
  · rw [if_neg (by simp [h])]; exact h2 h
  · rw [if_pos (by simp [h])]; exact h1 h
theorem iteT' {c : Bool} {A B : Prop} (h : c = true) (k : A) : if c = true then A else B := by rw [if_pos h]; exact k
theorem iteF' {c : Bool} {A B : Prop} (h : c = false) (k : B) : if c = true then A else B := by rw [h]; exact iteF k
theorem upd_old {p a : Addr} {o u' : HO} (n : H p = none) (h : H a = some o) : upd H p u' a = some o := by rw [upd_ne (ne_of_none h n)]; exact h
theorem upd_oth {p a : Addr} {o u' : HO} (n : a ≠ p) (h : H a = some o) : upd H p u' a = some o := by rw [upd_ne n]; exact h
theorem ex_at {F : Hp} {a : Addr} {o : HO} (e : Ex F H) (h : F a = some o) : H a = some o := e _ _ h
theorem ex_by {F : Hp} {a : Addr} {o : HO} (h : F a = some o) (e : Ex F H) : H a = some o := e _ _ h
theorem ex_mut {F : Hp} {p : Addr} {o : HO} (n : F p = none) (e : Ex F H) : Ex F (upd H p o) := e.mut n
theorem ex_new {F : Hp} {p : Addr} {o : HO} (n : H p = none) (e : Ex F H) : Ex F (upd H p o) := e.trans (Ex.new n)
theorem ex_both {F : Hp} {p : Addr} {o : HO} (e : Ex F H) : Ex (upd F p o) (upd H p o) := fun a u h => by
  by_cases q : a = p
  · subst q; rw [upd_same] at h ⊢; exact h
  · rw [upd_ne q] at h ⊢; exact e a u h
theorem ex_none {F : Hp} {a : Addr} (e : Ex F H) (h : H a = none) : F a = none := _root_.Evl.fresh_back e h
end
end Dh
namespace Dh
open PySem PySem.Spec L2
open _root_.Evl (Ex)
/-! ### loops and comprehensions, over whatever is walked -/
section
variable {σ : L2.St} {H : Hp} {Q : VK} {K : PySem.W.Frag} {D : Ends} {g : TG} {tb : TS} {te tl : TE} {ta : TA} {tt : TT}
def ForG (n : Nat) (G : Hp → Prop) (Y : Nat → Hp → V → Hp → Prop) (g : TG) (tb : TS) (D : Ends) (σ : L2.St) (H : Hp) : Prop :=
  ∃ Pv : Nat → L2.St → Hp → Prop, Pv 0 σ H ∧ (∀ i σ H, i ≤ n → Pv i σ H → G H) ∧
    (∀ i x σ H H', i < n → Pv i σ H → Y i H x H' → g x σ H' fun σ2 H2 => tb { D with nx := Pv (i + 1), ct := Pv (i + 1), bk := D.nx } σ2 H2) ∧ ∀ σ H, Pv n σ H → D.nx σ H
def LcG (n : Nat) (G : Hp → Prop) (Y : Nat → Hp → V → Hp → Prop) (g : TG) (tt : TT) (te : TE) (vs : List Nat) (σ : L2.St) (H1 : Hp) (Q : VK) : Prop :=
  ∀ Dl, H1 Dl = none → ∃ Pv : Nat → Hp → Prop, Pv 0 (upd H1 Dl (.lst [])) ∧ (∀ i H, i ≤ n → Pv i H → G H) ∧
    (∀ i x H H', i < n → Pv i H → Y i H x H' → g x (wipe σ vs) H' fun σ2 H2 => wipe σ2 vs = wipe σ vs ∧ tt σ2 H2 fun b H3 =>
      if b = true then te σ2 H3 fun y H4 => ∃ acc, H4 Dl = some (.lst acc) ∧ acc.length < sizeLine ∧ Pv (i + 1) (upd H4 Dl (.lst (acc ++ [y]))) else Pv (i + 1) H3) ∧ ∀ H, Pv n H → Q (.ref Dl) H
/-- the raw turn of a for over J from (σ, H1), of a comprehension -/
def RawF (J : It) (g : TG) (tb : TS) (D : Ends) (σ : L2.St) (H1 : Hp) : Prop := ∃ W : Nat → Nat → L2.St → Hp → Prop, (∃ m, W 0 m σ H1) ∧ ∀ i m σ H, W i m σ H →
  (J.stop i H ∧ D.nx σ H) ∨ (J.go i H ∧ ∃ N : L2.St → Hp → Prop, (∀ σ' H', N σ' H' → ∃ m', m' < m ∧ W (i + 1) m' σ' H') ∧ ∀ x H', J.yld i H x H' → g x σ H' fun σ2 H2 => tb { D with nx := N, ct := N, bk := D.nx } σ2 H2)
def RawC (J : It) (g : TG) (tt : TT) (te : TE) (vs : List Nat) (σ : L2.St) (H1 : Hp) (Q : VK) : Prop := ∀ D, H1 D = none → ∃ W : Nat → Nat → Hp → Prop, (∃ m, W 0 m (upd H1 D (.lst []))) ∧ ∀ i m H, W i m H →
  (J.stop i H ∧ Q (.ref D) H) ∨ (J.go i H ∧ ∃ Nx : Hp → Prop, (∀ H', Nx H' → ∃ m', m' < m ∧ W (i + 1) m' H') ∧ ∀ x H', J.yld i H x H' → g x (wipe σ vs) H' fun σ2 H2 => wipe σ2 vs = wipe σ vs ∧ tt σ2 H2 fun b H3 =>
    if b = true then te σ2 H3 fun y H4 => ∃ acc, H4 D = some (.lst acc) ∧ acc.length < sizeLine ∧ Nx (upd H4 D (.lst (acc ++ [y]))) else Nx H3)
def AtL (K : PySem.W.Frag) (R : It → Hp → Prop) (x : V) (H1 : Hp) : Prop := ∃ a, x = .ref a ∧ (∃ xs, SqL K H1 a xs) ∧ R (Itl K a) H1
def AtT (K : PySem.W.Frag) (R : It → Hp → Prop) (x : V) (H1 : Hp) : Prop := ∃ a, x = .ref a ∧ (∃ xs, SqT K H1 a xs) ∧ R (Itt K a) H1
def AtR1 (R : It → Hp → Prop) (vs : List V) (H1 : Hp) : Prop := ∃ j : Int, vs = [.int j] ∧ -(2 ^ 62) ≤ j ∧ j < 2 ^ 62 ∧ R (Itr 0 j.toNat) H1
def AtR2 (R : It → Hp → Prop) (vs : List V) (H1 : Hp) : Prop := ∃ i j : Int, vs = [.int i, .int j] ∧ (-(2 ^ 62) ≤ i ∧ i < 2 ^ 62 ∧ -(2 ^ 62) ≤ j ∧ j < 2 ^ 62) ∧ R (Itr i (j - i).toNat) H1
def AtE (K : PySem.W.Frag) (R : It → Hp → Prop) (vs : List V) (H1 : Hp) : Prop := ∃ a xs, vs = [.ref a] ∧ SqL K H1 a xs ∧ R (Ite K a) H1
def AtV (K : PySem.W.Frag) (R : It → Hp → Prop) (vs : List V) (H1 : Hp) : Prop := ∃ (a : Addr) (xs : List V), vs = [.ref a] ∧ SqL K H1 a xs ∧ R (Itv K a xs.length) H1
def AtS (R : It → Hp → Prop) (v : V) (H1 : Hp) : Prop := ∃ x, v = .str x ∧ R (Its x) H1
def AtK (R : It → Hp → Prop) (x : V) (H1 : Hp) : Prop := ∃ d o, x = .ref d ∧ ((∃ kvs, H1 d = some (.frz o (.dK kvs)) ∧ R (Itk d o kvs) H1) ∨ ∃ kvs, H1 d = some (.frz o (.dT kvs)) ∧ R (Itkt d o kvs) H1)
theorem i_forL (k : tl σ H (AtL K (RawF · g tb D σ ·))) : tFor (iList K tl) g tb D σ H := k
theorem i_forT (k : tl σ H (AtT K (RawF · g tb D σ ·))) : tFor (iTup K tl) g tb D σ H := k
theorem i_forR (k : ta σ H (AtR1 (RawF · g tb D σ ·))) : tFor (iRng1 ta) g tb D σ H := k
theorem i_forR2 (k : ta σ H (AtR2 (RawF · g tb D σ ·))) : tFor (iRng2 ta) g tb D σ H := k
theorem i_forE (k : ta σ H (AtE K (RawF · g tb D σ ·))) : tFor (iEnum K ta) g tb D σ H := k
theorem i_forV (k : ta σ H (AtV K (RawF · g tb D σ ·))) : tFor (iRev K ta) g tb D σ H := k
theorem i_forS (k : tl σ H (AtS (RawF · g tb D σ ·))) : tFor (iStr tl) g tb D σ H := k
theorem i_forK (k : tl σ H (AtK (RawF · g tb D σ ·))) : tFor (iKeys tl) g tb D σ H := k
theorem i_lcL {vs : List Nat} (k : tl σ H (AtL K (RawC · g tt te vs σ · Q))) : tLc (iList K tl) g tt te vs σ H Q := k
theorem i_lcT {vs : List Nat} (k : tl σ H (AtT K (RawC · g tt te vs σ · Q))) : tLc (iTup K tl) g tt te vs σ H Q := k
theorem i_lcR {vs : List Nat} (k : ta σ H (AtR1 (RawC · g tt te vs σ · Q))) : tLc (iRng1 ta) g tt te vs σ H Q := k
theorem i_lcR2 {vs : List Nat} (k : ta σ H (AtR2 (RawC · g tt te vs σ · Q))) : tLc (iRng2 ta) g tt te vs σ H Q := k
theorem i_lcS {vs : List Nat} (k : tl σ H (AtS (RawC · g tt te vs σ · Q))) : tLc (iStr tl) g tt te vs σ H Q := k
theorem i_lcK {vs : List Nat} (k : tl σ H (AtK (RawC · g tt te vs σ · Q))) : tLc (iKeys tl) g tt te vs σ H Q := k
theorem at_L {p : Addr} {xs : List V} {R : It → Hp → Prop} (h : SqL K H p xs) (k : R (Itl K p) H) : AtL K R (.ref p) H := ⟨p, rfl, ⟨xs, h⟩, k⟩
theorem raw_f {J : It} {n : Nat} {G : Hp → Prop} {Y : Nat → Hp → V → Hp → Prop} (w : Walk J n G Y) (k : ForG n G Y g tb D σ H) : RawF J g tb D σ H := by
  obtain ⟨Pv, p0, hG, ht, hd⟩ := k
  exact for_it w Pv p0 hG ht hd
theorem raw_c {J : It} {n : Nat} {G : Hp → Prop} {Y : Nat → Hp → V → Hp → Prop} {vs : List Nat} (w : Walk J n G Y) (k : LcG n G Y g tt te vs σ H Q) : RawC J g tt te vs σ H Q := fun Dl hD => by
  obtain ⟨Pv, p0, hG, ht, hd⟩ := k Dl hD
  exact lc_it w Pv p0 hG ht hd
theorem fl_L {p : Addr} {xs : List V} (h : SqL K H p xs) (k : ForG xs.length (fun H => SqL K H p xs) (YAt xs) g tb D σ H) : AtL K (RawF · g tb D σ ·) (.ref p) H := ⟨p, rfl, ⟨xs, h⟩, raw_f walk_list k⟩
theorem fl_T {p : Addr} {xs : List V} (h : SqT K H p xs) (k : ForG xs.length (fun H => SqT K H p xs) (YAt xs) g tb D σ H) : AtT K (RawF · g tb D σ ·) (.ref p) H := ⟨p, rfl, ⟨xs, h⟩, raw_f walk_tup k⟩
theorem fl_R {j : Int} (h0 : -(2 ^ 62) ≤ j) (h1 : j < 2 ^ 62) (k : ForG j.toNat (fun _ => True) (YFn fun i => .int (0 + i)) g tb D σ H) : AtR1 (RawF · g tb D σ ·) [.int j] H := ⟨j, rfl, h0, h1, raw_f walk_range k⟩
theorem fl_R2 {i j : Int} (h : -(2 ^ 62) ≤ i ∧ i < 2 ^ 62 ∧ -(2 ^ 62) ≤ j ∧ j < 2 ^ 62) (k : ForG (j - i).toNat (fun _ => True) (YFn fun x => .int (i + x)) g tb D σ H) : AtR2 (RawF · g tb D σ ·) [.int i, .int j] H := ⟨i, j, rfl, h, raw_f walk_range k⟩
theorem fl_E {p : Addr} {xs : List V} (h : SqL K H p xs) (k : ForG xs.length (fun H => SqL K H p xs) (YPair (fun i => some (.int (i : Nat))) (fun i => xs[i]?)) g tb D σ H) : AtE K (RawF · g tb D σ ·) [.ref p] H := ⟨p, xs, rfl, h, raw_f walk_enum k⟩
theorem fl_V {p : Addr} {xs : List V} (h : SqL K H p xs) (k : ForG xs.length (fun H => SqL K H p xs) (fun i H x H' => H' = H ∧ xs[xs.length - 1 - i]? = some x) g tb D σ H) : AtV K (RawF · g tb D σ ·) [.ref p] H := ⟨p, xs, rfl, h, raw_f walk_rev k⟩
theorem fl_S {z : Str} (k : ForG z.cps.size (fun _ => True) (fun i H v H' => H' = H ∧ ∃ c, z.cps[i]? = some c ∧ v = .str ⟨#[c]⟩) g tb D σ H) : AtS (RawF · g tb D σ ·) (.str z) H := ⟨z, rfl, raw_f walk_str k⟩
theorem fc_L {p : Addr} {xs : List V} {vs : List Nat} (h : SqL K H p xs) (k : LcG xs.length (fun H => SqL K H p xs) (YAt xs) g tt te vs σ H Q) : AtL K (RawC · g tt te vs σ · Q) (.ref p) H := ⟨p, rfl, ⟨xs, h⟩, raw_c walk_list k⟩
theorem fc_T {p : Addr} {xs : List V} {vs : List Nat} (h : SqT K H p xs) (k : LcG xs.length (fun H => SqT K H p xs) (YAt xs) g tt te vs σ H Q) : AtT K (RawC · g tt te vs σ · Q) (.ref p) H := ⟨p, rfl, ⟨xs, h⟩, raw_c walk_tup k⟩
theorem fc_R {j : Int} {vs : List Nat} (h0 : -(2 ^ 62) ≤ j) (h1 : j < 2 ^ 62) (k : LcG j.toNat (fun _ => True) (YFn fun i => .int (0 + i)) g tt te vs σ H Q) : AtR1 (RawC · g tt te vs σ · Q) [.int j] H := ⟨j, rfl, h0, h1, raw_c walk_range k⟩
theorem fc_R2 {i j : Int} {vs : List Nat} (h : -(2 ^ 62) ≤ i ∧ i < 2 ^ 62 ∧ -(2 ^ 62) ≤ j ∧ j < 2 ^ 62) (k : LcG (j - i).toNat (fun _ => True) (YFn fun x => .int (i + x)) g tt te vs σ H Q) : AtR2 (RawC · g tt te vs σ · Q) [.int i, .int j] H := ⟨i, j, rfl, h, raw_c walk_range k⟩
theorem fc_S {z : Str} {vs : List Nat} (k : LcG z.cps.size (fun _ => True) (fun i H v H' => H' = H ∧ ∃ c, z.cps[i]? = some c ∧ v = .str ⟨#[c]⟩) g tt te vs σ H Q) : AtS (RawC · g tt te vs σ · Q) (.str z) H := ⟨z, rfl, raw_c walk_str k⟩
theorem fc_K {d : Addr} {o : Obj} {kvs : List (Key × V)} {vs : List Nat} (h : H d = some (.frz o (.dK kvs))) (k : LcG kvs.length (fun H => H d = some (.frz o (.dK kvs))) (fun i H x H' => H' = H ∧ ∃ k v, kvs[i]? = some (k, v) ∧ x = kV k) g tt te vs σ H Q) : AtK (RawC · g tt te vs σ · Q) (.ref d) H := ⟨d, o, rfl, .inl ⟨kvs, h, raw_c walk_keys k⟩⟩
theorem map_range_getD (ns : List Int) : (List.range (ns.map V.int).length).map (fun i => V.int (ns.getD i 0)) = ns.map V.int := by
  apply List.ext_getElem?
  intro i
  simp only [List.getElem?_map, List.length_map]
  by_cases h : i < ns.length
  · simp [h]
  · simp [h]
theorem wipe1 (σ : L2.St) (j : Nat) : wipe σ [j] = σ.set j none := rfl
theorem wipe_set (σ : L2.St) (j : Nat) (v : Option V) : wipe ((wipe σ [j]).set j v) [j] = wipe σ [j] := by
  rw [wipe1, wipe1, List.set_set, List.set_set]
/-- a comprehension whose elements change nothing: its list is f 0, f 1, .. -/
theorem lc_pure {n j : Nat} {G : Hp → Prop} {Y : Nat → Hp → V → Hp → Prop} (f : Nat → V) (hn : n < sizeLine) (x : Nat → V) (hG : ∀ H', Ex H H' → G H') (hY : ∀ i H0 v H', i < n → Y i H0 v H' → H' = H0 ∧ v = x i)
    (he : ∀ i H' (Q' : VK), i < n → Ex H H' → Q' (f i) H' → te ((σ.set j none).set j (some (x i))) H' Q')
    (k : ∀ p, H p = none → Q (.ref p) (upd H p (.lst ((List.range n).map f)))) : LcG n G Y (gName j) tYes te [j] σ H Q := by
  intro Dl hD
  refine ⟨fun i H' => H' = upd H Dl (.lst ((List.range i).map f)), rfl, fun i H' _ e => ?_, fun i v H0 H' hi e y => ?_, fun H' e => ?_⟩
  · subst e; exact hG _ (Ex.new hD)
  · subst e
    obtain ⟨rfl, rfl⟩ := hY _ _ _ _ hi y
    refine ⟨wipe_set _ _ _, ?_⟩
    dsimp only [tYes]
    refine iteT (he i _ _ hi (Ex.new hD) ⟨_, upd_same, ?_, ?_⟩)
    · simp; omega
    · rw [upd_upd, List.range_succ, List.map_append]; rfl
  · subst e; exact k Dl hD
/-- a comprehension whose elements may change the heap: Pv by the turn, the list so far, the heap -/
def LcK (Dl : Addr) (Pv : Nat → List V → Hp → Prop) (i : Nat) (y : V) (H4 : Hp) : Prop := ∃ acc, H4 Dl = some (.lst acc) ∧ acc.length < sizeLine ∧ ∃ acc', upd H4 Dl (.lst (acc ++ [y])) Dl = some (.lst acc') ∧ Pv (i + 1) acc' (upd H4 Dl (.lst (acc ++ [y])))
theorem lcK {Dl : Addr} {Pv : Nat → List V → Hp → Prop} {i : Nat} {y : V} {acc : List V} (h : H Dl = some (.lst acc)) (l : acc.length < sizeLine) (p : Pv (i + 1) (acc ++ [y]) (upd H Dl (.lst (acc ++ [y])))) : LcK Dl Pv i y H := ⟨acc, h, l, _, upd_same, p⟩
theorem lc_eff {n j : Nat} {G : Hp → Prop} {Y : Nat → Hp → V → Hp → Prop} (k : ∀ Dl, H Dl = none → ∃ Pv : Nat → List V → Hp → Prop, Pv 0 [] (upd H Dl (.lst [])) ∧ (∀ i acc H', i ≤ n → Pv i acc H' → G H') ∧
    (∀ i x acc H1 H2, i < n → Pv i acc H1 → H1 Dl = some (.lst acc) → Y i H1 x H2 → te ((σ.set j none).set j (some x)) H2 (LcK Dl Pv i)) ∧
    ∀ acc H', Pv n acc H' → H' Dl = some (.lst acc) → Q (.ref Dl) H') : LcG n G Y (gName j) tYes te [j] σ H Q := by
  intro Dl hD
  obtain ⟨Pv, p0, hG, ht, hd⟩ := k Dl hD
  refine ⟨fun i H' => ∃ acc, H' Dl = some (.lst acc) ∧ Pv i acc H', ⟨[], upd_same, p0⟩, fun i H' hi ⟨acc, _, p⟩ => hG i acc H' hi p, fun i x H1 H2 hi ⟨acc, ha, p⟩ y => ⟨wipe_set _ _ _, ?_⟩, fun H' ⟨acc, ha, p⟩ => hd acc H' p ha⟩
  dsimp only [tYes]
  exact iteT (ht i x acc H1 H2 hi p ha y)
/-- .. with a test -/
theorem lc_pureIf {n j : Nat} {G : Hp → Prop} {Y : Nat → Hp → V → Hp → Prop} (f : Nat → V) (c : Nat → Bool) (hn : n < sizeLine) (x : Nat → V) (hG : ∀ H', Ex H H' → G H') (hY : ∀ i H0 v H', i < n → Y i H0 v H' → H' = H0 ∧ v = x i)
    (hc : ∀ i H' (Q' : Bool → Hp → Prop), i < n → Ex H H' → Q' (c i) H' → tt ((σ.set j none).set j (some (x i))) H' Q')
    (he : ∀ i H' (Q' : VK), i < n → c i = true → Ex H H' → Q' (f i) H' → te ((σ.set j none).set j (some (x i))) H' Q')
    (k : ∀ p, H p = none → Q (.ref p) (upd H p (.lst (((List.range n).filter c).map f)))) : LcG n G Y (gName j) tt te [j] σ H Q := by
  intro Dl hD
  have hl : ∀ i, ((List.range i).filter c).length ≤ i := fun i => by
    have := List.length_filter_le c (List.range i); simpa using this
  refine ⟨fun i H' => H' = upd H Dl (.lst (((List.range i).filter c).map f)), rfl, fun i H' _ e => ?_, fun i v H0 H' hi e y => ?_, fun H' e => ?_⟩
  · subst e; exact hG _ (Ex.new hD)
  · subst e
    obtain ⟨rfl, rfl⟩ := hY _ _ _ _ hi y
    refine ⟨wipe_set _ _ _, hc i _ _ hi (Ex.new hD) ?_⟩
    cases e : c i with
    | true =>
      refine iteT (he i _ _ hi e (Ex.new hD) ⟨_, upd_same, ?_, ?_⟩)
      · have := hl i; simp; omega
      · rw [upd_upd]; show _ = _
        rw [List.range_succ, List.filter_append, List.map_append]; simp [e]
    | false =>
      refine iteF ?_
      show _ = _
      rw [List.range_succ, List.filter_append]; simp [e]
  · subst e; exact k Dl hD
end
end Dh
namespace Dh
open PySem PySem.Spec L2
open _root_.Evl (Ex)
/-! ### texts; isinstance; all -/
def rInC : R2 := fun x y H Q => ∃ (c : Nat) (z : Str), x = .str ⟨#[c]⟩ ∧ y = .str z ∧ Q (.bl (decide (c ∈ z.cps.toList))) H
def rAddT : R2 := fun x y H Q => ∃ i j : Str, x = .str i ∧ y = .str j ∧ i.length + j.length ≤ sizeLine ∧ Q (.str (i ++ j)) H
def rJoin (K : PySem.W.Frag) : V → List V → Hp → VK → Prop := fun x xs H Q => ∃ a p, ∃ ys : List Str, x = .str a ∧ xs = [.ref p] ∧ (SqL K H p (ys.map V.str) ∨ SqT K H p (ys.map V.str)) ∧ (ys.map (·.length)).sum + ys.length * a.length ≤ 16777216 ∧ Q (.str (Txt.join a ys)) H
section
variable {X : Cx}
theorem op_inC : OpR X (compareOp .In) rInC := op_in_sign
theorem op_addT : OpR X (binaryOp .Add) rAddT := op_add_str
def tTru (K : PySem.W.Frag) (te : TE) : TT := fun σ H Q => te σ H fun x H' => ∃ k, TruV K x H' k ∧ Q k H'
theorem pt_tru {a : Expr} {ta : TE} (ha : PE X a ta) (he : ∀ whole, isTrue a X.env whole = (do let v ← whole; standAt a.pos; holding [v] (truthy v)) := by intro _; rfl) : PT X a (tTru X.K ta) := pt_truth ha he
theorem pe_joinL {o e : Expr} {to te : TE} {apos pos : Pos} (ho : PE X o to) (he : PE X e te) (hs : starEach [e] X.env = [(false, eval e X.env)] := by rfl) (hbase : attributeBase o "join" X.env (eval o X.env) = eval o X.env := by rfl) (hline : (apos.endLine == pos.line) = true := by rfl) :
    PE X (.Call (.Attribute o "join" apos) [e] [] pos) (tM1 (rJoin X.K) to te) := pe_join ho he hs hbase hline
end
section
variable {σ : L2.St} {H : Hp} {Q : VK} {v : V} {ta tb te : TE} {K : PySem.W.Frag}
theorem i_inC {c : Nat} {z : Str} (k : Q (.bl (decide (c ∈ z.cps.toList))) H) : rInC (.str ⟨#[c]⟩) (.str z) H Q := ⟨c, z, rfl, rfl, k⟩
theorem i_addT {i j : Str} (l : i.length + j.length ≤ sizeLine) (k : Q (.str (i ++ j)) H) : rAddT (.str i) (.str j) H Q := ⟨i, j, rfl, rfl, l, k⟩
theorem i_m1 {r : V → List V → Hp → VK → Prop} {to : TE} (k : to σ H fun x H1 => (∃ a, x = .str a) ∧ te σ H1 fun y H2 => r x [y] H2 Q) : tM1 r to te σ H Q := k
theorem i_isstr {a : Str} {p : Prop} (k : p) : (∃ a', V.str a = .str a') ∧ p := ⟨⟨a, rfl⟩, k⟩
theorem i_joinL {a : Str} {p : Addr} {ys : List Str} (h : SqL K H p (ys.map V.str)) (z : (ys.map (·.length)).sum + ys.length * a.length ≤ 16777216) (k : Q (.str (Txt.join a ys)) H) : rJoin K (.str a) [.ref p] H Q := ⟨a, p, ys, rfl, rfl, .inl h, z, k⟩
theorem i_all {p : Addr} {bs : List Bool} (h : SqL K H p (bs.map V.bl)) (k : Q (.bl (bs.all id)) H) : rAll K [.ref p] H Q := ⟨p, bs, rfl, h, k⟩
theorem is_int_int {i : Int} (k : Q (.bl true) H) : rIsi K [.int i, .ty "int"] H Q := ⟨_, _, _, _, true, rfl, .ty _, .base (.int i), kit_ty (by decide +kernel), k⟩
theorem is_int_bool {i : Int} (k : Q (.bl false) H) : rIsi K [.int i, .ty "bool"] H Q := ⟨_, _, _, _, false, rfl, .ty _, .base (.int i), kit_ty (by decide +kernel), k⟩
theorem is_str_str {i : Str} (k : Q (.bl true) H) : rIsi K [.str i, .ty "str"] H Q := ⟨_, _, _, _, true, rfl, .ty _, .base (.str i), kit_ty (by decide +kernel), k⟩
theorem is_tup_tup {a : Addr} {xs : List V} (h : H a = some (.tup xs)) (k : Q (.bl true) H) : rIsi K [.ref a, .ty "tuple"] H Q := ⟨_, _, _, _, true, rfl, .ty _, .base (.tup h), kit_ty (by decide +kernel), k⟩
theorem i_ixS {z : Str} {i : Int} {c : Nat} (l : z.length ≤ sizeLine) (h : atI z.cps.toList i = some c) (k : Q (.str ⟨#[c]⟩) H) : rIxS (.str z) (.int i) H Q := ⟨z, i, c, rfl, rfl, l, h, k⟩
theorem i_ifExp {t : TT} (k : t σ H fun c H1 => if c = true then ta σ H1 Q else tb σ H1 Q) : tIf t ta tb σ H Q := k
theorem i_andV (k : ta σ H fun x H1 => ∃ c, x = .bl c ∧ if c = true then tb σ H1 Q else Q (.bl false) H1) : tAndV ta tb σ H Q := k
theorem i_orV (k : ta σ H fun x H1 => ∃ c, x = .bl c ∧ if c = true then Q (.bl true) H1 else tb σ H1 Q) : tOrV ta tb σ H Q := k
theorem i_notV (k : ta σ H fun x H1 => ∃ c, x = .bl c ∧ Q (.bl (!c)) H1) : tNotV ta σ H Q := k
theorem i_chain {r r' : R2} {tc : TE} (k : ta σ H fun x H1 => tb σ H1 fun y H2 => r x y H2 fun z H3 => ∃ k, z = .bl k ∧ if k = true then tc σ H3 fun w' H4 => r' y w' H4 Q else Q (.bl false) H3) : tChain r r' ta tb tc σ H Q := k
theorem i_inL {neg : Bool} {x : V} {p : Addr} {xs : List V} (h : SqL K H p xs) (f : flatV x = true) (fs : xs.all flatV = true) (k : Q (.bl (if neg then !inV x xs else inV x xs)) H) : rIn K neg x (.ref p) H Q := ⟨p, xs, rfl, .inl h, f, fs, k⟩
theorem i_truT {q : Bool → Hp → Prop} (k : te σ H fun x H' => ∃ b, TruV K x H' b ∧ q b H') : tTru K te σ H q := k
theorem i_tru {q : Bool → Hp → Prop} {p : Addr} {xs : List V} (h : SqL K H p xs) (k : q (!xs.isEmpty) H) : ∃ b, TruV K (.ref p) H b ∧ q b H := ⟨_, .inl ⟨xs, h, rfl⟩, k⟩
theorem i_truL {p : Addr} {xs : List V} {r : Bool → Prop} (h : SqL K H p xs) (k : r (!xs.isEmpty)) : ∃ b, TruV K (.ref p) H b ∧ r b := ⟨_, .inl ⟨xs, h, rfl⟩, k⟩
theorem i_catL {a b : Addr} {xs ys : List V} (h : H a = some (.lst xs)) (h' : H b = some (.lst ys)) (l : xs.length + ys.length ≤ sizeLine) (k : ∀ p, H p = none → Q (.ref p) (upd H p (.lst (xs ++ ys)))) : rCat (.ref a) (.ref b) H Q := ⟨a, b, xs, ys, rfl, rfl, h, h', l, k⟩
theorem i_revL {p : Addr} {xs : List V} (k : te σ H fun x H1 => ∃ a xs, x = .ref a ∧ SqL K H1 a xs ∧ ∀ p, H1 p = none → Q (.ref p) (upd H1 p (.lst xs.reverse))) : tRevL K te σ H Q := k
theorem i_atLx {p : Addr} {xs : List V} {k : Addr → List V → Prop} (h : SqL K H p xs) (q : k p xs) : ∃ a xs, V.ref p = .ref a ∧ SqL K H a xs ∧ k a xs := ⟨p, xs, rfl, h, q⟩
end
end Dh
namespace Dh
open PySem PySem.Spec L2
open _root_.Evl (Ex)
/-- all but b is kept -/
def Kp (b : Addr) (H H' : Hp) : Prop := ∀ a o, a ≠ b → H a = some o → H' a = some o
theorem Kp.refl {b : Addr} {H : Hp} : Kp b H H := fun _ _ _ h => h
theorem Kp.trans {b : Addr} {H H1 H2 : Hp} (h : Kp b H H1) (k : Kp b H1 H2) : Kp b H H2 := fun a o n e => k a o n (h a o n e)
theorem Kp.of {b : Addr} {H H' : Hp} (e : Ex H H') : Kp b H H' := fun a o _ h => e a o h
theorem Kp.upd {b : Addr} {H : Hp} {o : HO} : Kp b H (upd H b o) := fun a u n e => by rw [upd_ne n]; exact e
theorem Kp.mut {b p : Addr} {H H' : Hp} {o : HO} (k : Kp b H H') (n : H p = none) : Kp b H (L2.upd H' p o) := fun a u ne e => by
  rw [upd_ne (ne_of_none e n)]; exact k a u ne e
theorem Kp.free {b p : Addr} {H H' : Hp} {o : HO} (k : Kp b H H') (hb : H' b = some o) (n : H' p = none) : H p = none := by
  cases q : H p with
  | none => rfl
  | some u =>
    by_cases e : p = b
    · subst e; rw [hb] at n; cases n
    · rw [k p u e q] at n; cases n
theorem Kp.also {b p : Addr} {H H' : Hp} {o : HO} (k : Kp b H H') (n : H p = none) (hp : H' p = some o) (ne : p ≠ b) : Kp b (L2.upd H p o) H' := fun a u na e => by
  by_cases q : a = p
  · subst q; rw [upd_same] at e; cases e; exact hp
  · rw [upd_ne q] at e; exact k a u na e
end Dh
/-! DhStr -/
set_option Elab.async false
set_option linter.all false
set_option maxRecDepth 100000
set_option maxHeartbeats 4000000
namespace Dh
open PySem PySem.Spec L2
/-! ### texts as lists of signs -/
abbrev Str.L (z : Str) : List Nat := z.cps.toList
theorem len_L (z : Str) : z.length = z.cps.toList.length := by show z.cps.size = _; simp
theorem app_L (a b : Str) : (a ++ b).cps.toList = a.cps.toList ++ b.cps.toList := by
  show (a.cps ++ b.cps).toList = _
  simp
theorem ext_L {a b : Str} (h : a.cps.toList = b.cps.toList) : a = b := by
  cases a; cases b
  simp at h
  subst h; rfl
theorem cut_to {z : Str} {k : Int} (h : 0 ≤ k) : (cutS z none (some k)).cps.toList = z.cps.toList.take k.toNat := by
  obtain ⟨n, rfl⟩ := Int.eq_ofNat_of_zero_le h
  show (((z.cps.toList.drop (HT.sIx z.length 0 none)).take (HT.sIx z.length z.length (some (n : Int)) - HT.sIx z.length 0 none)).toArray).toList = _
  rw [HT.sIx_none, HT.sIx_nat]
  simp [len_L, List.take_eq_take_iff]
theorem cut_from {z : Str} {k : Int} (h : 0 ≤ k) : (cutS z (some k) none).cps.toList = z.cps.toList.drop k.toNat := by
  obtain ⟨n, rfl⟩ := Int.eq_ofNat_of_zero_le h
  show (((z.cps.toList.drop (HT.sIx z.length 0 (some (n : Int)))).take (HT.sIx z.length z.length none - HT.sIx z.length 0 (some (n : Int)))).toArray).toList = _
  rw [HT.sIx_none, HT.sIx_nat]
  simp [len_L]
  by_cases q : n ≤ z.cps.size
  · rw [Nat.min_eq_left q, List.take_of_length_le (by simp)]
  · rw [Nat.min_eq_right (by omega)]
    rw [List.drop_eq_nil_of_le (by simp), List.drop_eq_nil_of_le (by simp; omega)]; simp
theorem join_L (ys : List Str) : (Txt.join "" ys).cps.toList = (ys.map fun y => y.cps.toList).flatten := by
  show (Builtin.Str.glued (PySem.Str.ofString "") ys).cps.toList = _
  rw [StrLaws.glued_eq_join]
  induction ys with
  | nil => rfl
  | cons a r ih =>
    cases r with
    | nil => simp [PySem.Str.join]
    | cons b r =>
      show (a ++ PySem.Str.ofString "" ++ PySem.Str.join (PySem.Str.ofString "") (b :: r)).cps.toList = _
      rw [app_L, app_L, ih]
      have : (PySem.Str.ofString "").cps.toList = [] := by decide +kernel
      rw [this]; simp
theorem not_in {α : Type} [DecidableEq α] : ∀ {l m : List α}, l.Nodup → m.length < l.length → ∃ x ∈ l, x ∉ m
  | [], m, _, h => by simp at h
  | a :: l, m, nd, h => by
    by_cases q : a ∈ m
    · have nd' := List.nodup_cons.mp nd
      obtain ⟨x, hx, hm⟩ := not_in (l := l) (m := m.erase a) nd'.2 (by
        have := List.length_erase_of_mem q
        have : 0 < m.length := List.length_pos_of_mem q
        simp at h; omega)
      refine ⟨x, List.mem_cons_of_mem _ hx, fun z => hm ?_⟩
      have ne : x ≠ a := fun e => nd'.1 (e ▸ hx)
      exact (List.mem_erase_of_ne ne).mpr z
    · exact ⟨a, List.mem_cons_self, q⟩
theorem inV_str {x : Str} {us : List Str} : inV (.str x) (us.map V.str) = decide (x ∈ us) := by
  unfold inV
  induction us with
  | nil => simp
  | cons a r ih =>
    rw [List.map_cons, List.any_cons, ih]
    show ((a == x) || _) = _
    by_cases q : a = x
    · subst q; simp
    · have : x ≠ a := fun e => q e.symm
      simp [q, this]
theorem inV_int {x : Int} {us : List Int} : inV (.int x) (us.map V.int) = decide (x ∈ us) := by
  unfold inV
  induction us with
  | nil => simp
  | cons a r ih =>
    rw [List.map_cons, List.any_cons, ih]
    show ((a == x) || _) = _
    by_cases q : a = x
    · subst q; simp
    · have : x ≠ a := fun e => q e.symm
      simp [q, this]
theorem flat_str {us : List Str} : (us.map V.str).all flatV = true := by simp [List.all_eq_true]; intro x _; rfl
theorem flat_int {us : List Int} : (us.map V.int).all flatV = true := by simp [List.all_eq_true]; intro x _; rfl
section
variable {H : Hp} {Q : VK} {K : PySem.W.Frag}
theorem i_inS {x : Str} {p : Addr} {us : List Str} (h : SqL K H p (us.map V.str)) (k : Q (.bl (decide (x ∈ us))) H) : rIn K false (.str x) (.ref p) H Q := by
  refine i_inL h rfl flat_str ?_
  rw [inV_str]; exact k
theorem i_niS {x : Str} {p : Addr} {us : List Str} (h : SqL K H p (us.map V.str)) (k : Q (.bl (!decide (x ∈ us))) H) : rIn K true (.str x) (.ref p) H Q := by
  refine i_inL h rfl flat_str ?_
  rw [inV_str]; exact k
theorem i_inI {x : Int} {p : Addr} {us : List Int} (h : SqL K H p (us.map V.int)) (k : Q (.bl (decide (x ∈ us))) H) : rIn K false (.int x) (.ref p) H Q := by
  refine i_inL h rfl flat_int ?_
  rw [inV_int]; exact k
theorem i_niI {x : Int} {p : Addr} {us : List Int} (h : SqL K H p (us.map V.int)) (k : Q (.bl (!decide (x ∈ us))) H) : rIn K true (.int x) (.ref p) H Q := by
  refine i_inL h rfl flat_int ?_
  rw [inV_int]; exact k
end
/-! ### names -/
def letters : List Nat := ("abcdefghijklmnopqrstuvwxyz" : Str).cps.toList
structure NameOk (s : Str) : Prop where
  lo : 1 ≤ s.length
  hi : s.length ≤ 8
  ls : ∀ c ∈ s.cps.toList, c ∈ letters
def tailOf (k : Nat) : Str := ⟨#[letters.getD (k / 26) 0]⟩ ++ ⟨#[letters.getD (k % 26) 0]⟩
def decOf (s : List Nat) : Nat := (s.getD 0 0 - 97) * 26 + (s.getD 1 0 - 97)
theorem lt_div : ∀ k : Nat, k < 676 → atI letters ((0 + (k : Int)).fdiv 26) = some (letters.getD (k / 26) 0) := by decide +kernel
theorem lt_mod : ∀ k : Nat, k < 676 → atI letters ((0 + (k : Int)).fmod 26) = some (letters.getD (k % 26) 0) := by decide +kernel
theorem dec_tail : ∀ k, k < 676 → decOf (tailOf k).cps.toList = k := by decide +kernel
theorem tail_ls : ∀ k, k < 676 → (tailOf k).cps.toList.length = 2 ∧ ∀ c ∈ (tailOf k).cps.toList, c ∈ letters := by decide +kernel
theorem cand_nd (t : Str) : ((List.range 676).map fun k => t ++ tailOf k).Nodup := by
  refine List.pairwise_map.mpr (List.Pairwise.imp_of_mem (R := (· ≠ ·)) (fun {a b} ha hb ne e => ne ?_) List.nodup_range)
  have ha := List.mem_range.mp ha
  have hb := List.mem_range.mp hb
  have := congrArg (fun s : Str => s.cps.toList) e
  simp only [app_L, List.append_cancel_left_eq] at this
  rw [← dec_tail a ha, ← dec_tail b hb, this]
theorem cand_free (t : Str) {us : List Str} (h : us.length < 676) : ∃ k, k < 676 ∧ t ++ tailOf k ∉ us := by
  obtain ⟨x, hx, hn⟩ := not_in (cand_nd t) (m := us) (by simpa using h)
  obtain ⟨k, hk, rfl⟩ := List.mem_map.mp hx
  exact ⟨k, List.mem_range.mp hk, hn⟩
end Dh
/-! OwnList -/
set_option Elab.async false
set_option linter.all false
set_option maxRecDepth 100000
set_option maxHeartbeats 4000000
/-! list(o), o's own __iter__ gives iter(tuple), its own __len__ a number -/
namespace L2
open PySem PySem.Spec PyProof.Rows
/-- at it an iterator over the tuple at l, the next place is i -/
def TiO (l it : Addr) (i : Nat) : HO := .ext fun h => h.IsTupleIter it l i
/-- there is something at it -/
def TiE (it : Addr) : HO := .ext fun h => ∃ o, h.get? it = some o
section
variable {X : Cx} {pins : List (Addr × Obj)} {σ : St} {H : Hp} {s : Shared} {l it m : Addr} {i : Nat}
theorem tiO_ok {P : Program} {w : World} {H : Hp} {h : Heap} (e : h.IsTupleIter it l i) : ObjOk P w H h it (TiO l it i) := ⟨e, (e.imp fun _ z => z.1), fun h1 h2 ⟨o, q, r⟩ k => ⟨o, k _ q, r⟩⟩
theorem tiE_ok {P : Program} {w : World} {H : Hp} {h : Heap} (e : ∃ o, h.get? it = some o) : ObjOk P w H h it (TiE it) := ⟨e, e, fun h1 h2 ⟨o, q⟩ k => ⟨o, k _ q⟩⟩
theorem tiO_get (I : Inv X pins σ H s) (e : H it = some (TiO l it i)) : s.heap.IsTupleIter it l i := (I.hok it _ e).1
/-- iter(l), l a tuple -/
def rIterT (K : PySem.W.Frag) : List V → Hp → VK → Prop := fun xs H Q => ∃ (l : Addr) (zs : List V), xs = [.ref l] ∧ SqT K H l zs ∧ ∀ it, H it = none → Q (.ref it) (upd H it (TiO l it 0))
theorem call_iterTup : CallR X (.builtin "iter") (rIterT X.K) := by
  intro pins s σ H xs us Q I r h
  obtain ⟨l, zs, rfl, hq, q⟩ := h
  obtain rfl := Vals.ref1 r
  obtain ⟨its, rv, pl, hz⟩ := I.tuple hq
  refine Calls.call_function_entry (by decide +kernel) (by decide +kernel) PySem.W.kdk_entry_iter (PySem.W.kdk_args_iter _) ?_
  unfold Builtin.«iter»
  refine wpAny_bind (m := someArgs "iter" 1 2 _) (wpAny_of_eq (a := [Value.ref l]) (by first | rfl | kernel_rfl!) ?_)
  show wpAny _ _ (pyIter (.ref l) >>= _) _ _ _
  refine wpAny_bind (wpAny_pyIter_tuple pl ?_)
  exact wpAny_pure ⟨_, rfl, ⟨.ref s.heap.objs.size, _, I.laid (t' := s.toks) (fun b u e => Heap.get?_push_of_some _ e) (Nat.le_refl _) (tiO_ok ⟨_, Heap.get?_push_size _ rfl, rfl, rfl⟩), rfl, q _ (I.hok.fresh (Nat.le_refl _))⟩⟩
end
section
variable {prog : Program} {w : World} {A : Around} {E : Value → Shared → Prop} {s : Shared} {it l a C f dx : Addr} {i : Nat} {K : PySem.W.Frag} {ox : Obj} {od : Option Obj}
/-- the end of a walk over a tuple: the iterator is still there -/
theorem next_tup_end {zs : Array Value} {Q : Option Value → Shared → Prop} (hh : A.handled = none) (hi : s.heap.IsTupleIter it l i) (hl : s.heap.IsTuple l zs) (hx : zs[i]? = none)
    (hQ : ∀ h', Heap.ExtBut it s.heap h' → (∃ o, h'.get? it = some o) → Q none { s with heap := h' }) : wpAny (model prog w) A (pyNext (.ref it)) Q E s := by
  obtain ⟨o1, q1, q2, q3⟩ := id hi
  obtain ⟨o2, r1, _, nn, r2⟩ := hl
  unfold pyNext
  refine wpAny_bind (wpAny_attempt (wpAny_callSpecial?_slot (name := Str.ofString "__next__") hi.typeIs F.slot_tuple_iterator_next (wpAny_call_entry F.slot_tuple_iterator_next hi.typeIs F.entry_tuple_iterator_next ?_ (F.args_tuple_iterator_next_1 _))))
  show wpAny _ _ (field (.ref it) 0 >>= _) _ _ s; refine wpAny_bind (wpAny_field q1 q3 (x := .ref l) rfl ?_)
  show wpAny _ _ (if (Value.ref l == Value.none) = true then _ else _) _ _ s; refine PySem.W.KFB.if_not rfl ?_
  show wpAny _ _ (field (.ref it) 1 >>= _) _ _ s; refine wpAny_bind (wpAny_field q1 q3 (x := .int i 0) rfl ?_)
  show wpAny _ _ (seqItems? (.ref l) >>= _) _ _ s; refine wpAny_bind (wpAny_seqItems r1 r2 ?_)
  simp only [Int.toNat_natCast, hx]; refine wpAny_bind (wpAny_rule (wpAny_bind (wpAny_setField q1 q3 (by simp) ?_)))
  show wpAny _ _ (newExc (.type "StopIteration") [] >>= _) _ _ _; refine wpAny_bind ?_
  simp only [newExc, newTuple]; refine wpAny_bind (wpAny_newObj_type ?_ (by size_fits))
  refine wpAny_bind (m := firstArgMember _ _) (wpAny_of_eq (a := Value.none) (by first | rfl | (simp only [firstArgMember]; rfl)) (wpAny_newObj_type ?_ (by size_fits)))
  simp only [raiseNew]; refine wpAny_bind (wpAny_handled ?_); first | rw [show A.in1.handled = none from hh] | rw [hh]
  refine wpAny_bind (wpAny_pure (wpAny_throw ?_)); refine wpAny_bind (wpAny_isInstance (T := "StopIteration") (b := true) ⟨_, Heap.get?_push_size _ rfl, rfl⟩ isSubtype_stop ?_)
  exact wpAny_pure (hQ _ (((Heap.SameBut.update ..).extBut.push _).push _) ⟨_, Heap.get?_push_of_some _ (Heap.get?_push_of_some _ (Heap.get?_update_self _ q1 (Obj.isFreed_of_fields (Obj.data_mapFields q3 _))))⟩)
theorem special_fn {name : Str} {args : List Value} {Q : Option Value → Shared → Prop} (Y : K.In s.heap) (J : PySem.W.InstAt s.heap a ox C od) (hf : PySem.W.findIn K (.ref C) name = some (some (.ref f))) (hn : PySem.W.isFn K (.ref f) = true)
    (hc : wpAny (model prog w) A (call (.ref f) (.ref a :: args)) (fun v s' => Q (some v) s') E s) : wpAny (model prog w) A (callSpecial? (.ref a) name args) Q E s := by
  unfold callSpecial? specialOf
  refine wpAny_bind (wpAny_bind (J.type.here ((PySem.W.looks_findIn Y hf).here (wpAny_holding (wpAny_bind ((PySem.W.bind_fn Y _ (beq_iff_eq.mp hn)).here ?_))))))
  first
    | exact wpAny_bind (wpAny_mono hc (fun v s' z => wpAny_pure z) fun _ _ z => z)
    | exact wpAny_pure (wpAny_bind (wpAny_mono hc (fun v s' z => wpAny_pure z) fun _ _ z => z))
theorem len_fn {Q : Value → Shared → Prop} (Y : K.In s.heap) (J : PySem.W.InstAt s.heap a ox C od) (hf : PySem.W.findIn K (.ref C) "__len__" = some (some (.ref f))) (hn : PySem.W.isFn K (.ref f) = true)
    (hc : wpAny (model prog w) A.in1 (call (.ref f) [.ref a]) (fun r s' => ∃ n u, r = .int n u ∧ 0 ≤ n ∧ n < 2 ^ 63 ∧ Q (.int n s'.toks) { s' with toks := s'.toks + 1 }) E s) : wpAny (model prog w) A (call (.builtin "len") [.ref a]) Q E s := by
  refine Calls.call_function_entry kind_len plain_len entry_len (args_len1 _) (by
    unfold Builtin.«len»
    refine wpAny_bind (m := oneArg "len" _) (wpAny_pure (wpAny_bind (m := callSpecial? (.ref a) (Str.ofString "__len__")) (special_fn Y J hf hn (wpAny_mono hc (fun r s' hr => ?_) fun _ _ y => y))))
    obtain ⟨n, u, rfl, h0, h1, hq⟩ := hr
    refine wpAny_bind (wpAny_holding (wpAny_pure (wpAny_bind (wpAny_letGo ?_))))
    show wpAny _ _ (if n < 0 then _ else _) _ _ _
    rw [if_neg (Int.not_lt.mpr h0)]
    show wpAny _ _ (if n ≥ 2 ^ 63 then _ else _) _ _ _
    rw [if_neg (Int.not_le.mpr h1)]
    exact wpAny_bind (wpAny_mkInt (wpAny_pure ⟨_, rfl, hq⟩)))
end
section
variable {X : Cx} {pins : List (Addr × Obj)} {σ : St} {H : Hp} {s : Shared} {l it a C fi fl dx : Addr} {A1 : Around} {n : Nat} {fs : List (Str × V)} {CI CL : CXT} {fdI fdL : FuncData} {psI psL : List Str} {spI spL : Sp}
abbrev noX : XK := fun _ _ _ => False
/-- nothing comes out that isn't wished for -/
def NoX (CF : CXT) : Prop := ∀ st H s e s', CF st H s noX e s' → False
theorem noX_cx {P : Program} {w : World} : NoX (CX P w) := fun _ _ _ _ _ ⟨_, _, _, _, _, _, _, _, _, _, _, _, z⟩ => z
/-- one of our defs is called with an own thing -/
theorem call_mine {CF : CXT} {f : Addr} {fd : FuncData} {ps : List Str} {sp : Sp} {Q : VK} {Ee : Value → Shared → Prop} (sb : Sub X n A1) (FF : FnOk X.prog X.w X.K X.mg X.base CF n f fd ps sp) (bF : Binds X.K fd ps []) (xF : NoX CF) (I : Inv X pins σ H s) (h : sp [.ref a] H Q noX) :
    wpAny (model X.prog X.w) A1 (call (.ref f) [.ref a]) (fun u s' => ∃ v H', Inv X pins σ H' s' ∧ RelV v u ∧ Q v H') Ee s := by
  have e0 : Env0 X.prog X.w X.K X.mg X.base A1 X.stack s H := by
    have e := I.env0
    exact ⟨by rw [sb.fr]; exact e.frames, e.mod, e.bs, e.bsz, e.funs, e.frf, e.hok, e.bare⟩
  have hl := FF.len _ _ _ _ h
  refine wpAny_call (codeAny_mono (FF.run A1 X.stack s H ⟨[.ref a], []⟩ [.ref a] [.ref a] Q noX sb.room e0 (by simpa using bF s [.ref a] I.kIn (by simpa using hl)) (.cons rfl .nil) h) fun r s' hq => ?_)
  cases r with
  | error e => exact (xF _ _ _ _ _ hq).elim
  | ok fl =>
    cases fl with
    | ret u => exact I.after hq
    | next => exact False.elim hq
    | brk => exact False.elim hq
    | cont => exact False.elim hq
theorem ext_loop {q : Addr} {zs : List V} {Rs : Result → Shared → Prop} (hc : A1.handled = none) (hz : zs.length ≤ sizeLine) (hqi : q ≠ it)
    (hd : ∀ H' s', Inv X pins σ (upd (upd H' it (TiE it)) q (.lst zs)) s' → H' = H → Rs (.ok (.ret .none)) s') (hT2 : ∀ H2, (∀ b, b ≠ it → b ≠ q → H2 b = H b) → SqT X.K H2 l zs) :
    ∀ (k i : Nat) (s : Shared), zs.length - i = k → i ≤ zs.length → Inv X pins σ (upd (upd H it (TiO l it i)) q (.lst (zs.take i))) s → codeAny (model X.prog X.w) A1 (.builtin "list.extend.loop" ⟨[.ref q, .ref it, .none], []⟩) Rs s := by
  intro k
  induction k with
  | zero =>
    intro i s hk hle I
    have hin : i = zs.length := by omega
    subst hin
    have hi := tiO_get I (by rw [upd_ne (fun z => hqi z.symm), upd_same])
    obtain ⟨its, rv, pl, hz'⟩ := I.tuple (hT2 _ fun b h1 h2 => by rw [upd_ne h2, upd_ne h1])
    refine codeAny_builtin PySem.F.entry_extend_loop ?_
    rw [Around.under_plainId PySem.F.plain_extend_loop _]
    show wpAny _ A1.in1 (pyNext (.ref it) >>= _) _ _ s
    refine wpAny_bind (next_tup_end (by exact hc) hi pl (by rw [List.getElem?_toArray]; exact rv.none_of (by simp)) fun h' he ho => wpAny_pure ?_)
    have mu : Mut ((upd (upd H it (TiO l it zs.length)) q (.lst (zs.take zs.length))) it) := by rw [upd_ne (fun z => hqi z.symm), upd_same]; exact True.intro
    have I2 := I.write (x := it) (e := it) (t' := s.toks) (o := TiE it) mu (.inl rfl) (fun b o nb z => he b o nb z) ho (tiE_ok ho)
    refine hd H _ ?_ rfl
    have e : upd (upd (upd H it (TiO l it zs.length)) q (.lst (zs.take zs.length))) it (TiE it) = upd (upd H it (TiE it)) q (.lst zs) := by
      rw [List.take_length]
      funext b
      by_cases h1 : b = it
      · subst h1; rw [upd_same, upd_ne (fun z => hqi z.symm), upd_same]
      · rw [upd_ne h1]
        by_cases h2 : b = q
        · subst h2; rw [upd_same, upd_same]
        · rw [upd_ne h2, upd_ne h2, upd_ne h1, upd_ne h1]
    rw [e] at I2
    exact I2
  | succ k ih =>
    intro i s hk hle I
    have hlt : i < zs.length := by omega
    have hi := tiO_get I (by rw [upd_ne (fun z => hqi z.symm), upd_same])
    obtain ⟨its, rv, pl, hz'⟩ := I.tuple (hT2 _ fun b h1 h2 => by rw [upd_ne h2, upd_ne h1])
    obtain ⟨u, hu, ru⟩ := rv.get (List.getElem?_eq_getElem hlt)
    refine codeAny_builtin PySem.F.entry_extend_loop ?_
    rw [Around.under_plainId PySem.F.plain_extend_loop _]
    show wpAny _ A1.in1 (pyNext (.ref it) >>= _) _ _ s
    refine wpAny_bind (wpAny_pyNext_tuple_item hi pl (by rw [List.getElem?_toArray]; exact hu) fun h' hi' sb => ?_)
    have mu : Mut ((upd (upd H it (TiO l it i)) q (.lst (zs.take i))) it) := by rw [upd_ne (fun z => hqi z.symm), upd_same]; exact True.intro
    have I2 := I.write (x := it) (e := it) (t' := s.toks) (o := TiO l it (i + 1)) mu (.inl rfl) (fun b o nb z => (sb.2 b nb).trans z) (hi'.imp fun _ z => z.1) (tiO_ok hi')
    have hq2 : (upd (upd (upd H it (TiO l it i)) q (.lst (zs.take i))) it (TiO l it (i + 1))) q = some (.lst (zs.take i)) := by rw [upd_ne hqi, upd_same]
    show wpAny _ A1.in1 (updateSeq q (·.push u) >>= _) _ _ _
    obtain ⟨z, its2, k2, r2, hl, e⟩ := I2.lstM hq2
    have hll : (zs.take i).length = i := by rw [List.length_take]; omega
    refine wpAny_bind (wpAny_updateSeq e rfl (wpAny_pure ⟨plainId_quiet PySem.F.plain_extend_loop _, ?_⟩) (by rw [List.size_toArray]; omega) (by show (its2.toArray.push u).size ≤ sizeLine + 1; rw [Array.size_push, List.size_toArray]; omega))
    have I3 := I2.lset (f := (·.push u)) (its' := its2 ++ [u]) (ys := zs.take i ++ [zs[i]]) (t' := s.toks) hq2 e (by simp) (r2.append (.cons ru .nil)) (by rw [List.length_append, List.length_singleton, hll]; omega)
    have e : upd (upd (upd (upd H it (TiO l it i)) q (.lst (zs.take i))) it (TiO l it (i + 1))) q (.lst (zs.take i ++ [zs[i]])) = upd (upd H it (TiO l it (i + 1))) q (.lst (zs.take (i + 1))) := by
      rw [show zs.take i ++ [zs[i]] = zs.take (i + 1) from (List.take_succ_eq_append_getElem hlt).symm]
      funext b
      by_cases h2 : b = q
      · subst h2; rw [upd_same, upd_same]
      · rw [upd_ne h2, upd_ne h2]
        by_cases h1 : b = it
        · subst h1; rw [upd_same, upd_same]
        · rw [upd_ne h1, upd_ne h2, upd_ne h1, upd_ne h1]
    rw [e] at I3
    exact ih (i + 1) _ (by omega) hlt I3
/-- a class whose __iter__ and __len__ are defs of its own -/
structure IlC (K : PySem.W.Frag) (C fi fl : Addr) : Prop where
  it : PySem.W.findIn K (.ref C) "__iter__" = some (some (.ref fi))
  itF : PySem.W.isFn K (.ref fi) = true
  ln : PySem.W.findIn K (.ref C) "__len__" = some (some (.ref fl))
  lnF : PySem.W.isFn K (.ref fl) = true
/-- iter(self.fld), self.fld a tuple -/
def spIt (K : PySem.W.Frag) (C : Addr) (fld : Str) : Sp := fun vs H Q _ => ∃ (a dx l : Addr) (fs : List (Str × V)) (zs : List V), vs = [.ref a] ∧ H a = some (.ins C dx fs) ∧ fs.lookup fld = some (.ref l) ∧ SqT K H l zs ∧ ∀ it, H it = none → Q (.ref it) (upd H it (TiO l it 0))
/-- len(self.fld) -/
def spLn (K : PySem.W.Frag) (C : Addr) (fld : Str) : Sp := fun vs H Q _ => ∃ (a dx l : Addr) (fs : List (Str × V)) (zs : List V), vs = [.ref a] ∧ H a = some (.ins C dx fs) ∧ fs.lookup fld = some (.ref l) ∧ SqT K H l zs ∧ Q (.int zs.length) H
def rListT (K : PySem.W.Frag) (C : Addr) (fld : Str) : List V → Hp → VK → Prop := fun xs H Q => ∃ (a dx l : Addr) (fs : List (Str × V)) (zs : List V), xs = [.ref a] ∧ H a = some (.ins C dx fs) ∧ fs.lookup fld = some (.ref l) ∧ SqT K H l zs ∧
  ∀ q it, H q = none → H it = none → q ≠ it → Q (.ref q) (upd (upd H it (TiE it)) q (.lst zs))
variable {fld : Str}
theorem hint_own {Q : Bool → Shared → Prop} {zs : List V} (sb : Sub X n A1.in1) (hc : IlC X.K C fi fl) (FL : FnOk X.prog X.w X.K X.mg X.base CL n fl fdL psL (spLn X.K C fld)) (bL : Binds X.K fdL psL []) (xL : NoX CL) (I : Inv X pins σ H s)
    (ha : H a = some (.ins C dx fs)) (hf : fs.lookup fld = some (.ref l)) (hq : SqT X.K H l zs) (hz : zs.length ≤ sizeLine) {Ee : Value → Shared → Prop} (h : ∀ s', Inv X pins σ H s' → Q (decide (zs.length ≠ 0)) s') : wpAny (model X.prog X.w) A1 (Builtin.List.listLengthHint (.ref a)) Q Ee s := by
  obtain ⟨mA, J, _⟩ := ins_get I.hok ha
  obtain ⟨od, J, _⟩ := J.look
  unfold Builtin.List.listLengthHint
  refine wpAny_bind (wpAny_bind (J.type.here ((PySem.W.looks_findIn I.kIn hc.ln).here ?_)))
  refine PySem.W.KFB.if_not rfl ?_
  refine PySem.W.KFB.if_so rfl ?_
  refine wpAny_bind (wpAny_rule (wpAny_bind (wpAny_attempt (len_fn I.kIn J hc.ln hc.lnF (wpAny_mono (call_mine (a := a) (Ee := fun _ _ => False) (Q := fun v H' => v = .int zs.length ∧ H' = H) sb FL bL xL I ⟨a, dx, l, fs, zs, rfl, ha, hf, hq, rfl, rfl⟩) (fun r s' hr => ?_) fun _ _ y => y.elim)))))
  obtain ⟨v, H', I', rv, rfl, rfl⟩ := hr
  obtain ⟨t, rfl⟩ := rv
  have hs : sizeLine = 16777216 := sizeLine_eq
  refine ⟨zs.length, t, rfl, by omega, by omega, ?_⟩
  show wpAny _ _ (if Builtin.List.listTooLong (zs.length : Int).toNat = true then _ else pure ((zs.length : Int) != 0)) _ _ _
  rw [if_neg (by rw [Int.toNat_natCast, notLongL hz]; exact Bool.false_ne_true)]
  refine wpAny_pure ?_
  have e : ((zs.length : Int) != 0) = decide (zs.length ≠ 0) := by
    by_cases z : zs.length = 0
    · rw [z]; rfl
    · rw [decide_eq_true z, bne_iff_ne]; omega
  rw [e]
  exact h _ (I'.tok _)
theorem upd_comm {p q : Addr} {o u : HO} (h : p ≠ q) : upd (upd H p o) q u = upd (upd H q u) p o := by
  funext b
  by_cases h1 : b = q
  · subst h1; rw [upd_same, upd_ne (fun z => h z.symm), upd_same]
  · rw [upd_ne h1]
    by_cases h2 : b = p
    · subst h2; rw [upd_same, upd_same]
    · rw [upd_ne h2, upd_ne h2, upd_ne h1]
theorem ext_own {q : Addr} {zs : List V} {Rs : Result → Shared → Prop} (sb : Sub X (n + 1) A1.in1) (hh : A1.handled = none) (hc : IlC X.K C fi fl) (FI : FnOk X.prog X.w X.K X.mg X.base CI n fi fdI psI (spIt X.K C fld)) (bI : Binds X.K fdI psI []) (xI : NoX CI)
    (FL : FnOk X.prog X.w X.K X.mg X.base CL n fl fdL psL (spLn X.K C fld)) (bL : Binds X.K fdL psL []) (xL : NoX CL) (I : Inv X pins σ (upd H q (.lst [])) s) (hq0 : H q = none)
    (ha : H a = some (.ins C dx fs)) (hf : fs.lookup fld = some (.ref l)) (ht : SqT X.K H l zs) (hz : zs.length ≤ sizeLine) (hd : ∀ it s', H it = none → it ≠ q → Inv X pins σ (upd (upd H it (TiE it)) q (.lst zs)) s' → Rs (.ok (.ret .none)) s') :
    wpAny (model X.prog X.w) A1.in1 (Builtin.List.listExtendWith (.ref q) (.ref a) .none)
      (fun fin s' => match fin with | .done f => Rs (.ok f) s' | .again c' => c'.quiet = true ∧ codeAny (model X.prog X.w) A1 c' Rs s') (fun e s' => Rs (.error e) s') s := by
  have hqa : a ≠ q := fun z => by rw [z, hq0] at ha; cases ha
  have hql : l ≠ q ∨ True := .inr trivial
  have ex1 : _root_.Evl.Ex H (upd H q (.lst [])) := fun b o h => by rw [upd_ne (fun z => by rw [z, hq0] at h; cases h)]; exact h
  have ha1 : (upd H q (.lst [])) a = some (.ins C dx fs) := ex1 _ _ ha
  obtain ⟨mA, J, _⟩ := ins_get I.hok ha1
  obtain ⟨od, J, _⟩ := J.look
  obtain ⟨m0, hF⟩ := I.fr
  unfold Builtin.List.listExtendWith
  refine wpAny_bind (J.type.here ?_)
  have h1 : Builtin.List.listSameRef (.ref q) (.ref a) = false := by simp [Builtin.List.listSameRef, hqa.symm]
  have h2 : (Value.ref C == Value.type "list") = false := rfl
  have h3 : (Value.ref C == Value.type "tuple") = false := rfl
  simp only [h1, h2, h3, Bool.or_false, Bool.false_eq_true, if_false]
  refine wpAny_bind (PySem.W.owit_iter hF I.ok.mod.kin J hc.it hc.itF (wpAny_mono (call_mine (a := a) (Ee := fun _ _ => False) (Q := fun v H' => ∃ it, v = .ref it ∧ (upd H q (.lst [])) it = none ∧ H' = upd (upd H q (.lst [])) it (TiO l it 0)) (Sub.mono sb (Nat.le_succ _)) FI bI xI I
    ⟨a, dx, l, fs, zs, rfl, ha1, hf, _root_.Evl.ex_t ex1 ht, fun it hit => ⟨it, rfl, hit, rfl⟩⟩) (fun u s' hu => ?_) fun _ _ y => y.elim))
  obtain ⟨v, H', I', rv, it, rfl, hit, rfl⟩ := hu
  cases rv
  have hiq : it ≠ q := fun z => by rw [z, upd_same] at hit; cases hit
  have hi0 : H it = none := by rw [upd_ne hiq] at hit; exact hit
  rw [upd_comm hiq.symm] at I'
  have gi := tiO_get I' (by rw [upd_ne hiq, upd_same])
  unfold PySem.W.OwitIt
  refine wpAny_specialOf gi.typeIs F.slot_tuple_iterator_next.lookup ?_
  have ex2 : _root_.Evl.Ex H (upd (upd H it (TiO l it 0)) q (.lst [])) := fun b o h => by
    rw [upd_ne (fun z => by rw [z, hq0] at h; cases h), upd_ne (fun z => by rw [z, hi0] at h; cases h)]; exact h
  refine wpAny_bind (wpAny_holding (hint_own (Sub.in1 sb) hc FL bL xL I' (ex2 _ _ ha) hf (_root_.Evl.ex_t ex2 ht) hz fun s2 I2 => ?_))
  have loop : ∀ s3, Inv X pins σ (upd (upd H it (TiO l it 0)) q (.lst [])) s3 → codeAny (model X.prog X.w) A1 (.builtin "list.extend.loop" ⟨[.ref q, .ref it, .none], []⟩) Rs s3 := fun s3 I3 =>
    ext_loop (l := l) hh hz hiq.symm (fun H' s' I' e => hd it s' hi0 hiq (by rw [← e]; exact I')) (fun H2 k => _root_.Evl.ex_t (fun b o h => by rw [k b (fun z => by rw [z, hi0] at h; cases h) (fun z => by rw [z, hq0] at h; cases h)]; exact h) ht) zs.length 0 s3 (by omega) (Nat.zero_le _) I3
  refine wpAny_ite_split (fun _ => ?_) (fun _ => wpAny_pure ⟨plainId_quiet PySem.F.plain_extend_loop _, loop _ I2⟩)
  obtain ⟨z, its, k, r3, hl3, e3⟩ := I2.lstM upd_same
  cases r3
  refine wpAny_bind (wpAny_rule (wpAny_bind ?_))
  show wpAny _ _ (updateSeq q (·.push .none) >>= fun _ => updateSeq q (·.pop)) _ _ _
  refine wpAny_bind (wpAny_updateSeq e3 rfl ?_)
  have I4 := I2.lset (f := (·.push Value.none)) (its' := [Value.none]) (ys := [.non]) (t' := s2.toks) upd_same e3 (by simp) (.cons rfl .nil) (by rw [List.length_singleton, sizeLine_eq]; decide)
  obtain ⟨z4, its4, k4, r4, hl4, e4⟩ := I4.lstM upd_same
  obtain ⟨u4, rfl, ru4⟩ := r4.one
  refine wpAny_updateSeq e4 rfl ?_ (by show 1 ≤ sizeLine; rw [sizeLine_eq]; decide) (by show 0 ≤ sizeLine + 1; exact Nat.zero_le _)
  refine wpAny_pure ⟨plainId_quiet PySem.F.plain_extend_loop _, loop _ ?_⟩
  have I5 := I4.lset (f := (·.pop)) (its := [u4]) (its' := []) (ys := []) (t' := s2.toks) upd_same e4 (by rfl) .nil (Nat.zero_le _)
  rw [upd_upd, upd_upd] at I5
  exact I5
/-- list(o) -/
theorem call_listT (hm : X.calm = true) (hc : IlC X.K C fi fl) (FI : FnOk X.prog X.w X.K X.mg X.base CI n fi fdI psI (spIt X.K C fld)) (bI : Binds X.K fdI psI []) (xI : NoX CI)
    (FL : FnOk X.prog X.w X.K X.mg X.base CL n fl fdL psL (spLn X.K C fld)) (bL : Binds X.K fdL psL []) (xL : NoX CL) (hr : Room (n + 3) X.A) : CallR X (.type "list") (rListT X.K C fld) := by
  intro pins s σ H xs us Q I rv h
  obtain ⟨a, dx, l, fs, zs, rfl, ha, hf, ht, hq⟩ := h
  obtain ⟨u, rfl, ru⟩ := rv.one
  cases ru
  have sb : Sub X (n + 1) X.A.in1.in1 := Sub.in1 (Sub.in1 (⟨hr, rfl⟩ : Sub X (n + 3) X.A))
  obtain ⟨_, _, _, hz⟩ := I.tuple ht
  refine callType_codes (Q₁ := fun obj s₁ => obj = .ref s.heap.objs.size ∧ s₁ = { s with heap := s.heap.push { cls := .type "list", data := .seq #[] } }) PySem.F.called_list (PySem.F.typeCall_list_1 _) PySem.F.entry_list_init (code_list_new _ ⟨rfl, rfl⟩) fun obj s₁ h₁ => ?_
  obtain ⟨rfl, rfl⟩ := h₁
  have hS : (s.heap.push { cls := .type "list", data := .seq #[] }).get? s.heap.objs.size = some { cls := .type "list", data := .seq #[] } := Heap.get?_push_size _ rfl
  have fr : H s.heap.objs.size = none := I.hok.fresh (Nat.le_refl _)
  refine ⟨⟨_, hS, rfl⟩, PySem.F.args_list_init_2 _ _, ?_⟩
  have I1 : Inv X pins σ (upd H s.heap.objs.size (.lst [])) { s with heap := s.heap.push { cls := .type "list", data := .seq #[] } } := I.lnew (its := []) (t' := s.toks) .nil (Nat.zero_le _)
  show wpAny _ _ (do let old ← Builtin.List.listItems (.ref s.heap.objs.size); Builtin.List.listUpdate (.ref s.heap.objs.size) (fun _ => #[]); letGo old.toList.reverse; Builtin.List.listExtendWith (.ref s.heap.objs.size) (.ref a) .none) _ _ _
  refine wpAny_bind (by
    unfold Builtin.List.listItems
    refine wpAny_bind (wpAny_seqItems hS rfl (wpAny_pure ?_))
    show wpAny _ _ (updateSeq s.heap.objs.size (fun _ => #[]) >>= fun _ => letGo (#[] : Array Value).toList.reverse >>= fun _ => Builtin.List.listExtendWith (.ref s.heap.objs.size) (.ref a) .none) _ _ _
    refine wpAny_bind (wpAny_updateSeq hS rfl ?_)
    have I2 := I1.lset (f := fun _ => #[]) (its := []) (its' := []) (ys := []) (t' := s.toks) upd_same hS rfl .nil (Nat.zero_le _)
    rw [upd_upd] at I2
    exact wpAny_bind (wpAny_letGo (ext_own (A1 := X.A.in1) (Rs := wants (fun r s₂ => r = .none ∧ EP X pins σ Q (.ref s.heap.objs.size) s₂) X.xe) sb (I.ok.hd hm) hc FI bI xI FL bL xL I2 fr ha hf ht hz
      fun it s' h1 h2 I' => ⟨rfl, .ref s.heap.objs.size, _, I', rfl, hq _ _ fr h1 h2.symm⟩)))
end
end L2
/-! DhMore -/
set_option Elab.async false
set_option linter.all false
set_option maxRecDepth 100000
set_option maxHeartbeats 4000000
namespace Dh
open PySem PySem.Spec L2
open _root_.Evl (Ex)
/-! ### dicts, fields, locks -/
section
variable {σ : L2.St} {H : Hp} {Q : VK} {v : V} {ta tb te tl tk tv : TE} {t u : TS} {K : PySem.W.Frag} {D : Ends} {g : TG} {tt : TT}
theorem upd_lock {d p : Addr} {o u l : HO} (h : H d = some u) (ne : p ≠ d) : upd (upd (upd H d o) p l) d u = upd H p l := by
  funext a
  unfold upd
  by_cases q : a = d
  · subst q
    rw [if_pos rfl, if_neg (fun z => ne z.symm), h]
  · rw [if_neg q]
    by_cases q2 : a = p
    · rw [if_pos q2, if_pos q2]
    · rw [if_neg q2, if_neg q2, if_neg q]
theorem i_lock {d : Addr} {u : HO} {t : TE} (h : H d = some u) (m : Mut (some u)) (k : ∀ od, t σ (upd H d (.frz od u)) fun v H' => H' d = some (.frz od u) ∧ Q v (upd H' d u)) : tLockE t σ H Q := ⟨d, u, h, m, k⟩
theorem i_dnew (k : ∀ p, H p = none → Q (.ref p) (upd H p (.dK []))) : tDNewK σ H Q := k
theorem i_dput (k : tv σ H fun v H1 => ta σ H1 fun x H2 => tk σ H2 fun y H3 => ∃ a H4, x = .ref a ∧ DPut H3 a y v H4 ∧ D.nx σ H4) : sDPut ta tk tv D σ H := k
theorem i_dputI {p : Addr} {kvs : List (Key × V)} {n : Int} {r : Hp → Prop} (h : H p = some (.dK kvs)) (l : kvs.length < sizeLine) (k : r (upd H p (.dK (putK kvs (Sum.inl n) v)))) : ∃ a H4, V.ref p = .ref a ∧ DPut H a (.int n) v H4 ∧ r H4 := ⟨p, _, rfl, DPut.k (k := Sum.inl n) h l, k⟩
theorem i_dget (k : ta σ H fun x H1 => tk σ H1 fun y H2 => ∃ a v, x = .ref a ∧ DGet H2 a y (some v) ∧ Q v H2) : tDGet ta tk σ H Q := k
theorem i_dgetI {p : Addr} {kvs : List (Key × V)} {n : Int} {w : V} {r : V → Prop} (h : H p = some (.dK kvs)) (e : valV kvs (Sum.inl n) = some w) (k : r w) : ∃ a v, V.ref p = .ref a ∧ DGet H a (.int n) (some v) ∧ r v := ⟨p, w, rfl, by rw [← e]; exact DGet.k (k := Sum.inl n) h, k⟩
theorem i_dnotin (k : tk σ H fun y H1 => ta σ H1 fun x H2 => ∃ a o, x = .ref a ∧ DGet H2 a y o ∧ Q (.bl (!o.isSome)) H2) : tDNotIn tk ta σ H Q := k
theorem i_din (k : tk σ H fun y H1 => ta σ H1 fun x H2 => ∃ a o, x = .ref a ∧ DGet H2 a y o ∧ Q (.bl o.isSome) H2) : tDIn tk ta σ H Q := k
theorem i_dnotinI {p : Addr} {kvs : List (Key × V)} {n : Int} {r : Option V → Prop} (h : H p = some (.dK kvs)) (k : r (valV kvs (Sum.inl n))) : ∃ a o, V.ref p = .ref a ∧ DGet H a (.int n) o ∧ r o := ⟨p, _, rfl, DGet.k (k := Sum.inl n) h, k⟩
theorem putK_le {kvs : List (Key × V)} {k : Key} {x : V} : (putK kvs k x).length ≤ kvs.length + 1 := by
  unfold putK
  split <;> simp
theorem i_dsetd {tx : TE} (k : ta σ H fun x H1 => ∃ a, x = .ref a ∧ IsD H1 a ∧ tk σ H1 fun y H2 => tx σ H2 fun z H3 => ∃ (kvs : List (Key × V)) (k : Key), H3 a = some (.dK kvs) ∧ y = kV k ∧ kvs.length < sizeLine ∧ (∀ v, valV kvs k = some v → Q v H3) ∧ (valV kvs k = none → Q z (upd H3 a (.dK (putK kvs k z))))) : tDSetd ta tk tx σ H Q := k
theorem i_isd {p : Addr} {kvs : List (Key × V)} {r : Addr → Prop} (h : H p = some (.dK kvs)) (k : r p) : ∃ a, V.ref p = .ref a ∧ IsD H a ∧ r a := ⟨p, rfl, .inl ⟨kvs, Rd.of h⟩, k⟩
theorem i_fld {f : Str} (k : ta σ H fun x H1 => ∃ a C dx fs v, x = .ref a ∧ H1 a = some (.ins C dx fs) ∧ Cls K C ∧ NoAttr K C f ∧ fs.lookup f = some v ∧ Q v H1) : tFld K ta f σ H Q := k
theorem i_fldV {a C dx : Addr} {fs : List (Str × V)} {f : Str} (h : H a = some (.ins C dx fs)) (c : Cls K C) (n : NoAttr K C f) (l : fs.lookup f = some v) (k : Q v H) : ∃ a' C dx fs v, V.ref a = .ref a' ∧ H a' = some (.ins C dx fs) ∧ Cls K C ∧ NoAttr K C f ∧ fs.lookup f = some v ∧ Q v H := ⟨a, C, dx, fs, v, rfl, h, c, n, l, k⟩
theorem i_sfld {f : Str} (k : tv σ H fun y H1 => ta σ H1 fun x H2 => ∃ a C dx fs, x = .ref a ∧ H2 a = some (.ins C dx fs) ∧ Cls K C ∧ NoAttr K C f ∧ fs.length < 1000 ∧ D.nx σ (upd H2 a (.ins C dx (putF f y fs)))) : sFld K ta tv f D σ H := k
theorem i_sfldV {a C dx : Addr} {fs : List (Str × V)} {f : Str} {r : Hp → Prop} (h : H a = some (.ins C dx fs)) (c : Cls K C) (n : NoAttr K C f) (l : fs.length < 1000) (k : r (upd H a (.ins C dx (putF f v fs)))) : ∃ a' C dx fs, V.ref a = .ref a' ∧ H a' = some (.ins C dx fs) ∧ Cls K C ∧ NoAttr K C f ∧ fs.length < 1000 ∧ r (upd H a' (.ins C dx (putF f v fs))) := ⟨a, C, dx, fs, rfl, h, c, n, l, k⟩
/-! a dict comprehension -/
def RawD (J : It) (g : TG) (tt : TT) (tk tv : TE) (vs : List Nat) (σ : L2.St) (H1 : Hp) (Q : VK) : Prop := ∀ D, H1 D = none → ∃ W : Nat → Nat → Hp → Prop, (∃ m, W 0 m (upd H1 D (.dK []))) ∧ ∀ i m H, W i m H →
  (J.stop i H ∧ Q (.ref D) H) ∨ (J.go i H ∧ ∃ Nx : Hp → Prop, (∀ H', Nx H' → ∃ m', m' < m ∧ W (i + 1) m' H') ∧ ∀ x H', J.yld i H x H' → g x (wipe σ vs) H' fun σ2 H2 => wipe σ2 vs = wipe σ vs ∧ tt σ2 H2 fun b H3 =>
    if b = true then tk σ2 H3 fun y H4 => tv σ2 H4 fun z H5 => ∃ kvs k, y = kV k ∧ H5 D = some (.dK kvs) ∧ kvs.length < sizeLine ∧ Nx (upd H5 D (.dK (putK kvs k z))) else Nx H3)
theorem i_dcT {vs : List Nat} (k : tl σ H (AtT K (RawD · g tt tk tv vs σ · Q))) : tDc (iTup K tl) g tt tk tv vs σ H Q := k
theorem i_dcL {vs : List Nat} (k : tl σ H (AtL K (RawD · g tt tk tv vs σ · Q))) : tDc (iList K tl) g tt tk tv vs σ H Q := k
theorem valV_none_of {kvs : List (Key × V)} {k : Key} (h : ∀ p ∈ kvs, p.1 ≠ k) : valV kvs k = none := by
  induction kvs with
  | nil => rfl
  | cons a r ih =>
    rw [valV_neg (h a List.mem_cons_self)]
    exact ih fun p hp => h p (List.mem_cons_of_mem _ hp)
theorem dc_pure {J : It} {n j : Nat} {G : Hp → Prop} {Y : Nat → Hp → V → Hp → Prop} (w : Walk J n G Y) (kf : Nat → Key) (vf : Nat → V) (hn : n < sizeLine) (x : Nat → V) (hd : ∀ a b, a < b → b < n → kf a ≠ kf b) (hG : ∀ H', Ex H H' → G H') (hY : ∀ i H0 v H', i < n → Y i H0 v H' → H' = H0 ∧ v = x i)
    (hk : ∀ i H' (Q' : VK), i < n → Ex H H' → Q' (kV (kf i)) H' → tk ((σ.set j none).set j (some (x i))) H' Q')
    (hv : ∀ i H' (Q' : VK), i < n → Ex H H' → Q' (vf i) H' → tv ((σ.set j none).set j (some (x i))) H' Q')
    (k : ∀ p, H p = none → Q (.ref p) (upd H p (.dK ((List.range n).map fun i => (kf i, vf i))))) : RawD J (gName j) tYes tk tv [j] σ H Q := by
  intro Dl hD
  refine ⟨fun i m H' => m = n - i ∧ i ≤ n ∧ H' = upd H Dl (.dK ((List.range i).map fun i => (kf i, vf i))), ⟨n, by simp, Nat.zero_le _, rfl⟩, fun i m H' ⟨hm, hi, e⟩ => ?_⟩
  subst e
  by_cases hlt : i < n
  · refine .inr ⟨w.goes i _ hlt (hG _ (Ex.new hD)), fun H2 => H2 = upd H Dl (.dK ((List.range (i + 1)).map fun i => (kf i, vf i))), fun H2 e => ⟨n - (i + 1), by omega, rfl, by omega, e⟩, fun v H2 y => ?_⟩
    obtain ⟨rfl, rfl⟩ := hY _ _ _ _ hlt (w.yields i _ v H2 hlt (hG _ (Ex.new hD)) y)
    refine ⟨wipe_set _ _ _, ?_⟩
    dsimp only [tYes]
    refine iteT (hk i _ _ hlt (Ex.new hD) (hv i _ _ hlt (Ex.new hD) ⟨_, kf i, rfl, upd_same, by simp; omega, ?_⟩))
    show _ = _
    rw [upd_upd, putK_new _ (valV_none_of ?_), List.range_succ, List.map_append]; rfl
    intro p hp
    obtain ⟨a, ha, rfl⟩ := List.mem_map.mp hp
    exact hd a i (List.mem_range.mp ha) hlt
  · have e : i = n := by omega
    subst e
    exact .inl ⟨w.stops _ (hG _ (Ex.new hD)), k Dl hD⟩
theorem fd_T {p : Addr} {xs : List V} {vs : List Nat} (h : SqT K H p xs) (k : RawD (Itt K p) g tt tk tv vs σ H Q) : AtT K (RawD · g tt tk tv vs σ · Q) (.ref p) H := ⟨p, rfl, ⟨xs, h⟩, k⟩
end
/-! ### lists by pairs -/
theorem paired_map {α β : Type} {R : α → β → Prop} {g : β → α} : ∀ {es : List β}, (∀ e ∈ es, R (g e) e) → Paired R (es.map g) es
  | [], _ => .nil
  | e :: r, h => .cons (h e List.mem_cons_self) (paired_map fun x hx => h x (List.mem_cons_of_mem _ hx))
theorem paired_get {α β : Type} {R : α → β → Prop} : ∀ {xs : List α} {ys : List β} {i : Nat} {x : α}, Paired R xs ys → xs[i]? = some x → ∃ y, ys[i]? = some y ∧ R x y
  | _, _, _, _, .nil, e => by simp at e
  | _, _, 0, _, .cons r _, e => by simp at e; subst e; exact ⟨_, rfl, r⟩
  | _, _, i + 1, x, .cons _ t, e => by
    obtain ⟨u, h1, h2⟩ := paired_get (i := i) (x := x) t (by simpa using e)
    exact ⟨u, by simpa using h1, h2⟩
theorem paired_app {α β : Type} {R : α → β → Prop} : ∀ {xs xs' : List α} {ys ys' : List β}, Paired R xs ys → Paired R xs' ys' → Paired R (xs ++ xs') (ys ++ ys')
  | _, _, _, _, .nil, h => h
  | _, _, _, _, .cons r t, h => .cons r (paired_app t h)
theorem paired_rev {α β : Type} {R : α → β → Prop} : ∀ {xs : List α} {ys : List β}, Paired R xs ys → Paired R xs.reverse ys.reverse
  | _, _, .nil => .nil
  | _, _, .cons r t => by rw [List.reverse_cons, List.reverse_cons]; exact paired_app (paired_rev t) (.cons r .nil)
theorem paired_perm {α β : Type} {R : α → β → Prop} : ∀ {xs xs' : List α}, xs'.Perm xs → ∀ {ys : List β}, Paired R xs ys → ∃ ys', Paired R xs' ys' ∧ ys'.Perm ys := by
  intro xs xs' p
  induction p with
  | nil => intro ys h; cases h; exact ⟨[], .nil, .refl _⟩
  | cons x _ ih =>
    intro ys h
    cases h with
    | cons r t =>
      obtain ⟨ys', h1, h2⟩ := ih t
      exact ⟨_ :: ys', .cons r h1, h2.cons _⟩
  | swap x y l =>
    intro ys h
    cases h with
    | cons r t =>
      cases t with
      | cons r' t => exact ⟨_, .cons r' (.cons r t), .swap _ _ _⟩
  | trans _ _ ih1 ih2 =>
    intro ys h
    obtain ⟨y1, h1, p1⟩ := ih2 h
    obtain ⟨y2, h2, p2⟩ := ih1 h1
    exact ⟨y2, h2, p2.trans p1⟩
theorem perm_lift {α β : Type} {f : β → α} : ∀ {a b : List α}, a.Perm b → ∀ {es : List β}, b = es.map f → ∃ es' : List β, es'.Perm es ∧ a = es'.map f := by
  intro a b p
  induction p with
  | nil => intro es h; exact ⟨es, .refl _, h⟩
  | cons x _ ih =>
    intro es h
    cases es with
    | nil => simp at h
    | cons e r =>
      rw [List.map_cons] at h
      injection h with h1 h2
      obtain ⟨es', q1, q2⟩ := ih h2
      exact ⟨e :: es', q1.cons _, by rw [List.map_cons, h1, q2]⟩
  | swap x y l =>
    intro es h
    cases es with
    | nil => simp at h
    | cons e r =>
      cases r with
      | nil => simp at h
      | cons e2 r =>
        rw [List.map_cons, List.map_cons] at h
        injection h with h1 h2
        injection h2 with h2 h3
        exact ⟨e2 :: e :: r, .swap _ _ _, by rw [List.map_cons, List.map_cons, h1, h2, h3]⟩
  | trans _ _ ih1 ih2 =>
    intro es h
    obtain ⟨e1, p1, q1⟩ := ih2 h
    obtain ⟨e2, p2, q2⟩ := ih1 q1
    exact ⟨e2, p2.trans p1, q2⟩
theorem paired_mem {α β : Type} {R : α → β → Prop} : ∀ {xs : List α} {ys : List β} {x : α}, Paired R xs ys → x ∈ xs → ∃ y ∈ ys, R x y
  | _, _, _, .nil, h => by simp at h
  | _, _, _, .cons r t, h => by
    rcases List.mem_cons.mp h with rfl | h
    · exact ⟨_, List.mem_cons_self, r⟩
    · obtain ⟨y, hy, q⟩ := paired_mem t h
      exact ⟨y, List.mem_cons_of_mem _ hy, q⟩
/-- two strictly ascending lists with the same members are one -/
theorem asc_perm : ∀ {a b : List Int}, a.Pairwise (· < ·) → b.Pairwise (· < ·) → a.Perm b → a = b
  | [], b, _, _, p => by rw [p.symm.eq_nil]
  | x :: a, [], _, _, p => by simp at p
  | x :: a, y :: b, ha, hb, p => by
    have hx : x ∈ y :: b := p.subset List.mem_cons_self
    have hy : y ∈ x :: a := p.symm.subset List.mem_cons_self
    have ha' := List.pairwise_cons.mp ha
    have hb' := List.pairwise_cons.mp hb
    have e : x = y := by
      rcases List.mem_cons.mp hx with h | h
      · exact h
      · rcases List.mem_cons.mp hy with h2 | h2
        · exact h2.symm
        · have := hb'.1 x h; have := ha'.1 y h2; omega
    subst e
    rw [asc_perm ha'.2 hb'.2 (List.Perm.cons_inv p)]
end Dh
/-! DhExc -/
set_option Elab.async false
set_option linter.all false
set_option maxRecDepth 100000
set_option maxHeartbeats 4000000
/-! Own rules: an error with fields, raised out of a method, caught with a name, asked for its class and its field; a def called within the suite. -/
namespace Dh
open PySem PySem.Spec PyProof.Rows L2
section
variable {P : Program} {w : World} {K : PySem.W.Frag} {mg : Str → Option Value} {base : Heap}
/-- a def that may let out an error whose context is None -/
theorem okN {x qual : Str} {st : Stmt} {f : Addr} {fd : FuncData} {N ps : List Str} {k : Nat} {sp : Sp} (F : Fun K x qual st f fd) (S : FnScope N ps (defScope st)) (len : ∀ vs H Q E, sp vs H Q E → vs.length = ps.length)
    (body : ∀ (cdv : Value) (A : Around) (outer : List Env) (s : Shared) (H : Hp) (vs : List V) (Q : VK) (E : XK), Room k (A.deeper (envOfC qual (defScope st) s.heap.objs.size f cdv)) → sp vs H Q E →
      ∃ t, PSs (cxOf (L2N.CX P w) P w K mg base N qual (defScope st) f cdv A outer s H E) (defBody st) t ∧ t { nx := fun _ H' => Q .non H', rt := Q } (start N vs) H) : FnOk P w K mg base (L2N.CX P w) (k + 1) f fd ps sp := by
  obtain ⟨_, _, _, _, _, _, cdv, _, _, rfl, lk, hcd⟩ := F.ex
  exact fn_of lk hcd S len fun A outer s H vs Q E => body cdv A outer s H vs Q E
/-- a def called while an error is handled, lets nothing out -/
theorem okH {x qual : Str} {st : Stmt} {f : Addr} {fd : FuncData} {N ps : List Str} {k : Nat} {sp : Sp} (F : Fun K x qual st f fd) (S : FnScope N ps (defScope st)) (len : ∀ vs H Q E, sp vs H Q E → vs.length = ps.length)
    (body : ∀ (cdv : Value) (A : Around) (outer : List Env) (s : Shared) (H : Hp) (vs : List V) (Q : VK) (E : XK) (p : Addr × Obj), L2H.RoomH k (A.deeper (envOfC qual (defScope st) s.heap.objs.size f cdv)) → sp vs H Q E →
      ∃ t, PSs (L2H.cxH CX0 P w K mg base N qual (defScope st) f cdv A outer s H E p) (defBody st) t ∧ t { nx := fun _ H' => Q .non H', rt := Q } (start N vs) H) : L2H.FnH P w K mg base CX0 (k + 1) f fd ps sp := by
  obtain ⟨_, _, _, _, _, _, cdv, _, _, rfl, lk, hcd⟩ := F.ex
  exact L2H.fn_ofH lk hcd S len fun A outer s H vs Q E p _ => body cdv A outer s H vs Q E p
/-- out of nothing -/
theorem takesN {X : Cx} : L2N.Takes X (fun _ _ _ _ => False) := fun _ _ ⟨_, _, _, _, _, _, _, _, _, _, _, _, _, _, _, _, z⟩ => z.elim
theorem passH {X : Cx} {E : L2.St → XK} (σ : L2.St) : PassesAt CX0 X σ (E σ) := fun _ _ _ _ _ _ h => h.elim
end
section
variable {X : Cx} {CX : CXT} {k : Nat} {f C : Addr} {fd : FuncData} {ps : List Str} {sp : Sp} {E : L2.St → XK} {m : Str} {pos apos : Pos} {e o : Expr} {es : List Expr} {ta : TE} {t : TA}
/-- o.m(e, ..), the wish about errors may look at the slots -/
def tMethS (C : Addr) (m : Str) (sp : Sp) (E : L2.St → XK) (ta : TE) (t : TA) : TE := fun σ H Q => ta σ H fun x H1 => ∃ a dx fs, x = .ref a ∧ H1 a = some (.ins C dx fs) ∧ fs.lookup m = none ∧ t σ H1 fun vs H2 => sp (x :: vs) H2 Q (E σ)
theorem pe_methE {pl : Sem Bool} (he : PE X o ta) (c : Cls X.K C) (hm : Meth X.K C m f) (F : FnOk X.prog X.w X.K X.mg X.base CX k f fd ps sp) (hr : Room k X.A) (hb : Binds X.K fd ps []) (hx : ∀ σ, PassesAt CX X σ (E σ)) (ha : PA X (e :: es) t)
    (hst : starEach (e :: es) X.env = (false, eval e X.env) :: starEach es X.env := by rfl) (hpl : (backTo pos (starEach es X.env)).any (·.1) = false := by rfl)
    (ht : eval (.Call (.Attribute o m apos) (e :: es) [] pos) X.env = (do
      let ov ← eval o X.env
      standAt apos.atName
      let (f, first) ← holding [ov] (getMethod ov m pl)
      callWith pos f first (backTo pos (starEach (e :: es) X.env)) (backToKw pos (keywordEach [] X.env))) := by rfl) :
    PE X (.Call (.Attribute o m apos) (e :: es) [] pos) (tMethS C m sp E ta t) :=
  ⟨fun pins s σ H Q I h => PySem.W.methodCall_KW (pl := pl) (thn (he.run pins s σ H _ I h) fun u s1 ⟨x, H1, I1, rx, a, dx, fs, ex, ea, l, q⟩ => by
    subst ex
    cases (show u = Value.ref a from rx)
    exact getmeth_ok I1 ea c hm l (PySem.W.callWith_K (first := [.ref a]) (h₀ := X.base) I.ok.mod.kin hm.kp (thn (ha.run pos pins s1 σ H1 _ I1 q) fun us s2 ⟨vs, H2, I2, r, q2⟩ =>
      ⟨I2.kIn, run_fnS (us := .ref a :: us) (vs := .ref a :: vs) F hr hb (hx σ) I2 (.cons rfl r) q2⟩) hst hpl)) ht⟩
end
section
variable {X : Cx}
/-- isinstance(error, c), the caught error has its dict at dd -/
def rIsX (K : PySem.W.Frag) (D dd a : Addr) : List V → Hp → VK → Prop := fun xs H Q => ∃ (c : V) (cv : Value) (b : Bool) (fs : List (Str × V)), xs = [.ref a, c] ∧ (∀ u, RelV c u → u = cv) ∧ PySem.W.kitOne K (.ref D) cv = some b ∧ H dd = some (.xd fs) ∧ Q (.bl b) H
theorem call_isX {a D dd : Addr} {oe : Obj} {cls : Value} {d : Option Addr} {pn : List (Addr × Obj)} (C : ExcC X.K D) (hz : Zc cls d oe) (hf : ∃ vs, oe.data = .fields vs) : CallR (X.suite a ((a, oe) :: pn)) (.builtin "isinstance") (fun xs H Q => cls = .ref D ∧ d = some dd ∧ rIsX X.K D dd a xs H Q) := by
  intro pins s σ H xs us Q I r h
  obtain ⟨ec, ed, c, cv, b, fs, rfl, hcv, e, hx, q⟩ := h
  subst ec ed
  obtain ⟨u1, u2, rfl, r1, r2⟩ := vals2 r
  cases (show u1 = Value.ref a from r1)
  cases hcv _ r2
  obtain ⟨ha, _⟩ := I.pin (a, oe) (List.mem_append_left _ List.mem_cons_self)
  obtain ⟨vs, hd⟩ := hf
  have ho : ObjOk X.prog X.w H s.heap dd (.xd fs) := I.hok dd _ hx
  obtain ⟨mA, hns, _⟩ := ho
  obtain ⟨od, hod, _⟩ := lookIn_ns hns
  have J : PySem.W.InstAt s.heap a oe D (some od) := ⟨ha, hz.1, by unfold PySem.W.notCls; rw [hd] <;> rfl, by rw [hz.2]; exact hod⟩
  have hcl : (PySem.W.clsIn X.K D).isSome = true := by
    obtain ⟨cd, hc, _⟩ := PySem.W.any_some C.hd
    rw [hc]; rfl
  exact PySem.W.kia_one (PySem.W.kitx_exc hcl C.hg C.hk C.hs C.ha C.hn C.ht C.hm) I.kIn J e (fun z => nomatch z) fun tk => ⟨.bl b, H, I.kept (t' := tk) fun _ _ z => z, rfl, q⟩
end
/-- C(e, ..), C's own __init__ keeping sp; the error's context is None -/
theorem mkN {X : Cx} {CX : CXT} {x : Str} {C fI : Addr} {k : Nat} {fd : FuncData} {ps : List Str} {sp : Sp} {e : Expr} {es : List Expr} {ta : TA} {p pos : Pos} (T : OexC X.K C) (iC : PySem.W.findIn X.K (.ref C) "__init__" = some (some (.ref fI))) (tI : PySem.W.typeIn X.K (.ref fI) = some (.type "function"))
    (F1 : FnOk X.prog X.w X.K X.mg X.base CX k fI fd ps sp) (hr : Room (k + 1) X.A) (hb : Binds X.K fd ps []) (hx : Passes CX X (fun _ _ _ => False)) (hg : Gl X x) (hm : X.mg x = some (.ref C)) (ha : PA X (e :: es) ta)
    (hdb : (x == ("__debug__" : Str)) = false := by decide) (he : starEach (e :: es) X.env = (false, eval e X.env) :: starEach es X.env := by rfl) (hpl : (backTo pos (starEach es X.env)).any (·.1) = false := by rfl) :
    L2N.PMk X (.Call (.Name x p) (e :: es) [] pos) (tMkO C sp [] ta) := by
  intro pins s σ H Q I h
  obtain ⟨nm0, qn0, N0, bs0, bm, sn0, sub0, ab0, col0, dd0, k00, k01, k02, k03, k05, hC, hbm⟩ := T.cls
  refine wpAny_Call_Name_kw (ld_glob I hg hm ?_ hdb)
  refine PySem.W.callWith_K (h₀ := X.base) I.ok.mod.kin T.kC (thn (ha.run pos pins s σ H _ I h) fun us s1 hv => ?_) he hpl
  obtain ⟨vs, H1, I1, r1, hz, q1⟩ := hv
  refine ⟨I1.kIn, ?_⟩
  obtain ⟨hp, g, dr, tk, os⟩ := s1
  have sz : hp.objs.size ≤ hp.objs.size + 1 := Nat.le_succ _
  have kk : ∀ b o, hp.get? b = some o → ((hp.push (PySem.W.kdv_tup us)).push (PySem.HandSPX.excO C hp.objs.size)).get? b = some o := fun b o z => Heap.get?_push_of_some _ (Heap.get?_push_of_some _ z)
  have gg : ((hp.push (PySem.W.kdv_tup us)).push (PySem.HandSPX.excO C hp.objs.size)).get? (hp.objs.size + 1) = some (PySem.HandSPX.excO C hp.objs.size) := by heap_get
  have I2 : Inv X pins σ (upd H1 (hp.objs.size + 1) (exo (hp.objs.size + 1) C none)) ⟨((hp.push (PySem.W.kdv_tup us)).push (PySem.HandSPX.excO C hp.objs.size)), g, dr, tk, os⟩ := I1.laid kk sz (exo_ok gg)
  have hq := q1 (hp.objs.size + 1) (I1.hok.fresh sz)
  rw [List.append_nil] at hq
  have r2 : Vals (V.ref (hp.objs.size + 1) :: vs) (Value.ref (hp.objs.size + 1) :: us) := .cons rfl r1
  have hl : (Value.ref (hp.objs.size + 1) :: us ++ []).length = ps.length := by
    rw [List.append_nil, ← F1.len _ _ _ _ hq]
    exact r2.length.symm
  have b2 := hb ⟨((hp.push (PySem.W.kdv_tup us)).push (PySem.HandSPX.excO C hp.objs.size)), g, dr, tk, os⟩ (Value.ref (hp.objs.size + 1) :: us) I2.kIn hl
  rw [List.append_nil] at b2
  have hus : us.length ≤ sizeLine := by rw [← Paired.length r1, sizeLine_eq]; omega
  refine wpAny_call (PySem.HandSPX.call_own F.excBase_ValueError (fun Y => PySem.HandSPX.refsVE_contains Y bm hbm) (I1.kIn _ _ hC) (PySem.W.looks_findIn I1.kIn iC) (fun self => PySem.W.bind_fn I1.kIn self tI) hus
    (codeAny_mono (F1.run _ X.stack _ _ ⟨Value.ref (hp.objs.size + 1) :: us, []⟩ _ _ _ (fun _ _ _ => False) (hr.make C us []) (I2.env0.make C us []) b2 r2 hq) fun r s' hq' => ?_))
  match r, hq' with
  | .error er, hq' => exact hx pins σ _ _ er s' I2 hq'
  | .ok (.ret u), hq' =>
    obtain ⟨v, H2, os2, bare2, un2, hok2, rv, ev, d, fs, ea, ed, hd1, q2⟩ := hq'
    subst ev
    obtain ⟨h2, g2, d2, t2, os'⟩ := s'
    obtain ⟨t0, G, J, kG, ge, hoe, na⟩ := mk_end0 (d2 := d2) (t2 := t2) I1 sz kk un2 hok2 os2 bare2 ea ed hd1
    exact ⟨rv, hp.objs.size + 1, _, _, ⟨G, g2, d2, t2, os'⟩, _, .ref C, some d, rfl, J, kG, ge, hoe, ⟨rfl, rfl, fun vs hv => by cases hv; rfl⟩, rfl, rfl, na, rfl, bare2, raises_own T.exC T.tyC, q2⟩
def ddOf (d : Option Addr) : Addr := d.getD 0
theorem hotc {X : Cx} {a : Addr} {oe : Obj} {cls : Value} {d : Option Addr} {pn : List (Addr × Obj)} (hz : L2N.Zn cls d oe) (hf : ∃ vs, oe.data = .fields vs) : L2H.HotC (X.suite a ((a, oe) :: pn)) :=
  ⟨(a, oe), ⟨rfl, by obtain ⟨vs, h⟩ := hf; exact ⟨vs, h, hz.2.2 vs h⟩⟩, List.mem_cons_self⟩
theorem rh {k : Nat} {A : Around} {h : Option Value} (r : Room k A) : L2H.RoomH k (A.mark h) := ⟨r.dp, r.un⟩
theorem i_fldR {K : PySem.W.Frag} {H : Hp} {v : V} {a C dx : Addr} {fs : List (Str × V)} {f : Str} {r : V → Prop} (h : H a = some (.ins C dx fs)) (c : Cls K C) (n : NoAttr K C f) (l : fs.lookup f = some v) (k : r v) : ∃ a' C dx fs v, V.ref a = .ref a' ∧ H a' = some (.ins C dx fs) ∧ Cls K C ∧ NoAttr K C f ∧ fs.lookup f = some v ∧ r v := ⟨a, C, dx, fs, v, rfl, h, c, n, l, k⟩
end Dh
/-! Mir -/
set_option Elab.async false
set_option linter.all false
set_option maxRecDepth 100000
set_option maxHeartbeats 4000000
namespace Mi
open PySem PySem.Spec L2 Dh
open _root_.Evl (Ex)
/-! ### what a value is worth -/
structure R (α : Type) where
  h : α → V → Hp → Prop
  ex : ∀ {a v F F'}, Ex F F' → h a v F → h a v F'
def rInt : R Int := ⟨fun i v _ => v = .int i, fun _ h => h⟩
def rBl : R Bool := ⟨fun i v _ => v = .bl i, fun _ h => h⟩
def rStr : R Str := ⟨fun i v _ => v = .str i, fun _ h => h⟩
def rNon : R Unit := ⟨fun _ v _ => v = .non, fun _ h => h⟩
def rAt (p : Addr) : R Unit := ⟨fun _ v _ => v = .ref p, fun _ h => h⟩
def All {α : Type} (r : R α) (F : Hp) : List α → List V → Prop := Paired fun a v => r.h a v F
theorem All.ex {α : Type} {r : R α} {F F' : Hp} (e : Ex F F') {xs : List α} {vs : List V} (h : All r F xs vs) : All r F' xs vs := Paired.mapP h fun _ _ q => r.ex e q
theorem All.len {α : Type} {r : R α} {F : Hp} {xs : List α} {vs : List V} (h : All r F xs vs) : vs.length = xs.length := (Paired.length h).symm
def rLst {α : Type} (r : R α) : R (List α) := ⟨fun xs v F => ∃ p vs, v = .ref p ∧ F p = some (.lst vs) ∧ All r F xs vs, fun e ⟨p, vs, h1, h2, h3⟩ => ⟨p, vs, h1, e _ _ h2, h3.ex e⟩⟩
def rTup (K : PySem.W.Frag) {α : Type} (r : R α) : R (List α) := ⟨fun xs v F => ∃ p vs, v = .ref p ∧ SqT K F p vs ∧ All r F xs vs, fun e ⟨p, vs, h1, h2, h3⟩ => ⟨p, vs, h1, _root_.Evl.ex_t e h2, h3.ex e⟩⟩
/-! ### what a cell is worth -/
structure C (α : Type) where
  h : α → HO → Hp → Prop
  ex : ∀ {a u F F'}, Ex F F' → h a u F → h a u F'
def cLst {α : Type} (r : R α) : C (List α) := ⟨fun xs u F => ∃ vs, u = .lst vs ∧ All r F xs vs, fun e ⟨vs, h1, h2⟩ => ⟨vs, h1, h2.ex e⟩⟩
def BgL (F : Hp) (l : List V) : Prop := ∃ (n : Addr) (ns : List Int) (i h t s : Int), l = [.ref n, .int i, .int h, .int t, .int s] ∧ F n = some (.lst (ns.map V.int)) ∧ 0 ≤ i ∧ 0 ≤ h
def cBag : C Unit := ⟨fun _ u F => ∃ l, u = .lst l ∧ BgL F l, fun e ⟨l, h1, ⟨n, ns, i, h, t, s, h2, h3, h4⟩⟩ => ⟨l, h1, n, ns, i, h, t, s, h2, e _ _ h3, h4⟩⟩
/-! ### slots -/
structure Sl where
  h : Option V → Hp → Hp → Prop
  ow : List Addr
  up : ∀ {o F H F' H'}, Ex F F' → (∀ p ∈ ow, ∀ u, H p = some u → H' p = some u) → h o F H → h o F' H'
  lv : ∀ {o F H}, h o F H → ∀ p ∈ ow, H p ≠ none
def any : Sl := ⟨fun _ _ _ => True, [], fun _ _ h => h, fun _ _ h => nomatch h⟩
def val {α : Type} (r : R α) (a : α) : Sl := ⟨fun o F _ => ∃ v, o = some v ∧ r.h a v F, [], fun e _ ⟨v, h1, h2⟩ => ⟨v, h1, r.ex e h2⟩, fun _ _ h => nomatch h⟩
def own {α : Type} (p : Addr) (c : C α) (a : α) : Sl := ⟨fun o F H => o = some (.ref p) ∧ ∃ u, H p = some u ∧ c.h a u F, [p],
  fun e k ⟨h1, u, h2, h3⟩ => ⟨h1, u, k p List.mem_cons_self u h2, c.ex e h3⟩, fun ⟨_, u, h, _⟩ q hq => by rw [List.mem_singleton.mp hq, h]; exact fun z => nomatch z⟩
def owns : List Sl → List Addr
  | [] => []
  | s :: g => s.ow ++ owns g
structure RI (α : Type) where
  h : α → List V → Hp → Prop
  ex : ∀ {a v F F'}, Ex F F' → h a v F → h a v F'
  n : Nat
  ln : ∀ {a v F}, h a v F → v.length = n
  sl : α → List Sl
  hs : ∀ {a v F H}, h a v F → Paired (fun s o => Sl.h s o F H) (sl a) (v.map some)
  no : ∀ {a}, owns (sl a) = []
def rNil : RI Unit := ⟨fun _ vs _ => vs = [], fun _ h => h, 0, fun h => by rw [h]; rfl, fun _ => [], fun h => by rw [h]; exact .nil, rfl⟩
def rOne {α : Type} (r : R α) : RI α := ⟨fun a vs F => ∃ v, vs = [v] ∧ r.h a v F, fun e ⟨v, h1, h2⟩ => ⟨v, h1, r.ex e h2⟩, 1, fun ⟨v, h1, _⟩ => by rw [h1]; rfl, fun a => [val r a], fun ⟨v, h1, h2⟩ => by
  rw [h1]; exact .cons ⟨v, rfl, h2⟩ .nil, rfl⟩
def rCons {α β : Type} (r : R α) (s : RI β) : RI (α × β) := ⟨fun a vs F => ∃ v ws, vs = v :: ws ∧ r.h a.1 v F ∧ s.h a.2 ws F, fun e ⟨v, ws, h1, h2, h3⟩ => ⟨v, ws, h1, r.ex e h2, s.ex e h3⟩, s.n + 1, fun ⟨v, ws, h1, _, h2⟩ => by
  rw [h1, List.length_cons, s.ln h2], fun a => val r a.1 :: s.sl a.2, fun ⟨v, ws, h1, h2, h3⟩ => by
  rw [h1]; exact .cons ⟨v, rfl, h2⟩ (s.hs h3), s.no⟩
def rTp (K : PySem.W.Frag) {α : Type} (s : RI α) : R α := ⟨fun a v F => ∃ p vs, v = .ref p ∧ SqT K F p vs ∧ s.h a vs F, fun e ⟨p, vs, h1, h2, h3⟩ => ⟨p, vs, h1, _root_.Evl.ex_t e h2, s.ex e h3⟩⟩
def rOpt {α : Type} (r : R α) : R (Option α) := ⟨fun o v F => match o with | none => v = .non | some a => r.h a v F ∧ v ≠ .non, fun {o _ _ _} e h => by
  cases o with
  | none => exact h
  | some a => exact ⟨r.ex e h.1, h.2⟩⟩
abbrev Holds (G : List Sl) (σ : L2.St) (F H : Hp) : Prop := Paired (fun s o => s.h o F H) G σ
structure Bs where
  F : Hp
  H : Hp
  M : List Addr
  ml : ∀ p ∈ M, H p ≠ none
structure Env (b : Bs) (G : List Sl) (σ : L2.St) (F H : Hp) : Prop where
  ff : Ex b.F F
  fh : Ex F H
  hh : ∀ a o, a ∉ b.M → b.H a = some o → H a = some o
  kp : ∀ a, b.H a ≠ none → H a ≠ none
  nf : ∀ a, b.F a = none → b.H a ≠ none → F a = none
  hold : Holds G σ F H
  nd : (owns G).Nodup
  on : ∀ p ∈ owns G, F p = none ∧ (p ∈ b.M ∨ b.H p = none)
/-- from a call to its end -/
structure After (F H : Hp) (M : List Addr) (F' H' : Hp) : Prop where
  ff : Ex F F'
  fh : Ex F' H'
  hh : ∀ a o, a ∉ M → H a = some o → H' a = some o
  kp : ∀ a, H a ≠ none → H' a ≠ none
  nf : ∀ a, F a = none → H a ≠ none → F' a = none
theorem Env.after {b : Bs} {G : List Sl} {σ : L2.St} {F H : Hp} (V : Env b G σ F H) : After b.F b.H b.M F H := ⟨V.ff, V.fh, V.hh, V.kp, V.nf⟩
theorem Holds.len {G : List Sl} {σ : L2.St} {F H : Hp} (h : Holds G σ F H) : G.length = σ.length := Paired.length h
theorem Holds.at_ {F H : Hp} : ∀ {G : List Sl} {σ : L2.St} {i : Nat} {s : Sl}, Holds G σ F H → G[i]? = some s → ∃ o, σ[i]? = some o ∧ s.h o F H
  | _, _, _, _, .nil, e => by simp at e
  | _, _, 0, _, .cons r _, e => by simp at e; subst e; exact ⟨_, rfl, r⟩
  | _, _, i + 1, s, .cons _ t, e => by
    obtain ⟨u, h1, h2⟩ := Holds.at_ (i := i) (s := s) t (by simpa using e)
    exact ⟨u, by simpa using h1, h2⟩
theorem mem_owns : ∀ {G : List Sl} {i : Nat} {s : Sl} {p : Addr}, G[i]? = some s → p ∈ s.ow → p ∈ owns G
  | [], _, _, _, e, _ => by simp at e
  | x :: g, 0, s, p, e, h => by simp at e; subst e; exact List.mem_append_left _ h
  | x :: g, i + 1, s, p, e, h => List.mem_append_right _ (mem_owns (i := i) (by simpa using e) h)
theorem Holds.live {F H : Hp} : ∀ {G : List Sl} {σ : L2.St}, Holds G σ F H → ∀ p ∈ owns G, H p ≠ none := by
  intro G σ h
  induction h with
  | nil => intro p h; nomatch h
  | cons r t ih => intro p hp; exact (List.mem_append.mp hp).elim (fun z => Sl.lv _ r p z) (ih p)
/-- nothing owned changes -/
theorem Holds.up {F H F' H' : Hp} (e : Ex F F') : ∀ {G : List Sl} {σ : L2.St}, (∀ p ∈ owns G, ∀ u, H p = some u → H' p = some u) → Holds G σ F H → Holds G σ F' H' := by
  intro G σ k h
  induction h with
  | nil => exact .nil
  | cons r t ih => exact .cons (Sl.up _ e (fun p hp => k p (List.mem_append_left _ hp)) r) (ih fun p hp => k p (List.mem_append_right _ hp))
/-- .. that leaves alone what is owned -/
theorem Env.step0 {b : Bs} {G : List Sl} {σ : L2.St} {F H F' H' : Hp} {M : List Addr} (V : Env b G σ F H) (A : After F H M F' H') (hm : ∀ p ∈ M, p ∈ owns G) {G' : List Sl} {σ' : L2.St} (ow : ∀ p ∈ owns G', p ∈ owns G) (nd : (owns G').Nodup) (hold : Holds G' σ' F' H') : Env b G' σ' F' H' where
  ff := V.ff.trans A.ff
  fh := A.fh
  hh := fun a o m h => A.hh a o (fun z => by
    rcases (V.on a (hm a z)).2 with q | q
    · exact m q
    · rw [h] at q; cases q) (V.hh a o m h)
  kp := fun a h => A.kp a (V.kp a h)
  nf := fun a h1 h2 => A.nf a (V.nf a h1 h2) (V.kp a h2)
  hold := hold
  nd := nd
  on := fun p hp => ⟨A.nf p (V.on p (ow p hp)).1 (V.hold.live p (ow p hp)), (V.on p (ow p hp)).2⟩
/-- a step that changes nothing owned: new things -/
theorem Env.step {b : Bs} {G : List Sl} {σ : L2.St} {F H F' H' : Hp} (V : Env b G σ F H) (A : After F H [] F' H') : Env b G σ F' H' :=
  V.step0 A (fun _ h => nomatch h) (fun _ h => h) V.nd (V.hold.up A.ff fun p _ u h => A.hh p u (by simp) h)
/-- a new frozen thing -/
theorem After.new {F H : Hp} {p : Addr} {o : HO} (e : Ex F H) (hp : H p = none) : After F H [] (upd F p o) (upd H p o) where
  ff := Ex.new (ex_none e hp)
  fh := ex_both e
  hh := fun a u _ h => by rw [upd_ne (ne_of_none h hp)]; exact h
  kp := fun a h => by
    by_cases q : a = p
    · subst q; exact absurd hp h
    · rw [upd_ne q]; exact h
  nf := fun a h1 h2 => by rw [upd_ne (fun q => h2 (by rw [q]; exact hp))]; exact h1
theorem After.refl {F H : Hp} (e : Ex F H) (M : List Addr) : After F H M F H := ⟨Ex.refl F, e, fun _ _ _ h => h, fun _ h => h, fun _ h _ => h⟩
theorem After.trans {F H F1 H1 F2 H2 : Hp} {M : List Addr} (a : After F H M F1 H1) (b : After F1 H1 M F2 H2) : After F H M F2 H2 :=
  ⟨a.ff.trans b.ff, b.fh, fun x o m h => b.hh x o m (a.hh x o m h), fun x h => b.kp x (a.kp x h), fun x h1 h2 => b.nf x (a.nf x h1 h2) (a.kp x h2)⟩
theorem After.mono {F H F1 H1 : Hp} {M M' : List Addr} (a : After F H M F1 H1) (h : ∀ p ∈ M, p ∈ M') : After F H M' F1 H1 := ⟨a.ff, a.fh, fun x o m q => a.hh x o (fun z => m (h x z)) q, a.kp, a.nf⟩
/-! ### readings and what they are worth -/
section
variable {K : PySem.W.Frag} {b : Bs} {G : List Sl} {α β γ δ : Type}
def E (b : Bs) (G : List Sl) (te : TE) (r : R α) (f : (α → Prop) → Prop) : Prop := ∀ ⦃σ : L2.St⦄ ⦃F H : Hp⦄ ⦃Q : VK⦄ (k : α → Prop), Env b G σ F H → f k →
  (∀ a v F' H', k a → After F H (owns G) F' H' → Env b G σ F' H' → r.h a v F' → Q v H') → te σ H Q
def Tt (b : Bs) (G : List Sl) (tt : TT) (f : (Bool → Prop) → Prop) : Prop := ∀ ⦃σ : L2.St⦄ ⦃F H : Hp⦄ ⦃Q : Bool → Hp → Prop⦄ (k : Bool → Prop), Env b G σ F H → f k →
  (∀ a F' H', k a → After F H (owns G) F' H' → Env b G σ F' H' → Q a H') → tt σ H Q
def Ar (b : Bs) (G : List Sl) (ta : TA) (s : RI α) (f : (α → Prop) → Prop) : Prop := ∀ ⦃σ : L2.St⦄ ⦃F H : Hp⦄ ⦃Q : List V → Hp → Prop⦄ (k : α → Prop), Env b G σ F H → f k →
  (∀ a vs F' H', k a → After F H (owns G) F' H' → Env b G σ F' H' → s.h a vs F' → Q vs H') → ta σ H Q
theorem e_var {i : Nat} {r : R α} {a : α} (h : G[i]? = some (val r a)) : E b G (tVar i) r (fun k => k a) := fun _ _ _ _ k V q w => by
  obtain ⟨o, h1, v, rfl, h2⟩ := V.hold.at_ h
  exact ⟨v, h1, w a v _ _ q (.refl V.fh _) V h2⟩
theorem e_own {i : Nat} {p : Addr} {c : C α} {a : α} (h : G[i]? = some (own p c a)) : E b G (tVar i) (rAt p) (fun k => k ()) := fun _ _ _ _ k V q w => by
  obtain ⟨o, h1, rfl, _⟩ := V.hold.at_ h
  exact ⟨.ref p, h1, w () _ _ _ q (.refl V.fh _) V rfl⟩
theorem e_int {i : Int} : E b G (tC (.int i)) rInt (fun k => k i) := fun _ _ _ _ k V q w => w i _ _ _ q (.refl V.fh _) V rfl
theorem e_bl {i : Bool} : E b G (tC (.bl i)) rBl (fun k => k i) := fun _ _ _ _ k V q w => w i _ _ _ q (.refl V.fh _) V rfl
theorem e_str {i : Str} : E b G (tC (.str i)) rStr (fun k => k i) := fun _ _ _ _ k V q w => w i _ _ _ q (.refl V.fh _) V rfl
theorem e_non : E b G (tC .non) rNon (fun k => k ()) := fun _ _ _ _ k V q w => w () _ _ _ q (.refl V.fh _) V rfl
theorem e_none {r : R α} : E b G (tC .non) (rOpt r) (fun k => k none) := fun _ _ _ _ k V q w => w none _ _ _ q (.refl V.fh _) V rfl
/-- a two-place operator -/
def Op2 (r2 : R2) (ra : R α) (rb : R β) (rc : R γ) (g : α → β → (γ → Prop) → Prop) : Prop := ∀ ⦃a : α⦄ ⦃c : β⦄ ⦃v w : V⦄ ⦃F H : Hp⦄ ⦃Q : VK⦄ (k : γ → Prop), ra.h a v F → rb.h c w F → Ex F H → g a c k →
  (∀ y z F' H', k y → After F H [] F' H' → rc.h y z F' → Q z H') → r2 v w H Q
theorem e_op {r2 : R2} {ta tb : TE} {ra : R α} {rb : R β} {rc : R γ} {fa : (α → Prop) → Prop} {fb : (β → Prop) → Prop} {g : α → β → (γ → Prop) → Prop} (o : Op2 r2 ra rb rc g) (ha : E b G ta ra fa) (hb : E b G tb rb fb) :
    E b G (tOp r2 ta tb) rc (fun k => fa fun x => fb fun y => g x y k) := fun _ _ _ _ k V q w =>
  ha _ V q fun x v F1 H1 q1 e1 V1 r1 => hb _ V1 q1 fun y u F2 H2 q2 e2 V2 r2 => o k (ra.ex e2.ff r1) r2 V2.fh q2 fun z t F3 H3 q3 A r3 => w z t F3 H3 q3 ((e1.trans e2).trans (A.mono fun _ h => nomatch h)) (V2.step A) r3
theorem o_I0 {g : Int → Int → Int} : Op2 (rI0 fun i j => .int (g i j)) rInt rInt rInt (fun x y k => k (g x y)) := fun _ _ _ _ _ _ _ k h1 h2 e q w => ⟨_, _, h1, h2, w _ _ _ _ q (After.refl e _) rfl⟩
theorem o_I0b {g : Int → Int → Bool} : Op2 (rI0 fun i j => .bl (g i j)) rInt rInt rBl (fun x y k => k (g x y)) := fun _ _ _ _ _ _ _ k h1 h2 e q w => ⟨_, _, h1, h2, w _ _ _ _ q (After.refl e _) rfl⟩
theorem o_I {c : Int → Int → Prop} {g : Int → Int → Int} : Op2 (rI c fun i j => .int (g i j)) rInt rInt rInt (fun x y k => c x y ∧ k (g x y)) := fun _ _ _ _ _ _ _ k h1 h2 e ⟨z, q⟩ w => ⟨_, _, h1, h2, z, w _ _ _ _ q (After.refl e _) rfl⟩
theorem o_eqI : Op2 rEq rInt rInt rBl (fun x y k => k (decide (x = y))) := fun _ _ _ _ _ _ _ k h1 h2 e q w => by
  cases h1; cases h2
  exact i_eqI (w _ _ _ _ q (After.refl e _) rfl)
theorem o_neI : Op2 rNe rInt rInt rBl (fun x y k => k (!decide (x = y))) := fun _ _ _ _ _ _ _ k h1 h2 e q w => by
  cases h1; cases h2
  exact i_neI (w _ _ _ _ q (After.refl e _) rfl)
theorem o_eqS : Op2 rEq rStr rStr rBl (fun x y k => k (decide (x = y))) := fun _ _ _ _ _ _ _ k h1 h2 e q w => by
  cases h1; cases h2
  exact i_eqS (w _ _ _ _ q (After.refl e _) rfl)
theorem o_neS : Op2 rNe rStr rStr rBl (fun x y k => k (!decide (x = y))) := fun _ _ _ _ _ _ _ k h1 h2 e q w => by
  cases h1; cases h2
  exact i_neS (w _ _ _ _ q (After.refl e _) rfl)
/-- an item -/
theorem All.get {r : R α} {F : Hp} {xs : List α} {vs : List V} {i : Nat} {a : α} (h : All r F xs vs) (e : xs[i]? = some a) : ∃ v, vs[i]? = some v ∧ r.h a v F := Dh.paired_get h e
theorem All.atI {r : R α} {F : Hp} {xs : List α} {vs : List V} {i : Int} {a : α} (h : All r F xs vs) (e : atI xs i = some a) : ∃ v, L2.atI vs i = some v ∧ r.h a v F := by
  unfold L2.atI at e ⊢
  rw [h.len]
  cases q : ixN xs.length i with
  | none => rw [q] at e; cases e
  | some j => rw [q] at e; exact h.get e
theorem o_ixL {r : R α} : Op2 (rIxL K) (rLst r) rInt r (fun xs i k => ∃ a, atI xs i = some a ∧ k a) := fun _ _ _ _ _ _ _ k h1 h2 e ⟨a, ha, q⟩ w => by
  obtain ⟨p, vs, rfl, hp, A⟩ := h1
  cases h2
  obtain ⟨v, hv, hr⟩ := A.atI ha
  exact ⟨p, vs, _, v, rfl, rfl, SqL.of (e _ _ hp), hv, w a v _ _ q (After.refl e _) hr⟩
theorem o_ixT {r : R α} : Op2 (rIxT K) (rTup K r) rInt r (fun xs i k => ∃ a, atI xs i = some a ∧ k a) := fun _ _ _ _ _ _ _ k h1 h2 e ⟨a, ha, q⟩ w => by
  obtain ⟨p, vs, rfl, hp, A⟩ := h1
  cases h2
  obtain ⟨v, hv, hr⟩ := A.atI ha
  exact ⟨p, vs, _, v, rfl, rfl, _root_.Evl.ex_t e hp, hv, w a v _ _ q (After.refl e _) hr⟩
end
/-! ### statements -/
structure Pd (τ β ρ : Type) where
  nx : τ → Prop
  ct : β → Prop
  bk : β → Prop
  rt : ρ → Prop
section
variable {K : PySem.W.Frag} {b : Bs} {G : List Sl} {α γ τ τ' β ρ : Type} {Gn : τ → List Sl} {Gl : β → List Sl} {ro : ρ → V → Hp → Hp → Prop}
def S (b : Bs) (G : List Sl) (t : TS) (Gn : τ → List Sl) (Gl : β → List Sl) (ro : ρ → V → Hp → Hp → Prop) (f : Pd τ β ρ → Prop) : Prop := ∀ ⦃σ : L2.St⦄ ⦃F H : Hp⦄ ⦃D : Ends⦄ (d : Pd τ β ρ), Env b G σ F H → f d →
  (∀ x σ' F' H', d.nx x → Ex F F' → Env b (Gn x) σ' F' H' → D.nx σ' H') → (∀ x σ' F' H', d.ct x → Ex F F' → Env b (Gl x) σ' F' H' → D.ct σ' H') → (∀ x σ' F' H', d.bk x → Ex F F' → Env b (Gl x) σ' F' H' → D.bk σ' H') →
  (∀ y v F' H', d.rt y → After b.F b.H b.M F' H' → ro y v F' H' → D.rt v H') → t D σ H
/-! slots set -/
theorem Holds.set {F H : Hp} {s : Sl} {o : Option V} (h : s.h o F H) : ∀ {G : List Sl} {σ : L2.St} {i : Nat}, Holds G σ F H → Holds (G.set i s) (σ.set i o) F H
  | _, _, _, .nil => .nil
  | _, _, 0, .cons _ t => .cons h t
  | _, _, i + 1, .cons r t => .cons r (Holds.set h t)
theorem Holds.of {F H : Hp} : ∀ {G : List Sl} {σ : L2.St}, G.length = σ.length → (∀ (i : Nat) (s : Sl) (o : Option V), G[i]? = some s → σ[i]? = some o → s.h o F H) → Holds G σ F H
  | [], [], _, _ => .nil
  | s :: g, o :: σ, l, h => .cons (h 0 s o rfl rfl) (Holds.of (by simpa using l) fun i s o h1 h2 => h (i + 1) s o (by simpa using h1) (by simpa using h2))
theorem owns_set {s : Sl} : ∀ {G : List Sl} {i : Nat}, s.ow = [] → (owns (G.set i s)).Sublist (owns G)
  | [], _, _ => List.Sublist.refl _
  | x :: g, 0, h => by
    show (s.ow ++ owns g).Sublist (x.ow ++ owns g)
    rw [h]; exact List.sublist_append_right _ _
  | x :: g, i + 1, h => List.Sublist.append_left (owns_set h) _
theorem owns_same {s t : Sl} : ∀ {G : List Sl} {i : Nat}, G[i]? = some s → t.ow = s.ow → owns (G.set i t) = owns G
  | [], _, h, _ => by simp at h
  | x :: g, 0, h, e => by
    simp at h; subst h
    show t.ow ++ owns g = _
    rw [e]; rfl
  | x :: g, i + 1, h, e => by
    show x.ow ++ owns (g.set i t) = x.ow ++ owns g
    rw [owns_same (by simpa using h) e]
theorem owns_disj : ∀ {G : List Sl} {i j : Nat} {s t : Sl} {p : Addr}, G[i]? = some s → G[j]? = some t → i ≠ j → (owns G).Nodup → p ∈ s.ow → p ∉ t.ow
  | [], _, _, _, _, _, h, _, _, _, _ => by simp at h
  | x :: g, 0, 0, _, _, _, _, _, n, _, _ => absurd rfl n
  | x :: g, 0, j + 1, s, t, p, h1, h2, n, nd, hp => fun z => by
    simp at h1; subst h1
    exact (List.nodup_append.mp nd).2.2 p hp p (mem_owns (i := j) (by simpa using h2) z) rfl
  | x :: g, i + 1, 0, s, t, p, h1, h2, n, nd, hp => fun z => by
    simp at h2; subst h2
    exact (List.nodup_append.mp nd).2.2 p z p (mem_owns (i := i) (by simpa using h1) hp) rfl
  | x :: g, i + 1, j + 1, s, t, p, h1, h2, n, nd, hp => owns_disj (i := i) (j := j) (by simpa using h1) (by simpa using h2) (by omega) (List.nodup_append.mp nd).2.1 hp
theorem owns_inv : ∀ {g : List Sl} {q : Addr}, q ∈ owns g → ∃ (j : Nat) (s : Sl), g[j]? = some s ∧ q ∈ s.ow
  | [], _, h => nomatch h
  | x :: g, q, h => by
    rcases List.mem_append.mp h with h | h
    · exact ⟨0, x, rfl, h⟩
    · obtain ⟨j, s, h1, h2⟩ := owns_inv h
      exact ⟨j + 1, s, by simpa using h1, h2⟩
/-- the slot i, that owns p alone, is changed -/
theorem Holds.mut {F H F' H' : Hp} {G : List Sl} {σ : L2.St} {i : Nat} {p : Addr} {s s' : Sl} {o : Option V} (h : Holds G σ F H) (nd : (owns G).Nodup) (hi : G[i]? = some s) (ho : σ[i]? = some o) (hs : p ∈ s.ow) (e : Ex F F') (k : ∀ q u, q ≠ p → H q = some u → H' q = some u) (h' : s'.h o F' H') : Holds (G.set i s') σ F' H' := by
  refine Holds.of (by rw [List.length_set]; exact h.len) fun j t o2 h1 h2 => ?_
  by_cases q : i = j
  · subst q
    have hl : i < G.length := (List.getElem?_eq_some_iff.mp hi).1
    rw [List.getElem?_set_self hl] at h1
    cases h1
    rw [ho] at h2; cases h2
    exact h'
  · rw [List.getElem?_set_ne q] at h1
    obtain ⟨o', h3, h4⟩ := h.at_ h1
    rw [h2] at h3; cases h3
    exact t.up e (fun a ha u hu => k a u (fun z => owns_disj hi h1 q nd hs (z ▸ ha)) hu) h4
theorem Env.set {σ : L2.St} {F H : Hp} {i : Nat} {s : Sl} {o : Option V} (V : Env b G σ F H) (h : s.h o F H) (ow : s.ow = []) : Env b (G.set i s) (σ.set i o) F H :=
  V.step0 (After.refl V.fh []) (fun _ z => nomatch z) (fun p hp => (owns_set ow).subset hp) (V.nd.sublist (owns_set ow)) (V.hold.set h)
/-- forgetting -/
inductive Sub : List Sl → List Sl → Prop
  | nil : Sub [] []
  | keep {s : Sl} {g g' : List Sl} : Sub g g' → Sub (s :: g) (s :: g')
  | drop {s : Sl} {g g' : List Sl} : Sub g g' → Sub (s :: g) (any :: g')
theorem Sub.refl : ∀ g : List Sl, Sub g g
  | [] => .nil
  | _ :: g => .keep (Sub.refl g)
theorem Sub.owns {g g' : List Sl} (h : Sub g g') : (owns g').Sublist (owns g) := by
  induction h with
  | nil => exact .refl _
  | keep _ ih => exact List.Sublist.append_left ih _
  | drop _ ih => exact ih.trans (List.sublist_append_right _ _)
theorem Sub.holds {g g' : List Sl} {F H : Hp} (h : Sub g g') : ∀ {σ : L2.St}, Holds g σ F H → Holds g' σ F H := by
  induction h with
  | nil => intro σ h; exact h
  | keep _ ih => intro σ h; cases h with | cons r t => exact .cons r (ih t)
  | drop _ ih => intro σ h; cases h with | cons r t => exact .cons trivial (ih t)
theorem Env.sub {σ : L2.St} {F H : Hp} {G' : List Sl} (V : Env b G σ F H) (h : Sub G G') : Env b G' σ F H :=
  V.step0 (After.refl V.fh []) (fun _ z => nomatch z) (fun p hp => h.owns.subset hp) (V.nd.sublist h.owns) (h.holds V.hold)
theorem s_seq {t u : TS} {Gm : τ' → List Sl} {f : Pd τ' β ρ → Prop} {g : τ' → Pd τ β ρ → Prop} (ht : S b G t Gm Gl ro f) (hu : ∀ x, S b (Gm x) u Gn Gl ro (g x)) : S b G (tSeq t u) Gn Gl ro (fun d => f ⟨fun x => g x d, d.ct, d.bk, d.rt⟩) :=
  fun _ _ _ _ d V q w1 w2 w3 w4 => ht _ V q (fun x σ' F' H' q' e V' => hu x d V' q' (fun y σ2 F2 H2 q2 e2 => w1 y σ2 F2 H2 q2 (e.trans e2)) (fun y σ2 F2 H2 q2 e2 => w2 y σ2 F2 H2 q2 (e.trans e2)) (fun y σ2 F2 H2 q2 e2 => w3 y σ2 F2 H2 q2 (e.trans e2)) w4) w2 w3 w4
theorem s_nil : S b G tNext (fun _ : Unit => G) Gl ro (fun d => d.nx ()) := fun _ _ _ _ d V q w1 _ _ _ => w1 () _ _ _ q (Ex.refl _) V
theorem s_ct {Gn : τ → List Sl} {x : β} (e : Sub G (Gl x)) (V0 : True := trivial) : S b G tCont Gn Gl ro (fun d => d.ct x) := fun _ _ _ _ d V q _ w2 _ _ => w2 x _ _ _ q (Ex.refl _) (V.sub e)
theorem s_bk {Gn : τ → List Sl} {x : β} (e : Sub G (Gl x)) : S b G tBreak Gn Gl ro (fun d => d.bk x) := fun _ _ _ _ d V q _ _ w3 _ => w3 x _ _ _ q (Ex.refl _) (V.sub e)
theorem s_if {c : TT} {t u : TS} {fc : (Bool → Prop) → Prop} {f g : Pd τ β ρ → Prop} (hc : Tt b G c fc) (ht : S b G t Gn Gl ro f) (hu : S b G u Gn Gl ro g) :
    S b G (tIfS c t u) Gn Gl ro (fun d => fc fun x => (x = true → f d) ∧ (x = false → g d)) := fun _ _ _ _ d V q w1 w2 w3 w4 => hc _ V q fun x F' H' q' e V' => by
  have z1 : ∀ x σ' F2 H2, d.nx x → Ex F' F2 → Env b (Gn x) σ' F2 H2 → _ := fun y σ2 F2 H2 q2 e2 => w1 y σ2 F2 H2 q2 (e.ff.trans e2)
  have z2 : ∀ x σ' F2 H2, d.ct x → Ex F' F2 → Env b (Gl x) σ' F2 H2 → _ := fun y σ2 F2 H2 q2 e2 => w2 y σ2 F2 H2 q2 (e.ff.trans e2)
  have z3 : ∀ x σ' F2 H2, d.bk x → Ex F' F2 → Env b (Gl x) σ' F2 H2 → _ := fun y σ2 F2 H2 q2 e2 => w3 y σ2 F2 H2 q2 (e.ff.trans e2)
  cases x with
  | true => exact iteT (ht d V' (q'.1 rfl) z1 z2 z3 w4)
  | false => exact iteF (hu d V' (q'.2 rfl) z1 z2 z3 w4)
theorem s_ret {te : TE} {r : R α} {f : (α → Prop) → Prop} {g : α → ρ} (h : E b G te r f) (hro : ∀ a v σ F H, Env b G σ F H → r.h a v F → ro (g a) v F H) : S b G (tRet te) Gn Gl ro (fun d => f fun a => d.rt (g a)) :=
  fun _ _ _ _ d V q _ _ _ w4 => h _ V q fun a v F' H' q' e V' r' => w4 (g a) v F' H' q' V'.after (hro a v _ F' H' V' r')
theorem s_retN {g : ρ} (hro : ∀ σ F H, Env b G σ F H → ro g .non F H) : S b G tRetN Gn Gl ro (fun d => d.rt g) := fun _ _ _ _ d V q _ _ _ w4 => w4 g .non _ _ q V.after (hro _ _ _ V)
theorem s_drop {te : TE} {r : R α} {f : (α → Prop) → Prop} (h : E b G te r f) : S b G (tDrop te) (fun _ : Unit => G) Gl ro (fun d => f fun _ => d.nx ()) :=
  fun _ _ _ _ d V q w1 _ _ _ => h _ V q fun a v F' H' q' e V' r' => w1 () _ F' H' q' e.ff V'
theorem s_asg {te : TE} {r : R α} {f : (α → Prop) → Prop} {i : Nat} (h : E b G te r f) : S b G (tAsg te (gName i)) (fun a : α => G.set i (val r a)) Gl ro (fun d => f d.nx) :=
  fun _ _ _ _ d V q w1 _ _ _ => h _ V q fun a v F' H' q' e V' r' => w1 a _ F' H' q' e.ff (V'.set ⟨v, rfl, r'⟩ rfl)
/-- x += e, ints -/
theorem s_augI {te : TE} {f : (Int → Prop) → Prop} {g : Int → Int → Int} {i : Nat} {n : Int} (hi : G[i]? = some (val rInt n)) (h : E b G te rInt f) : S b G (tAug i te (ipI g)) (fun a : Int => G.set i (val rInt a)) Gl ro (fun d => f fun m => d.nx (g n m)) :=
  fun _ _ _ _ d V q w1 _ _ _ => by
    obtain ⟨o, h1, v, rfl, rfl⟩ := V.hold.at_ hi
    exact ⟨_, h1, h _ V q fun a v F' H' q' e V' r' => ⟨n, a, rfl, r', w1 _ _ F' H' q' e.ff (V'.set ⟨_, rfl, rfl⟩ rfl)⟩⟩
theorem s_wk {t : TS} {Gm : τ' → List Sl} {f : Pd τ' β ρ → Prop} {g : τ' → τ} (h : S b G t Gm Gl ro f) (hs : ∀ x, Sub (Gm x) (Gn (g x))) : S b G t Gn Gl ro (fun d => f ⟨fun x => d.nx (g x), d.ct, d.bk, d.rt⟩) :=
  fun _ _ _ _ d V q w1 w2 w3 w4 => h _ V q (fun x σ' F' H' q' e V' => w1 (g x) σ' F' H' q' e (V'.sub (hs x))) w2 w3 w4
theorem s_pre {t : TS} {G' : List Sl} {f : Pd τ β ρ → Prop} (hs : Sub G G') (h : S b G' t Gn Gl ro f) : S b G t Gn Gl ro f := fun _ _ _ _ d V q w1 w2 w3 w4 => h d (V.sub hs) q w1 w2 w3 w4
theorem s_cq {t : TS} {f g : Pd τ β ρ → Prop} (h : S b G t Gn Gl ro f) (w : ∀ d, g d → f d) : S b G t Gn Gl ro g := fun _ _ _ _ d V q => h d V (w d q)
/-- a view: an own cell is frozen -/
theorem Env.frz {σ : L2.St} {F H : Hp} {i : Nat} {p : Addr} {c : C α} {a : α} {r : R α} (V : Env b G σ F H) (hi : G[i]? = some (own p c a)) (hm : p ∉ b.M) (hr : ∀ u F, c.h a u F → F p = some u → r.h a (.ref p) F) : ∃ F', Ex F F' ∧ Env b (G.set i (val r a)) σ F' H ∧ r.h a (.ref p) F' := by
  obtain ⟨o, h1, rfl, u, hu, hc⟩ := V.hold.at_ hi
  have hp : p ∈ owns G := mem_owns hi List.mem_cons_self
  have fp := (V.on p hp).1
  have bp : b.H p = none := (V.on p hp).2.resolve_left hm
  have e : Ex F (upd F p u) := Ex.new fp
  have hr' : r.h a (.ref p) (upd F p u) := hr u _ (c.ex e hc) upd_same
  refine ⟨upd F p u, e, ⟨V.ff.trans e, fun x o h => ?_, V.hh, V.kp, fun x h1 h2 => ?_, ?_, V.nd.sublist (owns_set rfl), fun q hq => ?_⟩, hr'⟩
  · by_cases z : x = p
    · subst z; rw [upd_same] at h; cases h; exact hu
    · rw [upd_ne z] at h; exact V.fh _ _ h
  · rw [upd_ne (fun z => h2 (by rw [z]; exact bp))]; exact V.nf x h1 h2
  · have hs : σ.set i (some (.ref p)) = σ := by
      apply List.ext_getElem?
      intro j
      by_cases z : i = j
      · subst z
        rw [List.getElem?_set_self (List.getElem?_eq_some_iff.mp h1).1, h1]
      · rw [List.getElem?_set_ne z]
    exact V.hold.mut V.nd hi h1 (List.mem_cons_self) e (fun _ _ _ h => h) ⟨_, rfl, hr'⟩
  · have hq' := (owns_set (s := val r a) rfl).subset hq
    have ne : q ≠ p := fun z => by
      subst z
      obtain ⟨j, s, h3, h4⟩ := owns_inv hq
      by_cases z : i = j
      · subst z
        rw [List.getElem?_set_self (List.getElem?_eq_some_iff.mp hi).1] at h3
        cases h3
        nomatch h4
      · rw [List.getElem?_set_ne z] at h3
        exact owns_disj hi h3 z V.nd List.mem_cons_self h4
    rw [upd_ne ne]
    exact V.on q hq'
theorem frz_lst {r : R α} {a : List α} : ∀ {p : Addr} (u : HO) (F : Hp), (cLst r).h a u F → F p = some u → (rLst r).h a (.ref p) F := fun u F ⟨vs, h1, h2⟩ h => ⟨_, vs, rfl, h1 ▸ h, h2⟩
theorem s_frz {t : TS} {i : Nat} {p : Addr} {c : C α} {a : α} {r : R α} {f : Pd τ β ρ → Prop} (hi : G[i]? = some (own p c a)) (hm : p ∉ b.M) (hr : ∀ u F, c.h a u F → F p = some u → r.h a (.ref p) F) (h : S b (G.set i (val r a)) t Gn Gl ro f) : S b G t Gn Gl ro f := fun _ _ _ _ d V q w1 w2 w3 w4 => by
  obtain ⟨F', e, V', _⟩ := V.frz hi hm hr
  exact h d V' q (fun y σ2 F2 H2 q2 e2 => w1 y σ2 F2 H2 q2 (e.trans e2)) (fun y σ2 F2 H2 q2 e2 => w2 y σ2 F2 H2 q2 (e.trans e2)) (fun y σ2 F2 H2 q2 e2 => w3 y σ2 F2 H2 q2 (e.trans e2)) w4
end
end Mi
/-! Mir2 -/
set_option Elab.async false
set_option linter.all false
set_option maxRecDepth 100000
set_option maxHeartbeats 4000000
namespace Mi
open PySem PySem.Spec L2 Dh
open _root_.Evl (Ex)
section
variable {K : PySem.W.Frag} {b : Bs} {G : List Sl} {α β γ δ τ τ' ρ ε : Type} {Gn : τ → List Sl} {Gl : ε → List Sl} {ro : ρ → V → Hp → Hp → Prop} {σ : L2.St} {F H F' H' : Hp}
/-! ### what is walked -/
theorem All.of_get {r : R α} {F : Hp} {xs : List α} {vs : List V} (A : All r F xs vs) {i : Nat} {v : V} (h : vs[i]? = some v) : ∃ a, xs[i]? = some a ∧ r.h a v F := by
  have hi := (List.getElem?_eq_some_iff.mp h).1
  rw [A.len] at hi
  obtain ⟨a, ha⟩ : ∃ a, xs[i]? = some a := ⟨xs[i], by simp [hi]⟩
  obtain ⟨v', h1, h2⟩ := A.get ha
  rw [h] at h1; cases h1
  exact ⟨a, ha, h2⟩

def WkOk (J : It) (F' : Hp) (r : R α) (xs : List α) : Prop := ∃ (Gs : Hp → Prop) (Y : Nat → Hp → V → Hp → Prop), Walk J xs.length Gs Y ∧ (∀ H2, Ex F' H2 → Gs H2) ∧
  ∀ i v F2 H2 H3, i < xs.length → Ex F' F2 → Ex F2 H2 → Y i H2 v H3 → ∃ a F3, xs[i]? = some a ∧ After F2 H2 [] F3 H3 ∧ r.h a v F3
theorem wkOk {J : It} {F' : Hp} {r : R α} {xs : List α} {n : Nat} {Gs : Hp → Prop} {Y : Nat → Hp → V → Hp → Prop} (hw : Walk J n Gs Y) (hn : n = xs.length) (hG : ∀ H2, Ex F' H2 → Gs H2) (hY : ∀ i v F2 H2 H3, i < n → Ex F' F2 → Ex F2 H2 → Y i H2 v H3 → ∃ a F3, xs[i]? = some a ∧ After F2 H2 [] F3 H3 ∧ r.h a v F3) : WkOk J F' r xs := by
  subst hn; exact ⟨Gs, Y, hw, hG, hY⟩
def Wk (b : Bs) (G : List Sl) (ti : TI) (r : R α) (f : (List α → Prop) → Prop) : Prop := ∀ ⦃σ : L2.St⦄ ⦃F H : Hp⦄ ⦃R : It → Hp → Prop⦄ (k : List α → Prop), Env b G σ F H → f k →
  (∀ xs J F' H', k xs → After F H (owns G) F' H' → Env b G σ F' H' → WkOk J F' r xs → R J H') → ti σ H R
theorem wk_list {tl : TE} {r : R α} {f : (List α → Prop) → Prop} (h : E b G tl (rLst r) f) : Wk b G (iList K tl) r f := fun _ _ _ _ k V q w => by
  refine h k V q ?_
  rintro xs v F1 H1 q1 A1 V1 ⟨p, vs, e, hp, A⟩
  subst e
  refine ⟨p, rfl, ⟨vs, SqL.of (V1.fh _ _ hp)⟩, w xs _ F1 H1 q1 A1 V1 (wkOk walk_list A.len (fun H2 e => SqL.of (e _ _ hp)) fun i v F2 H2 H3 hi e1 e2 ⟨y1, y2⟩ => ?_)⟩
  subst y1
  obtain ⟨a, ha, h2⟩ := A.of_get y2
  exact ⟨a, F2, ha, .refl e2 _, r.ex e1 h2⟩
theorem wk_tup {tl : TE} {r : R α} {f : (List α → Prop) → Prop} (h : E b G tl (rTup K r) f) : Wk b G (iTup K tl) r f := fun _ _ _ _ k V q w => by
  refine h k V q ?_
  rintro xs v F1 H1 q1 A1 V1 ⟨p, vs, e, hp, A⟩
  subst e
  refine ⟨p, rfl, ⟨vs, _root_.Evl.ex_t V1.fh hp⟩, w xs _ F1 H1 q1 A1 V1 (wkOk walk_tup A.len (fun H2 e => _root_.Evl.ex_t e hp) fun i v F2 H2 H3 hi e1 e2 ⟨y1, y2⟩ => ?_)⟩
  subst y1
  obtain ⟨a, ha, h2⟩ := A.of_get y2
  exact ⟨a, F2, ha, .refl e2 _, r.ex e1 h2⟩
/-- the numbers lo, lo + 1, .. -/
def rng (lo : Int) (n : Nat) : List Int := (List.range n).map fun i => lo + (i : Nat)
theorem rng_len {lo : Int} {n : Nat} : (rng lo n).length = n := by unfold rng; simp
theorem rng_get {lo : Int} {n i : Nat} (h : i < n) : (rng lo n)[i]? = some (lo + (i : Nat)) := by unfold rng; simp [h]
theorem rng_inv {lo a : Int} {n i : Nat} (h : (rng lo n)[i]? = some a) : i < n ∧ a = lo + (i : Nat) := by
  have hi : i < n := by
    have := (List.getElem?_eq_some_iff.mp h).1
    rw [rng_len] at this; exact this
  rw [rng_get hi] at h
  exact ⟨hi, (Option.some.inj h).symm⟩
theorem rng_mem {lo a : Int} {n : Nat} (h : a ∈ rng lo n) : lo ≤ a ∧ a < lo + n := by
  unfold rng at h
  obtain ⟨i, h1, h2⟩ := List.mem_map.mp h
  have := List.mem_range.mp h1
  omega
theorem wk_range1 {ta : TA} {f : (Int → Prop) → Prop} (h : Ar b G ta (rOne rInt) f) : Wk b G (iRng1 ta) rInt (fun k => f fun j => (-(2 ^ 62) ≤ j ∧ j < 2 ^ 62) ∧ k (rng 0 j.toNat)) := fun _ _ _ _ k V q w => by
  refine h _ V q ?_
  rintro j vs F1 H1 q1 A1 V1 ⟨v, e, hv⟩
  cases hv
  subst e
  refine ⟨j, rfl, q1.1.1, q1.1.2, w _ _ F1 H1 q1.2 A1 V1 (wkOk walk_range rng_len.symm (fun _ _ => trivial) fun i v F2 H2 H3 hi e1 e2 ⟨y1, y2⟩ => ?_)⟩
  subst y1
  exact ⟨_, F2, rng_get hi, .refl e2 _, y2⟩
theorem wk_range2 {ta : TA} {f : (Int × Int → Prop) → Prop} (h : Ar b G ta (rCons rInt (rOne rInt)) f) : Wk b G (iRng2 ta) rInt (fun k => f fun j => (-(2 ^ 62) ≤ j.1 ∧ j.1 < 2 ^ 62 ∧ -(2 ^ 62) ≤ j.2 ∧ j.2 < 2 ^ 62) ∧ k (rng j.1 (j.2 - j.1).toNat)) := fun _ _ _ _ k V q w => by
  refine h _ V q ?_
  rintro j vs F1 H1 q1 A1 V1 ⟨v, ws, e, hv, u, e2, hu⟩
  cases hv
  cases hu
  subst e2
  subst e
  refine ⟨j.1, j.2, rfl, q1.1, w _ _ F1 H1 q1.2 A1 V1 (wkOk walk_range rng_len.symm (fun _ _ => trivial) fun i v F2 H2 H3 hi e1 e2 ⟨y1, y2⟩ => ?_)⟩
  subst y1
  exact ⟨_, F2, rng_get hi, .refl e2 _, y2⟩
/-- pairs with their numbers -/
def enumL (xs : List α) : List (Int × α) := (rng 0 xs.length).zip xs
theorem enumL_len {xs : List α} : (enumL xs).length = xs.length := by unfold enumL; simp [rng_len]
theorem enumL_get {xs : List α} {i : Nat} {a : α} (h : xs[i]? = some a) : (enumL xs)[i]? = some ((i : Int), a) := by
  unfold enumL
  have hi := (List.getElem?_eq_some_iff.mp h).1
  rw [List.getElem?_zip_eq_some]
  exact ⟨by rw [rng_get hi]; simp, h⟩
theorem enumL_inv {xs : List α} {i : Nat} {p : Int × α} (h : (enumL xs)[i]? = some p) : p.1 = (i : Int) ∧ xs[i]? = some p.2 := by
  unfold enumL at h
  rw [List.getElem?_zip_eq_some] at h
  exact ⟨by have := (rng_inv h.1).2; omega, h.2⟩
theorem pair_new {ra : R α} {rb : R γ} {a : α} {c : γ} {x y : V} {F2 H2 : Hp} {T : Addr} (e : Ex F2 H2) (hT : H2 T = none) (h1 : ra.h a x F2) (h2 : rb.h c y F2) : After F2 H2 [] (upd F2 T (.tup [x, y])) (upd H2 T (.tup [x, y])) ∧ (rTp K (rCons ra (rOne rb))).h (a, c) (.ref T) (upd F2 T (.tup [x, y])) := by
  have A := After.new (o := .tup [x, y]) e hT
  exact ⟨A, T, [x, y], rfl, SqT.of upd_same, x, [y], rfl, ra.ex A.ff h1, y, rfl, rb.ex A.ff h2⟩
theorem wk_enum {ta : TA} {r : R α} {f : (List α → Prop) → Prop} (h : Ar b G ta (rOne (rLst r)) f) : Wk b G (iEnum K ta) (rTp K (rCons rInt (rOne r))) (fun k => f fun xs => k (enumL xs)) := fun _ _ _ _ k V q w => by
  refine h _ V q ?_
  rintro xs ws F1 H1 q1 A1 V1 ⟨v, e, p, vs, e2, hp, A⟩
  subst e2
  subst e
  refine ⟨p, vs, rfl, SqL.of (V1.fh _ _ hp), w _ _ F1 H1 q1 A1 V1 (wkOk walk_enum (A.len.trans enumL_len.symm) (fun H2 e => SqL.of (e _ _ hp)) fun i v F2 H2 H3 hi e1 e2 ⟨T, x, y, y1, y2, y3, y4, y5⟩ => ?_)⟩
  subst y1 y3
  cases y4
  obtain ⟨a, ha, hr⟩ := A.of_get y5
  obtain ⟨B, hB⟩ := pair_new (K := K) (ra := rInt) (rb := r) (a := (i : Int)) e2 y2 rfl (r.ex e1 hr)
  exact ⟨_, _, enumL_get ha, B, hB⟩
theorem wk_rev {ta : TA} {r : R α} {f : (List α → Prop) → Prop} (h : Ar b G ta (rOne (rLst r)) f) : Wk b G (iRev K ta) r (fun k => f fun xs => k xs.reverse) := fun _ _ _ _ k V q w => by
  refine h _ V q ?_
  rintro xs ws F1 H1 q1 A1 V1 ⟨v, e, p, vs, e2, hp, A⟩
  subst e2
  subst e
  refine ⟨p, vs, rfl, SqL.of (V1.fh _ _ hp), w _ _ F1 H1 q1 A1 V1 (wkOk walk_rev (A.len.trans List.length_reverse.symm) (fun H2 e => SqL.of (e _ _ hp)) fun i v F2 H2 H3 hi e1 e2 ⟨y1, y2⟩ => ?_)⟩
  subst y1
  rw [A.len] at hi
  obtain ⟨a, ha, hr⟩ := A.of_get y2
  refine ⟨a, F2, ?_, .refl e2 _, r.ex e1 hr⟩
  rw [List.getElem?_reverse hi, ← A.len]; exact ha
theorem wk_zip {ta : TA} {ra : R α} {rb : R γ} {f : (List α × List γ → Prop) → Prop} (h : Ar b G ta (rCons (rLst ra) (rOne (rLst rb))) f) : Wk b G (iZip K ta) (rTp K (rCons ra (rOne rb))) (fun k => f fun x => k (x.1.zip x.2)) := fun _ _ _ _ k V q w => by
  refine h _ V q ?_
  rintro x ws F1 H1 q1 A1 V1 ⟨v, ws', e, ⟨p, vs, e2, hp, A⟩, v', e3, p', vs', e4, hp', A'⟩
  subst e4 e3 e2
  subst e
  refine ⟨p, p', vs, vs', rfl, SqL.of (V1.fh _ _ hp), SqL.of (V1.fh _ _ hp'), w _ _ F1 H1 q1 A1 V1 (wkOk (walk_zip (by rw [A.len, A'.len])) List.length_zip.symm (fun H2 e => ⟨SqL.of (e _ _ hp), SqL.of (e _ _ hp')⟩) fun i v F2 H2 H3 hi e1 e2 ⟨T, x, y, y1, y2, y3, y4, y5⟩ => ?_)⟩
  subst y1 y3
  obtain ⟨a, ha, hr⟩ := A.of_get y4
  obtain ⟨a', ha', hr'⟩ := A'.of_get y5
  obtain ⟨B, hB⟩ := pair_new (K := K) (ra := ra) (rb := rb) e2 y2 (ra.ex e1 hr) (rb.ex e1 hr')
  exact ⟨_, _, by rw [List.getElem?_zip_eq_some]; exact ⟨ha, ha'⟩, B, hB⟩
/-- the letters of a text -/
def chrs (z : Str) : List Str := z.cps.toList.map fun c => ⟨#[c]⟩
theorem wk_str {te : TE} {f : (Str → Prop) → Prop} (h : E b G te rStr f) : Wk b G (iStr te) rStr (fun k => f fun z => k (chrs z)) := fun _ _ _ _ k V q w => by
  refine h _ V q ?_
  intro z v F1 H1 q1 A1 V1 e
  cases e
  refine ⟨z, rfl, w _ _ F1 H1 q1 A1 V1 (wkOk walk_str (by unfold chrs; rw [List.length_map, Array.length_toList]) (fun _ _ => trivial) fun i v F2 H2 H3 hi e1 e2 ⟨y1, c, y2, y3⟩ => ?_)⟩
  subst y1 y3
  refine ⟨_, F2, ?_, .refl e2 _, rfl⟩
  unfold chrs
  rw [List.getElem?_map, Array.getElem?_toList, y2]; rfl
/-! ### targets -/
def wipeG (G : List Sl) : List Nat → List Sl
  | [] => G
  | v :: vs => (wipeG G vs).set v any
theorem Env.wipe (V : Env b G σ F H) : ∀ vs : List Nat, Env b (wipeG G vs) (wipe σ vs) F H
  | [] => V
  | v :: vs => (Env.wipe V vs).set (s := any) trivial rfl
theorem Env.setV {r : R α} {a : α} {v : V} {i : Nat} (V : Env b G σ F H) (h : r.h a v F) : Env b (G.set i (val r a)) (σ.set i (some v)) F H := V.set ⟨v, rfl, h⟩ rfl
def UpOk (up : α → List Sl → List Sl) (vs : List Nat) : Prop := ∀ a G, (∀ p ∈ owns (up a G), p ∈ owns G) ∧ wipeG (up a G) vs = wipeG G vs
def Tg (g : TG) (r : R α) (up : α → List Sl → List Sl) (vs : List Nat) : Prop := UpOk up vs ∧ ∀ ⦃b : Bs⦄ ⦃G : List Sl⦄ ⦃σ : L2.St⦄ ⦃F H : Hp⦄ ⦃v : V⦄ ⦃a : α⦄ ⦃q : L2.St → Hp → Prop⦄, r.h a v F → Env b G σ F H →
  (∀ σ', Env b (up a G) σ' F H → wipe σ' vs = wipe σ vs → q σ' H) → g v σ H q
def TgI (g : TGs) (s : RI α) (up : α → List Sl → List Sl) (vs : List Nat) : Prop := UpOk up vs ∧ ∀ ⦃b : Bs⦄ ⦃G : List Sl⦄ ⦃σ : L2.St⦄ ⦃F H : Hp⦄ ⦃ws : List V⦄ ⦃a : α⦄ ⦃q : L2.St → Hp → Prop⦄, s.h a ws F → Env b G σ F H →
  (∀ σ', Env b (up a G) σ' F H → wipe σ' vs = wipe σ vs → q σ' H) → g ws σ H q
theorem wipe_one {i : Nat} {o : Option V} : wipe (σ.set i o) [i] = wipe σ [i] := by rw [wipe1, wipe1, List.set_set]
theorem wipeG_one {i : Nat} {s : Sl} {G : List Sl} : wipeG (G.set i s) [i] = wipeG G [i] := by
  show (G.set i s).set i any = G.set i any
  rw [List.set_set]
theorem up_one {i : Nat} {r : R α} : UpOk (fun a G => G.set i (val r a)) [i] := fun a G => ⟨fun p hp => (owns_set rfl).subset hp, wipeG_one⟩
theorem g_name {i : Nat} {r : R α} : Tg (gName i) r (fun a G => G.set i (val r a)) [i] := ⟨up_one, fun _ _ _ _ _ _ _ _ h V w => w _ (V.setV h) wipe_one⟩
theorem gi_one {i : Nat} {r : R α} : TgI (gCons (gName i) gNil) (rOne r) (fun a G => G.set i (val r a)) [i] := ⟨up_one, fun _ _ _ _ _ _ _ _ ⟨v, e, h⟩ V w => ⟨v, [], e, rfl, w _ (V.setV h) wipe_one⟩⟩
theorem wipe_set_ne {i : Nat} {o : Option V} : ∀ {vs : List Nat}, i ∉ vs → wipe (σ.set i o) vs = (wipe σ vs).set i o
  | [], _ => rfl
  | v :: vs, h => by
    show (wipe (σ.set i o) vs).set v none = ((wipe σ vs).set v none).set i o
    rw [wipe_set_ne (fun z => h (List.mem_cons_of_mem _ z)), List.set_comm _ _ (fun z => h (by rw [z]; exact List.mem_cons_self))]
theorem wipe_mem {i : Nat} {o : Option V} : ∀ {vs : List Nat}, i ∈ vs → wipe (σ.set i o) vs = wipe σ vs
  | v :: vs, h => by
    show (wipe (σ.set i o) vs).set v none = (wipe σ vs).set v none
    by_cases q : i ∈ vs
    · rw [wipe_mem q]
    · rcases List.mem_cons.mp h with e | e
      · subst e; rw [wipe_set_ne q, List.set_set]
      · exact absurd e q
theorem wipeG_set_ne {i : Nat} {o : Sl} : ∀ {vs : List Nat}, i ∉ vs → wipeG (G.set i o) vs = (wipeG G vs).set i o
  | [], _ => rfl
  | v :: vs, h => by
    show (wipeG (G.set i o) vs).set v any = ((wipeG G vs).set v any).set i o
    rw [wipeG_set_ne (fun z => h (List.mem_cons_of_mem _ z)), List.set_comm _ _ (fun z => h (by rw [z]; exact List.mem_cons_self))]
theorem wipeG_mem {i : Nat} {o : Sl} : ∀ {vs : List Nat}, i ∈ vs → wipeG (G.set i o) vs = wipeG G vs
  | v :: vs, h => by
    show (wipeG (G.set i o) vs).set v any = (wipeG G vs).set v any
    by_cases q : i ∈ vs
    · rw [wipeG_mem q]
    · rcases List.mem_cons.mp h with e | e
      · subst e; rw [wipeG_set_ne q, List.set_set]
      · exact absurd e q
theorem gi_cons {i : Nat} {r : R α} {u : TGs} {s : RI γ} {up : γ → List Sl → List Sl} {vs : List Nat} (h : TgI u s up vs) : TgI (gCons (gName i) u) (rCons r s) (fun a G => up a.2 (G.set i (val r a.1))) (i :: vs) := by
  refine ⟨fun a G => ⟨fun p hp => (owns_set rfl).subset ((h.1 _ _).1 p hp), ?_⟩, fun _ _ _ _ _ _ _ _ ⟨v, ws, e, h1, h2⟩ V w => ?_⟩
  · show (wipeG _ vs).set i any = (wipeG G vs).set i any
    rw [(h.1 _ _).2]
    by_cases q : i ∈ vs
    · rw [wipeG_mem q]
    · rw [wipeG_set_ne q, List.set_set]
  · refine ⟨v, ws, e, ?_⟩
    refine h.2 h2 (V.setV h1) fun σ' V' e' => w _ V' ?_
    show (wipe σ' vs).set i none = (wipe _ vs).set i none
    rw [e']
    by_cases q : i ∈ vs
    · rw [wipe_mem q]
    · rw [wipe_set_ne q, List.set_set]
theorem g_tup {n : Nat} {u : TGs} {s : RI α} {up : α → List Sl → List Sl} {vs : List Nat} (h : TgI u s up vs) (hn : s.n = n) : Tg (gTup K n u) (rTp K s) up vs := ⟨h.1, fun _ _ _ _ _ _ _ _ ⟨p, ws, e, h1, h2⟩ V w => ⟨p, ws, e, _root_.Evl.ex_t V.fh h1, (s.ln h2).trans hn, h.2 h2 V w⟩⟩
theorem s_asgT {te : TE} {r : R α} {f : (α → Prop) → Prop} {g : TG} {up : α → List Sl → List Sl} {vs : List Nat} (h : E b G te r f) (hg : Tg g r up vs) : S b G (tAsg te g) (fun a : α => up a G) Gl ro (fun d => f d.nx) :=
  fun _ _ _ _ d V q w1 _ _ _ => h _ V q fun a v F' H' q' e V' r' => hg.2 r' V' fun σ' V2 _ => w1 a _ F' H' q' e.ff V2
/-! ### loops -/
def forP (xs : List α) (x0 : τ) (B : α → τ → (τ → Prop) → Prop) (k : τ → Prop) : Prop := ∃ I : Nat → τ → Prop, I 0 x0 ∧ (∀ i a x, xs[i]? = some a → I i x → B a x (I (i + 1))) ∧ ∀ x, I xs.length x → k x
theorem s_for {wi : TI} {g : TG} {tb : TS} {r : R α} {up : α → List Sl → List Sl} {vs : List Nat} {fw : (List α → Prop) → Prop} {Gt : τ → List Sl} {x0 : τ} {fb : α → τ → Pd τ τ ρ → Prop} (hw : Wk b G wi r fw) (hg : Tg g r up vs) (h0 : Sub G (Gt x0))
    (hb : ∀ a x, S b (up a (Gt x)) tb Gt Gt ro (fb a x)) : S b G (tFor wi g tb) Gt Gl ro (fun d => fw fun xs => forP xs x0 (fun a x n => fb a x ⟨n, n, d.nx, d.rt⟩) d.nx) :=
  fun σ F H D d V q w1 _ _ w4 => hw _ V q fun xs J F1 H1 q1 A1 V1 ⟨Gs, Y, hW, hG, hY⟩ => by
    obtain ⟨I, i0, it, id⟩ := q1
    refine raw_f hW ⟨fun i σ2 H2 => ∃ x F2, I i x ∧ Ex F1 F2 ∧ Env b (Gt x) σ2 F2 H2, ⟨x0, F1, i0, Ex.refl _, V1.sub h0⟩, fun i σ2 H2 _ ⟨x, F2, _, e2, V2⟩ => hG _ (e2.trans V2.fh), fun i v σ2 H2 H3 hi ⟨x, F2, hx, e2, V2⟩ y => ?_, fun σ2 H2 ⟨x, F2, hx, e2, V2⟩ => w1 x _ F2 H2 (id x hx) (A1.ff.trans e2) V2⟩
    obtain ⟨a, F3, ha, A3, hr⟩ := hY i v F2 H2 H3 hi e2 V2.fh y
    refine hg.2 hr (V2.step A3) fun σ3 V3 _ => ?_
    have e3 := e2.trans A3.ff
    exact hb a x _ V3 (it i a x ha hx) (fun y σ' F' H' q' e' V' => ⟨y, F', q', e3.trans e', V'⟩) (fun y σ' F' H' q' e' V' => ⟨y, F', q', e3.trans e', V'⟩) (fun y σ' F' H' q' e' V' => w1 y σ' F' H' q' ((A1.ff.trans e3).trans e') V') w4
def whileP (x0 : τ) (C : τ → (Bool → Prop) → Prop) (B : τ → (τ → Prop) → Prop) (k : τ → Prop) : Prop := ∃ I : Nat → τ → Prop, (∃ n, I n x0) ∧ ∀ n x, I n x → C x fun c => (c = true → B x fun y => ∃ m, m < n ∧ I m y) ∧ (c = false → k x)
theorem s_while {c : TT} {tb : TS} {Gt : τ → List Sl} {x0 : τ} {fc : τ → (Bool → Prop) → Prop} {fb : τ → Pd τ τ ρ → Prop} (h0 : Sub G (Gt x0)) (hc : ∀ x, Tt b (Gt x) c (fc x)) (hb : ∀ x, S b (Gt x) tb Gt Gt ro (fb x)) :
    S b G (tWhile c tb) Gt Gl ro (fun d => whileP x0 fc (fun x n => fb x ⟨n, n, d.nx, d.rt⟩) d.nx) :=
  fun σ F H D d V ⟨I, ⟨n0, i0⟩, it⟩ w1 _ _ w4 => by
    refine ⟨fun m σ2 H2 => ∃ x F2, I m x ∧ Ex F F2 ∧ Env b (Gt x) σ2 F2 H2, ⟨n0, x0, F, i0, Ex.refl _, V.sub h0⟩, fun m σ2 H2 ⟨x, F2, hx, e2, V2⟩ => ?_⟩
    refine hc x _ V2 (it m x hx) fun z F3 H3 q3 A3 V3 => ?_
    have e3 := e2.trans A3.ff
    cases z with
    | true =>
      refine iteT ⟨fun σ4 H4 => ∃ m', m' < m ∧ ∃ x F2, I m' x ∧ Ex F F2 ∧ Env b (Gt x) σ4 F2 H4, fun σ4 H4 h => h, ?_⟩
      exact hb x _ V3 (q3.1 rfl) (fun y σ' F' H' ⟨m', h1, h2⟩ e' V' => ⟨m', h1, y, F', h2, e3.trans e', V'⟩) (fun y σ' F' H' ⟨m', h1, h2⟩ e' V' => ⟨m', h1, y, F', h2, e3.trans e', V'⟩) (fun y σ' F' H' q' e' V' => w1 y σ' F' H' q' (e3.trans e') V') w4
    | false => exact iteF (w1 x _ F3 H3 (q3.2 rfl) e3 V3)
/-! ### new lists -/
def EN (b : Bs) (G : List Sl) (te : TE) (r : R α) (f : (List α → Prop) → Prop) : Prop := ∀ ⦃σ : L2.St⦄ ⦃F H : Hp⦄ ⦃Q : VK⦄ (k : List α → Prop), Env b G σ F H → f k →
  (∀ xs p vs F' H', k xs → After F H (owns G) F' H' → Env b G σ F' H' → H p = none → F' p = none → H' p = some (.lst vs) → All r F' xs vs → Q (.ref p) H') → te σ H Q
theorem thaw {M : List Addr} {p : Addr} {u : HO} (V : Env b G σ F H) (A : After F H M F' H') (V' : Env b G σ F' H') (hp : H p = none) (fp : F' p = none) (h' : H' p = some u) : After F H M (upd F' p u) H' ∧ Env b G σ (upd F' p u) H' := by
  have e : Ex (upd F' p u) H' := fun x o h => by
    by_cases z : x = p
    · subst z; rw [upd_same] at h; cases h; exact h'
    · rw [upd_ne z] at h; exact A.fh _ _ h
  have n1 : ∀ x, H x ≠ none → x ≠ p := fun x h z => h (by rw [z]; exact hp)
  refine ⟨⟨A.ff.trans (Ex.new fp), e, A.hh, A.kp, fun x h1 h2 => by rw [upd_ne (n1 x h2)]; exact A.nf x h1 h2⟩, V'.ff.trans (Ex.new fp), e, V'.hh, V'.kp, fun x h1 h2 => ?_, ?_, V'.nd, fun q hq => ?_⟩
  · rw [upd_ne (n1 x (V.kp x h2))]; exact V'.nf x h1 h2
  · exact V'.hold.up (Ex.new fp) fun _ _ _ h => h
  · rw [upd_ne (n1 q (V.hold.live q hq))]; exact V'.on q hq
theorem e_new {te : TE} {r : R α} {f : (List α → Prop) → Prop} (h : EN b G te r f) : E b G te (rLst r) f := fun _ _ _ _ k V q w => h k V q fun xs p vs F' H' q' A V' h1 h2 h3 h4 => by
  obtain ⟨A2, V2⟩ := thaw V A V' h1 h2 h3
  exact w xs _ _ H' q' A2 V2 ⟨p, vs, rfl, upd_same, h4.ex (Ex.new h2)⟩
/-- laid anew -/
theorem After.fresh {F H : Hp} {p : Addr} {o : HO} (e : Ex F H) (hp : H p = none) (M : List Addr) : After F H M F (upd H p o) where
  ff := Ex.refl F
  fh := ex_mut (ex_none e hp) e
  hh := fun a u _ h => by rw [upd_ne (ne_of_none h hp)]; exact h
  kp := fun a h => by
    by_cases q : a = p
    · subst q; exact absurd hp h
    · rw [upd_ne q]; exact h
  nf := fun a h1 _ => h1
theorem en_lay {r : R α} {xs : List α} {vs : List V} {Q : VK} {k : List α → Prop} {F0 H0 : Hp} (A0 : After F0 H0 (owns G) F H) (V : Env b G σ F H) (q : k xs) (A : All r F xs vs)
    (w : ∀ xs p vs F' H', k xs → After F0 H0 (owns G) F' H' → Env b G σ F' H' → H0 p = none → F' p = none → H' p = some (.lst vs) → All r F' xs vs → Q (.ref p) H') {p : Addr} (hp : H p = none) : Q (.ref p) (upd H p (.lst vs)) := by
  have B := After.fresh (o := .lst vs) V.fh hp
  refine w xs p vs F _ q (A0.trans (B _)) (V.step (B _)) ?_ (ex_none V.fh hp) upd_same A
  cases e : H0 p with
  | none => rfl
  | some u => exact absurd hp (A0.kp p (by rw [e]; exact fun z => nomatch z))
/-- the items of a display -/
def ArL (b : Bs) (G : List Sl) (ta : TA) (r : R α) (n : Nat) (f : (List α → Prop) → Prop) : Prop := ∀ ⦃σ : L2.St⦄ ⦃F H : Hp⦄ ⦃Q : List V → Hp → Prop⦄ (k : List α → Prop), Env b G σ F H → f k →
  (∀ xs vs F' H', k xs → xs.length = n → After F H (owns G) F' H' → Env b G σ F' H' → All r F' xs vs → Q vs H') → ta σ H Q
theorem al_nil {r : R α} : ArL b G tNil r 0 (fun k => k []) := fun _ _ _ _ k V q w => w [] [] _ _ q rfl (.refl V.fh _) V .nil
theorem al_cons {te : TE} {ta : TA} {r : R α} {n : Nat} {f : (α → Prop) → Prop} {g : (List α → Prop) → Prop} (h : E b G te r f) (h2 : ArL b G ta r n g) : ArL b G (tCons te ta) r (n + 1) (fun k => f fun x => g fun xs => k (x :: xs)) :=
  fun _ _ _ _ k V q w => h _ V q fun x v F1 H1 q1 A1 V1 r1 => h2 _ V1 q1 fun xs vs F2 H2 q2 l A2 V2 r2 => w (x :: xs) (v :: vs) F2 H2 q2 (by rw [List.length_cons, l]) (A1.trans A2) V2 (.cons (r.ex A2.ff r1) r2)
theorem en_lst {ta : TA} {r : R α} {n : Nat} {f : (List α → Prop) → Prop} (h : ArL b G ta r n f) (hn : n ≤ sizeLine) : EN b G (tLst ta) r f := fun _ _ _ _ k V q w => h _ V q fun xs vs F1 H1 q1 l A1 V1 r1 => ⟨by rw [r1.len, l]; exact hn, fun p hp => en_lay A1 V1 q1 r1 w hp⟩
/-- arguments -/
theorem ar_nil : Ar b G tNil rNil (fun k => k ()) := fun _ _ _ _ k V q w => w () [] _ _ q (.refl V.fh _) V rfl
theorem ar_one {te : TE} {r : R α} {f : (α → Prop) → Prop} (h : E b G te r f) : Ar b G (tCons te tNil) (rOne r) f := fun _ _ _ _ k V q w => h _ V q fun x v F1 H1 q1 A1 V1 r1 => w x [v] F1 H1 q1 A1 V1 ⟨v, rfl, r1⟩
theorem ar_cons {te : TE} {ta : TA} {r : R α} {s : RI γ} {f : (α → Prop) → Prop} {g : (γ → Prop) → Prop} (h : E b G te r f) (h2 : Ar b G ta s g) : Ar b G (tCons te ta) (rCons r s) (fun k => f fun x => g fun y => k (x, y)) :=
  fun _ _ _ _ k V q w => h _ V q fun x v F1 H1 q1 A1 V1 r1 => h2 _ V1 q1 fun y vs F2 H2 q2 A2 V2 r2 => w (x, y) (v :: vs) F2 H2 q2 (A1.trans A2) V2 ⟨v, vs, rfl, r.ex A2.ff r1, r2⟩
theorem e_tup {ta : TA} {s : RI α} {f : (α → Prop) → Prop} (h : Ar b G ta s f) (hn : s.n ≤ sizeLine) : E b G (tTup ta) (rTp K s) f := fun _ _ _ _ k V q w => h _ V q fun x vs F1 H1 q1 A1 V1 r1 => ⟨by rw [s.ln r1]; exact hn, fun p hp => by
  have B := After.new (o := .tup vs) V1.fh hp
  exact w x _ _ _ q1 (A1.trans (B.mono fun _ h => nomatch h)) (V1.step B) ⟨p, vs, rfl, SqT.of upd_same, s.ex B.ff r1⟩⟩
theorem e_cast {te : TE} {r : R α} {r' : R γ} {f : (α → Prop) → Prop} {g : α → γ} (hg : ∀ a v F, r.h a v F → r'.h (g a) v F) (h : E b G te r f) : E b G te r' (fun k => f fun a => k (g a)) := fun _ _ _ _ k V q w => h _ V q fun a v F' H' q' A V' r1 => w (g a) v F' H' q' A V' (hg a v F' r1)
/-! comprehensions -/
def compP (xs : List α) (B : α → List β → (List β → Prop) → Prop) (k : List β → Prop) : Prop := ∃ I : Nat → List β → Prop, I 0 [] ∧ (∀ i a acc, xs[i]? = some a → I i acc → B a acc (I (i + 1))) ∧ ∀ acc, I xs.length acc → k acc
theorem wipeG_get {j : Nat} {s : Sl} : ∀ {vs : List Nat}, j ∈ vs → (wipeG G vs)[j]? = some s → s = any
  | v :: vs, h, e => by
    have e : ((wipeG G vs).set v any)[j]? = some s := e
    by_cases q : v = j
    · subst q
      have hl : v < (wipeG G vs).length := by
        have := (List.getElem?_eq_some_iff.mp e).1
        rw [List.length_set] at this; exact this
      rw [List.getElem?_set_self hl] at e
      exact (Option.some.inj e).symm
    · rw [List.getElem?_set_ne q] at e
      exact wipeG_get ((List.mem_cons.mp h).resolve_left (fun z => q z.symm)) e
theorem wipe_get_ne {j : Nat} : ∀ {vs : List Nat}, j ∉ vs → (wipe σ vs)[j]? = σ[j]?
  | [], _ => rfl
  | v :: vs, h => by
    show ((wipe σ vs).set v none)[j]? = _
    rw [List.getElem?_set_ne (fun z => h (by rw [z]; exact List.mem_cons_self)), wipe_get_ne (fun z => h (List.mem_cons_of_mem _ z))]
theorem Env.poke {p : Addr} {o : HO} (V : Env b G σ F H) (n : p ∉ owns G) (f : F p = none) (hb : b.H p = none) : Env b G σ F (upd H p o) where
  ff := V.ff
  fh := ex_mut f V.fh
  hh := fun a u m h => by rw [upd_ne (ne_of_none h hb)]; exact V.hh a u m h
  kp := fun a h => by
    by_cases q : a = p
    · subst q; exact absurd hb h
    · rw [upd_ne q]; exact V.kp a h
  nf := V.nf
  hold := V.hold.up (Ex.refl _) fun q hq u h => by
    have ne : q ≠ p := fun z => n (by rw [← z]; exact hq)
    rw [upd_ne ne]; exact h
  nd := V.nd
  on := V.on
theorem Env.unwipe {vs : List Nat} (V : Env b (wipeG G vs) (L2.wipe σ vs) F H) (hl : (wipeG G vs).length = σ.length) : Env b (wipeG G vs) σ F H :=
  V.step0 (.refl V.fh []) (fun _ z => nomatch z) (fun _ h => h) V.nd (Holds.of hl fun j s o h1 h2 => by
    by_cases q : j ∈ vs
    · rw [wipeG_get q h1]; exact trivial
    · obtain ⟨o', h3, h4⟩ := V.hold.at_ h1
      rw [wipe_get_ne q, h2] at h3
      cases h3; exact h4)
theorem en_cq {te : TE} {r : R α} {f g : (List α → Prop) → Prop} (h : EN b G te r f) (w : ∀ k, g k → f k) : EN b G te r g := fun _ _ _ _ k V q => h k V (w k q)
theorem e_cq {te : TE} {r : R α} {f g : (α → Prop) → Prop} (h : E b G te r f) (w : ∀ k, g k → f k) : E b G te r g := fun _ _ _ _ k V q => h k V (w k q)
theorem en_comp {wi : TI} {g : TG} {tt : TT} {te : TE} {vs : List Nat} {r : R α} {rb : R β} {up : α → List Sl → List Sl} {fw : (List α → Prop) → Prop} {ft : α → (Bool → Prop) → Prop} {fe : α → (β → Prop) → Prop}
    (hw : Wk b G wi r fw) (hg : Tg g r up vs) (hG : wipeG G vs = G) (ht : ∀ a, Tt b (up a G) tt (ft a)) (he : ∀ a, E b (up a G) te rb (fe a)) :
    EN b G (tLc wi g tt te vs) rb (fun k => fw fun xs => xs.length ≤ sizeLine ∧ compP xs (fun a acc n => ft a fun c => (c = true → fe a fun y => n (acc ++ [y])) ∧ (c = false → n acc)) k) :=
  fun σ F H Q k V q w => by
    refine hw _ V q ?_
    intro xs J F1 H1 q1 A1 V1 ⟨Gs, Y, hW, hGs, hY⟩ 
    obtain ⟨hl, I, i0, it, id⟩ := q1
    have hlen : G.length = σ.length := V.hold.len
    refine raw_c hW fun Dl hD => ?_
    have fD : F1 Dl = none := ex_none V1.fh hD
    have B0 := After.fresh (o := .lst []) V1.fh hD []
    refine ⟨fun i H2 => ∃ acc ws F2, I i acc ∧ acc.length ≤ i ∧ After F1 H1 (owns G) F2 H2 ∧ Env b G σ F2 H2 ∧ F2 Dl = none ∧ H2 Dl = some (.lst ws) ∧ All rb F2 acc ws, ⟨[], [], F1, i0, Nat.le_refl _, After.fresh V1.fh hD _, V1.step B0, fD, upd_same, .nil⟩, fun i H2 _ ⟨_, _, F2, _, _, A2, V2, _⟩ => hGs _ (A2.ff.trans V2.fh), fun i v H2 H3 hi ⟨acc, ws, F2, hacc, hle, A2, V2, fD2, hD2, hAl⟩ y => ?_, fun H2 ⟨acc, ws, F2, hacc, hle, A2, V2, fD2, hD2, hAl⟩ => ?_⟩
    · obtain ⟨a, F3, ha, A3, hr⟩ := hY i v F2 H2 H3 hi A2.ff V2.fh y
      have V3 := V2.step A3
      have hw3 := V3.wipe vs
      rw [hG] at hw3
      have fD3 : F3 Dl = none := A3.nf _ fD2 (by rw [hD2]; exact fun z => nomatch z)
      have hD3 : H3 Dl = some (.lst ws) := A3.hh _ _ (by simp) hD2
      refine hg.2 hr hw3 fun σ3 V4 ew => ?_
      have nD : Dl ∉ owns (up a G) := fun z => by
        have := V.hold.live Dl ((hg.1 a G).1 _ z)
        exact this (by
          cases e : H Dl with
          | none => rfl
          | some u => exact absurd hD (A1.kp Dl (by rw [e]; exact fun z => nomatch z)))
      have eqw : wipe (wipe σ vs) vs = wipe σ vs := by
        have : ∀ us : List Nat, (∀ x ∈ us, x ∈ vs) → wipe (wipe σ vs) us = wipe σ vs := by
          intro us
          induction us with
          | nil => intro _; rfl
          | cons x us ih =>
            intro hx
            show (wipe (wipe σ vs) us).set x none = _
            rw [ih fun z hz => hx z (List.mem_cons_of_mem _ hz)]
            have hx' := hx x List.mem_cons_self
            apply List.ext_getElem?
            intro j
            by_cases z : x = j
            · subst z
              have : ∀ ws : List Nat, x ∈ ws → (wipe σ ws)[x]? = none ∨ (wipe σ ws)[x]? = some none := by
                intro ws
                induction ws with
                | nil => intro h; nomatch h
                | cons y ws ih2 =>
                  intro h
                  show ((wipe σ ws).set y none)[x]? = none ∨ ((wipe σ ws).set y none)[x]? = some none
                  by_cases zz : y = x
                  · subst zz
                    by_cases hh : y < (wipe σ ws).length
                    · rw [List.getElem?_set_self hh]; exact .inr rfl
                    · exact .inl (by rw [List.getElem?_eq_none]; rw [List.length_set]; omega)
                  · rw [List.getElem?_set_ne zz]
                    exact ih2 ((List.mem_cons.mp h).resolve_left (fun z => zz z.symm))
              rcases this vs hx' with e | e
              · have hh : ¬ x < (wipe σ vs).length := fun hh => by rw [List.getElem?_eq_getElem hh] at e; cases e
                rw [e, List.getElem?_eq_none]; rw [List.length_set]; omega
              · rw [e, List.getElem?_set_self (List.getElem?_eq_some_iff.mp e).1]
            · rw [List.getElem?_set_ne z]
        exact this vs fun _ h => h
      have back : ∀ F5 H5, After F3 H3 (owns (up a G)) F5 H5 → Env b (up a G) σ3 F5 H5 → Env b G σ F5 H5 ∧ F5 Dl = none ∧ H5 Dl = some (.lst ws) ∧ After F1 H1 (owns G) F5 H5 := fun F5 H5 A5 V5 => by
        have W := V5.wipe vs
        rw [(hg.1 a G).2, hG, ew, eqw] at W
        rw [← hG] at W
        have W2 := W.unwipe (by rw [hG]; exact hlen)
        rw [hG] at W2
        exact ⟨W2, A5.nf _ fD3 (by rw [hD3]; exact fun z => nomatch z), A5.hh _ _ nD hD3, (A2.trans (A3.mono fun _ h => nomatch h)).trans (A5.mono fun p hp => (hg.1 a G).1 p hp)⟩
      refine ⟨ew.trans eqw, ?_⟩
      have hn : acc.length < sizeLine := by omega
      refine ht a _ V4 (it i a acc ha hacc) fun c F4 H4 q4 A4 V5 => ?_
      cases c with
      | true =>
        refine iteT (he a _ V5 (q4.1 rfl) fun y v5 F5 H5 q5 A5 V6 r5 => ?_)
        obtain ⟨W, f5, h5, B5⟩ := back F5 H5 (A4.trans A5) V6
        have hAl5 := hAl.ex (A3.ff.trans (A4.ff.trans A5.ff))
        have lw : ws.length = acc.length := hAl.len
        refine ⟨ws, h5, by omega, acc ++ [y], ws ++ [v5], F5, q5, by simp; omega, ?_, ?_, f5, upd_same, Dh.paired_app hAl5 (.cons r5 .nil)⟩
        all_goals have hD1 : H1 Dl = none := hD
        all_goals have n1 : ∀ {x : Addr}, H1 x ≠ none → x ≠ Dl := fun h z => h (by rw [z]; exact hD1)
        · exact ⟨B5.ff, ex_mut f5 B5.fh, fun x o hm hx => by rw [upd_ne (n1 (by rw [hx]; exact fun z => nomatch z))]; exact B5.hh x o hm hx, fun x hx => by rw [upd_ne (n1 hx)]; exact B5.kp x hx, B5.nf⟩
        · refine W.poke (fun z => ?_) f5 ?_
          · exact W.hold.live Dl z |> fun h => (V1.hold.live Dl z) hD
          · cases e : b.H Dl with
            | none => rfl
            | some u => exact absurd hD (V1.kp Dl (by rw [e]; exact fun z => nomatch z))
      | false =>
        obtain ⟨W, f5, h5, B5⟩ := back F4 H4 A4 V5
        exact iteF ⟨acc, ws, F4, q4.2 rfl, by omega, B5, W, f5, h5, hAl.ex (A3.ff.trans A4.ff)⟩
    · refine w acc Dl ws F2 H2 (id acc hacc) (A1.trans A2) V2 ?_ fD2 hD2 hAl
      cases e : H Dl with
      | none => rfl
      | some u => exact absurd hD (A1.kp Dl (by rw [e]; exact fun z => nomatch z))
end
end Mi
/-! Mir3 -/
set_option Elab.async false
set_option linter.all false
set_option maxRecDepth 100000
set_option maxHeartbeats 4000000
namespace Mi
open PySem PySem.Spec L2 Dh
open _root_.Evl (Ex)
section
variable {K : PySem.W.Frag} {b : Bs} {G : List Sl} {α β γ δ τ τ' ρ ε : Type} {Gn : τ → List Sl} {Gl : ε → List Sl} {ro : ρ → V → Hp → Hp → Prop} {σ : L2.St} {F H F' H' : Hp}
/-! ### tests -/
theorem t_test {te : TE} {f : (Bool → Prop) → Prop} (h : E b G te rBl f) : Tt b G (tTest te) f := fun _ _ _ _ k V q w => by
  refine h k V q ?_
  intro a v F' H' q' A V' r
  exact ⟨a, r, w a F' H' q' A V'⟩
theorem t_B {te : TE} {f : (Bool → Prop) → Prop} (h : E b G te rBl f) : Tt b G (tB te) f := fun _ _ _ _ k V q w => by
  refine h k V q ?_
  intro a v F' H' q' A V' r
  exact ⟨a, r, w a F' H' q' A V'⟩
theorem t_yes : Tt b G tYes (fun k => k true) := fun _ _ _ _ k V q w => w true _ _ q (.refl V.fh _) V
theorem t_not {t : TT} {f : (Bool → Prop) → Prop} (h : Tt b G t f) : Tt b G (tNot t) (fun k => f fun c => k (!c)) := fun _ _ _ _ k V q w => h _ V q fun a F' H' q' A V' => w _ F' H' q' A V'
theorem t_and {t u : TT} {f g : (Bool → Prop) → Prop} (h : Tt b G t f) (h2 : Tt b G u g) : Tt b G (tAnd t u) (fun k => f fun a => (a = true → g k) ∧ (a = false → k false)) := fun _ _ _ _ k V q w => h _ V q fun a F' H' q' A V' => by
  cases a with
  | true => exact iteT (h2 k V' (q'.1 rfl) fun c F2 H2 q2 A2 V2 => w c F2 H2 q2 (A.trans A2) V2)
  | false => exact iteF (w false F' H' (q'.2 rfl) A V')
theorem t_or {t u : TT} {f g : (Bool → Prop) → Prop} (h : Tt b G t f) (h2 : Tt b G u g) : Tt b G (tOr t u) (fun k => f fun a => (a = true → k true) ∧ (a = false → g k)) := fun _ _ _ _ k V q w => h _ V q fun a F' H' q' A V' => by
  cases a with
  | true => exact iteT (w true F' H' (q'.1 rfl) A V')
  | false => exact iteF (h2 k V' (q'.2 rfl) fun c F2 H2 q2 A2 V2 => w c F2 H2 q2 (A.trans A2) V2)
theorem t_cq {t : TT} {f g : (Bool → Prop) → Prop} (h : Tt b G t f) (w : ∀ k, g k → f k) : Tt b G t g := fun _ _ _ _ k V q => h k V (w k q)
/-- both plain -/
theorem t_andP {t u : TT} {f : (Bool → Prop) → Prop} {y : Bool} (h : Tt b G t f) (h2 : Tt b G u (fun k => k y)) : Tt b G (tAnd t u) (fun k => f fun a => k (a && y)) := fun _ _ _ _ k V q w => h _ V q fun a F' H' q' A V' => by
  cases a with
  | true => exact iteT (h2 k V' q' fun c F2 H2 q2 A2 V2 => w c F2 H2 q2 (A.trans A2) V2)
  | false => exact iteF (w false F' H' q' A V')
theorem t_orP {t u : TT} {f : (Bool → Prop) → Prop} {y : Bool} (h : Tt b G t f) (h2 : Tt b G u (fun k => k y)) : Tt b G (tOr t u) (fun k => f fun a => k (a || y)) := fun _ _ _ _ k V q w => h _ V q fun a F' H' q' A V' => by
  cases a with
  | true => exact iteT (w true F' H' q' A V')
  | false => exact iteF (h2 k V' q' fun c F2 H2 q2 A2 V2 => w c F2 H2 q2 (A.trans A2) V2)
theorem e_if {c : TT} {ta te : TE} {r : R α} {fc : (Bool → Prop) → Prop} {f g : (α → Prop) → Prop} (hc : Tt b G c fc) (h1 : E b G ta r f) (h2 : E b G te r g) : E b G (tIf c ta te) r (fun k => fc fun a => (a = true → f k) ∧ (a = false → g k)) := fun _ _ _ _ k V q w => by
  refine hc _ V q ?_
  intro a F' H' q' A V'
  cases a with
  | true => exact iteT (h1 k V' (q'.1 rfl) fun x v F2 H2 q2 A2 V2 => w x v F2 H2 q2 (A.trans A2) V2)
  | false => exact iteF (h2 k V' (q'.2 rfl) fun x v F2 H2 q2 A2 V2 => w x v F2 H2 q2 (A.trans A2) V2)
theorem e_andV {ta te : TE} {f g : (Bool → Prop) → Prop} (h1 : E b G ta rBl f) (h2 : E b G te rBl g) : E b G (tAndV ta te) rBl (fun k => f fun a => (a = true → g k) ∧ (a = false → k false)) := fun _ _ _ _ k V q w => by
  refine h1 _ V q ?_
  intro a v F' H' q' A V' r
  refine ⟨a, r, ?_⟩
  cases a with
  | true => exact iteT (h2 k V' (q'.1 rfl) fun x v F2 H2 q2 A2 V2 => w x v F2 H2 q2 (A.trans A2) V2)
  | false => exact iteF (w false _ F' H' (q'.2 rfl) A V' rfl)
theorem e_orV {ta te : TE} {f g : (Bool → Prop) → Prop} (h1 : E b G ta rBl f) (h2 : E b G te rBl g) : E b G (tOrV ta te) rBl (fun k => f fun a => (a = true → k true) ∧ (a = false → g k)) := fun _ _ _ _ k V q w => by
  refine h1 _ V q ?_
  intro a v F' H' q' A V' r
  refine ⟨a, r, ?_⟩
  cases a with
  | true => exact iteT (w true _ F' H' (q'.1 rfl) A V' rfl)
  | false => exact iteF (h2 k V' (q'.2 rfl) fun x v F2 H2 q2 A2 V2 => w x v F2 H2 q2 (A.trans A2) V2)
theorem e_notV {ta : TE} {f : (Bool → Prop) → Prop} (h : E b G ta rBl f) : E b G (tNotV ta) rBl (fun k => f fun a => k (!a)) := fun _ _ _ _ k V q w => by
  refine h _ V q ?_
  intro a v F' H' q' A V' r
  exact ⟨a, r, w _ _ F' H' q' A V' rfl⟩
theorem e_chain {r1 r2 : R2} {ta te tc : TE} {ra : R α} {rb : R β} {rc : R γ} {fa : (α → Prop) → Prop} {fb : (β → Prop) → Prop} {fc : (γ → Prop) → Prop} {g : α → β → (Bool → Prop) → Prop} {g2 : β → γ → (Bool → Prop) → Prop}
    (o1 : Op2 r1 ra rb rBl g) (o2 : Op2 r2 rb rc rBl g2) (ha : E b G ta ra fa) (hb : E b G te rb fb) (hc : E b G tc rc fc) :
    E b G (tChain r1 r2 ta te tc) rBl (fun k => fa fun x => fb fun y => g x y fun c => (c = true → fc fun z => g2 y z k) ∧ (c = false → k false)) := fun _ _ _ _ k V q w => by
  refine ha _ V q ?_
  intro x v F1 H1 q1 A1 V1 r1
  refine hb _ V1 q1 ?_
  intro y u F2 H2 q2 A2 V2 r2
  refine o1 _ (ra.ex A2.ff r1) r2 V2.fh q2 ?_
  intro c z F3 H3 q3 A3 r3
  refine ⟨c, r3, ?_⟩
  have A123 := (A1.trans A2).trans (A3.mono (M' := owns G) fun _ h => nomatch h)
  cases c with
  | true =>
    refine iteT (hc _ (V2.step A3) (q3.1 rfl) ?_)
    intro s t F4 H4 q4 A4 V4 r4
    exact o2 k (rb.ex (A3.ff.trans A4.ff) r2) r4 V4.fh q4 fun i j F5 H5 q5 A5 r5 => w i j F5 H5 q5 ((A123.trans A4).trans (A5.mono fun _ h => nomatch h)) (V4.step A5) r5
  | false => exact iteF (w false _ F3 H3 (q3.2 rfl) A123 (V2.step A3) rfl)
/-! ### lists that are read -/
def LV (b : Bs) (G : List Sl) (te : TE) (r : R α) (f : (List α → Prop) → Prop) : Prop := ∀ ⦃σ : L2.St⦄ ⦃F H : Hp⦄ ⦃Q : VK⦄ (k : List α → Prop), Env b G σ F H → f k →
  (∀ xs p F' H', k xs → After F H (owns G) F' H' → Env b G σ F' H' → (∀ F2 H2, Ex F' F2 → Env b G σ F2 H2 → ∃ vs, H2 p = some (.lst vs) ∧ All r F2 xs vs) → Q (.ref p) H') → te σ H Q
theorem lv_e {te : TE} {r : R α} {f : (List α → Prop) → Prop} (h : E b G te (rLst r) f) : LV b G te r f := fun _ _ _ _ k V q w => by
  refine h k V q ?_
  rintro xs v F1 H1 q1 A1 V1 ⟨p, vs, e, hp, A⟩
  subst e
  exact w xs p F1 H1 q1 A1 V1 fun F2 H2 e V2 => ⟨vs, V2.fh _ _ (e _ _ hp), A.ex e⟩
theorem lv_own {i : Nat} {p : Addr} {r : R α} {xs : List α} (h : G[i]? = some (own p (cLst r) xs)) : LV b G (tVar i) r (fun k => k xs) := fun σ F H Q k V q w => by
  obtain ⟨o, h1, rfl, _⟩ := V.hold.at_ h
  refine ⟨.ref p, h1, w xs p F H q (.refl V.fh _) V fun F2 H2 e V2 => ?_⟩
  obtain ⟨o, h1, _, u, h2, vs, rfl, h3⟩ := V2.hold.at_ h
  exact ⟨vs, h2, h3⟩
theorem e_lenL {te : TE} {r : R α} {f : (List α → Prop) → Prop} (h : LV b G te r f) : E b G (tCB (rLenQ K) (tCons te tNil)) rInt (fun k => f fun xs => k (xs.length : Int)) := fun _ _ _ _ k V q w => by
  refine h _ V q ?_
  intro xs p F1 H1 q1 A1 V1 z
  obtain ⟨vs, h1, h2⟩ := z F1 H1 (Ex.refl _) V1
  exact ⟨p, vs, rfl, .inl (SqL.of h1), w _ _ F1 H1 q1 A1 V1 (by rw [h2.len]; rfl)⟩
theorem e_lenT {te : TE} {r : R α} {f : (List α → Prop) → Prop} (h : E b G te (rTup K r) f) : E b G (tCB (rLenQ K) (tCons te tNil)) rInt (fun k => f fun xs => k (xs.length : Int)) := fun _ _ _ _ k V q w => by
  refine h _ V q ?_
  rintro xs v F1 H1 q1 A1 V1 ⟨p, vs, e, hp, A⟩
  subst e
  exact ⟨p, vs, rfl, .inr (_root_.Evl.ex_t V1.fh hp), w _ _ F1 H1 q1 A1 V1 (by rw [A.len]; rfl)⟩
theorem e_lenS {te : TE} {f : (Str → Prop) → Prop} (h : E b G te rStr f) : E b G (tCB rLenS (tCons te tNil)) rInt (fun k => f fun z => z.length ≤ sizeLine ∧ k (z.length : Int)) := fun _ _ _ _ k V q w => by
  refine h _ V q ?_
  rintro z v F1 H1 q1 A1 V1 e
  cases e
  exact ⟨z, rfl, q1.1, w _ _ F1 H1 q1.2 A1 V1 rfl⟩
theorem e_ixL {te ti : TE} {r : R α} {f : (List α → Prop) → Prop} {g : (Int → Prop) → Prop} (h : LV b G te r f) (hi : E b G ti rInt g) : E b G (tOp (rIxL K) te ti) r (fun k => f fun xs => g fun i => ∃ a, atI xs i = some a ∧ k a) := fun _ _ _ _ k V q w => by
  refine h _ V q ?_
  intro xs p F1 H1 q1 A1 V1 z
  refine hi _ V1 q1 ?_
  rintro i v F2 H2 ⟨a, ha, q2⟩ A2 V2 e
  cases e
  obtain ⟨vs, h1, h2⟩ := z F2 H2 A2.ff V2
  obtain ⟨v, hv, hr⟩ := h2.atI ha
  exact ⟨p, vs, i, v, rfl, rfl, SqL.of h1, hv, w a v F2 H2 q2 (A1.trans A2) V2 hr⟩
theorem t_truL {te : TE} {r : R α} {f : (List α → Prop) → Prop} (h : LV b G te r f) : Tt b G (tTru K te) (fun k => f fun xs => k (!xs.isEmpty)) := fun _ _ _ _ k V q w => by
  refine h _ V q ?_
  intro xs p F1 H1 q1 A1 V1 z
  obtain ⟨vs, h1, h2⟩ := z F1 H1 (Ex.refl _) V1
  refine ⟨!xs.isEmpty, .inl ⟨vs, SqL.of h1, ?_⟩, w _ F1 H1 q1 A1 V1⟩
  cases h2 <;> rfl
theorem e_notL {te : TE} {r : R α} {f : (List α → Prop) → Prop} (h : LV b G te r f) : E b G (tNotT K te) rBl (fun k => f fun xs => k xs.isEmpty) := fun _ _ _ _ k V q w => by
  refine h _ V q ?_
  intro xs p F1 H1 q1 A1 V1 z
  obtain ⟨vs, h1, h2⟩ := z F1 H1 (Ex.refl _) V1
  refine ⟨!xs.isEmpty, .inl ⟨vs, SqL.of h1, ?_⟩, w _ _ F1 H1 q1 A1 V1 ?_⟩
  · cases h2 <;> rfl
  · cases xs <;> rfl
def PO' (b : Bs) (G : List Sl) (t : TO) (f : (Option Int → Prop) → Prop) : Prop := ∀ ⦃σ : L2.St⦄ ⦃F H : Hp⦄ ⦃Q : Option Int → Hp → Prop⦄ (k : Option Int → Prop), Env b G σ F H → f k → (∀ a F' H', k a → After F H (owns G) F' H' → Env b G σ F' H' → Q a H') → t σ H Q
theorem po_no : PO' b G tNoPart (fun k => k none) := fun _ _ _ _ k V q w => w none _ _ q (.refl V.fh _) V
theorem po_at {te : TE} {f : (Int → Prop) → Prop} (h : E b G te rInt f) : PO' b G (tPart te) (fun k => f fun i => k (some i)) := fun _ _ _ _ k V q w => by
  refine h _ V q ?_
  intro i v F1 H1 q1 A1 V1 e
  exact ⟨i, e, w _ F1 H1 q1 A1 V1⟩
def cutL (xs : List α) (lo hi : Option Int) : List α := (xs.drop (HT.sIx xs.length 0 lo)).take (HT.sIx xs.length xs.length hi - HT.sIx xs.length 0 lo)
theorem All.drop {r : R α} {F : Hp} : ∀ {xs : List α} {vs : List V} (n : Nat), All r F xs vs → All r F (xs.drop n) (vs.drop n)
  | _, _, 0, h => h
  | _, _, _ + 1, .nil => .nil
  | _, _, n + 1, .cons _ t => All.drop n t
theorem All.take {r : R α} {F : Hp} : ∀ {xs : List α} {vs : List V} (n : Nat), All r F xs vs → All r F (xs.take n) (vs.take n)
  | _, _, 0, _ => .nil
  | _, _, _ + 1, .nil => .nil
  | _, _, n + 1, .cons h t => .cons h (All.take n t)
theorem All.cut {r : R α} {F : Hp} {xs : List α} {vs : List V} {lo hi : Option Int} (h : All r F xs vs) : All r F (cutL xs lo hi) (cutV vs lo hi) := by
  unfold cutL cutV
  rw [h.len]
  exact (h.drop _).take _
theorem en_slL {te : TE} {tl th : TO} {r : R α} {f : (List α → Prop) → Prop} {g g2 : (Option Int → Prop) → Prop} (h : LV b G te r f) (hl : PO' b G tl g) (hh : PO' b G th g2) : EN b G (tSl (rSlL K) te tl th) r (fun k => f fun xs => g fun lo => g2 fun hi => k (cutL xs lo hi)) := fun _ _ _ _ k V q w => by
  refine h _ V q ?_
  intro xs p F1 H1 q1 A1 V1 z
  refine hl _ V1 q1 ?_
  intro lo F2 H2 q2 A2 V2
  refine hh _ V2 q2 ?_
  intro hi F3 H3 q3 A3 V3
  obtain ⟨vs, h1, h2⟩ := z F3 H3 (A2.ff.trans A3.ff) V3
  exact ⟨p, vs, rfl, SqL.of h1, fun l hl => en_lay ((A1.trans A2).trans A3) V3 q3 h2.cut w hl⟩
theorem e_slS {te : TE} {tl th : TO} {f : (Str → Prop) → Prop} {g g2 : (Option Int → Prop) → Prop} (h : E b G te rStr f) (hl : PO' b G tl g) (hh : PO' b G th g2) : E b G (tSl rSlS te tl th) rStr (fun k => f fun z => g fun lo => g2 fun hi => z.length ≤ sizeLine ∧ k (cutS z lo hi)) := fun _ _ _ _ k V q w => by
  refine h _ V q ?_
  intro z v F1 H1 q1 A1 V1 e
  cases e
  refine hl _ V1 q1 ?_
  intro lo F2 H2 q2 A2 V2
  refine hh _ V2 q2 ?_
  intro hi F3 H3 q3 A3 V3
  exact ⟨z, rfl, q3.1, w _ _ F3 H3 q3.2 ((A1.trans A2).trans A3) V3 rfl⟩
theorem en_listL {te : TE} {r : R α} {f : (List α → Prop) → Prop} (h : LV b G te r f) : EN b G (tCB (rListQ K) (tCons te tNil)) r f := fun _ _ _ _ k V q w => by
  refine h _ V q ?_
  intro xs p F1 H1 q1 A1 V1 z
  obtain ⟨vs, h1, h2⟩ := z F1 H1 (Ex.refl _) V1
  exact ⟨p, vs, rfl, .inl (SqL.of h1), fun l hl => en_lay A1 V1 q1 h2 w hl⟩
theorem en_listT {te : TE} {r : R α} {f : (List α → Prop) → Prop} (h : E b G te (rTup K r) f) : EN b G (tCB (rListQ K) (tCons te tNil)) r f := fun _ _ _ _ k V q w => by
  refine h _ V q ?_
  rintro xs v F1 H1 q1 A1 V1 ⟨p, vs, e, hp, A⟩
  subst e
  exact ⟨p, vs, rfl, .inr (_root_.Evl.ex_t V1.fh hp), fun l hl => en_lay A1 V1 q1 A w hl⟩
theorem e_tupL {te : TE} {r : R α} {f : (List α → Prop) → Prop} (h : LV b G te r f) : E b G (tCB (rTupQ K) (tCons te tNil)) (rTup K r) f := fun _ _ _ _ k V q w => by
  refine h _ V q ?_
  intro xs p F1 H1 q1 A1 V1 z
  obtain ⟨vs, h1, h2⟩ := z F1 H1 (Ex.refl _) V1
  refine ⟨p, vs, rfl, .inl ⟨SqL.of h1, fun l hl => ?_⟩⟩
  have B := After.new (o := .tup vs) V1.fh hl
  exact w xs _ _ _ q1 (A1.trans (B.mono fun _ h => nomatch h)) (V1.step B) ⟨l, vs, rfl, SqT.of upd_same, h2.ex B.ff⟩
theorem en_cat {ta te : TE} {r : R α} {f g : (List α → Prop) → Prop} (h : LV b G ta r f) (h2 : LV b G te r g) : EN b G (tOp rCat ta te) r (fun k => f fun xs => g fun ys => xs.length + ys.length ≤ sizeLine ∧ k (xs ++ ys)) := fun _ _ _ _ k V q w => by
  refine h _ V q ?_
  intro xs p F1 H1 q1 A1 V1 z
  refine h2 _ V1 q1 ?_
  intro ys p2 F2 H2 q2 A2 V2 z2
  obtain ⟨vs, k1, k2⟩ := z F2 H2 A2.ff V2
  obtain ⟨us, k3, k4⟩ := z2 F2 H2 (Ex.refl _) V2
  exact ⟨p, p2, vs, us, rfl, rfl, k1, k3, by rw [k2.len, k4.len]; exact q2.1, fun l hl => en_lay (A1.trans A2) V2 q2.2 (Dh.paired_app k2 k4) w hl⟩
theorem e_catT {ta te : TE} {r : R α} {f g : (List α → Prop) → Prop} (h : E b G ta (rTup K r) f) (h2 : E b G te (rTup K r) g) : E b G (tOp (rCatA K) ta te) (rTup K r) (fun k => f fun xs => g fun ys => xs.length + ys.length ≤ sizeLine ∧ k (xs ++ ys)) := fun _ _ _ _ k V q w => by
  refine h _ V q ?_
  rintro xs v F1 H1 q1 A1 V1 ⟨p, vs, e, hp, A⟩
  subst e
  refine h2 _ V1 q1 ?_
  rintro ys v F2 H2 q2 A2 V2 ⟨p', vs', e, hp', A'⟩
  subst e
  have hp2 := _root_.Evl.ex_t V2.fh (_root_.Evl.ex_t A2.ff hp)
  refine ⟨p, p', vs, vs', rfl, rfl, hp2, _root_.Evl.ex_t V2.fh hp', by rw [A.len, A'.len]; exact q2.1, fun e => ?_, fun _ e => ?_, fun _ _ t ht => ?_⟩
  · subst e
    cases A
    exact w _ _ F2 H2 q2.2 (A1.trans A2) V2 ⟨p', vs', rfl, hp', A'⟩
  · subst e
    cases A'
    refine w _ _ F2 H2 q2.2 (A1.trans A2) V2 ?_
    rw [List.append_nil]
    exact ⟨p, vs, rfl, _root_.Evl.ex_t A2.ff hp, A.ex A2.ff⟩
  · have B := After.new (o := .tup (vs ++ vs')) V2.fh ht
    exact w _ _ _ _ q2.2 ((A1.trans A2).trans (B.mono fun _ h => nomatch h)) (V2.step B) ⟨t, _, rfl, SqT.of upd_same, All.ex B.ff (Dh.paired_app (A.ex A2.ff) A')⟩
/-- values without parts -/
structure Flat [DecidableEq α] (r : R α) : Prop where
  fl : ∀ {a v F}, r.h a v F → flatV v = true
  eq : ∀ {a v F c u F'}, r.h a v F → r.h c u F' → eqV v u = decide (a = c)
theorem flat_int : Flat rInt := ⟨fun h => by cases h; rfl, fun h1 h2 => by
  cases h1; cases h2
  show ((_ : Int) == _) = _
  rw [Bool.beq_eq_decide_eq]⟩
theorem flat_str : Flat rStr := ⟨fun h => by cases h; rfl, fun h1 h2 => by
  cases h1; cases h2
  show ((_ : Str) == _) = _
  rw [Bool.beq_eq_decide_eq]⟩
theorem All.flat [DecidableEq α] {r : R α} (fl : Flat r) {F : Hp} {xs : List α} {vs : List V} (h : All r F xs vs) : vs.all flatV = true := by
  induction h with
  | nil => rfl
  | cons r t ih => rw [List.all_cons, fl.fl r, ih]; rfl
theorem All.inV [DecidableEq α] {r : R α} (fl : Flat r) {F F' : Hp} {xs : List α} {vs : List V} {a : α} {v : V} (h : All r F xs vs) (ha : r.h a v F') : L2.inV v vs = decide (a ∈ xs) := by
  induction h with
  | nil => simp [L2.inV]
  | cons r t ih =>
    unfold L2.inV at ih ⊢
    rw [List.any_cons, ih, fl.eq r ha]
    simp only [List.mem_cons, Bool.decide_or]
    congr 1
    exact decide_eq_decide.mpr ⟨fun h => h.symm, fun h => h.symm⟩
theorem e_inL [DecidableEq α] {neg : Bool} {tx te : TE} {r : R α} {f : (α → Prop) → Prop} {g : (List α → Prop) → Prop} (fl : Flat r) (hx : E b G tx r f) (h : LV b G te r g) : E b G (tOp (rIn K neg) tx te) rBl (fun k => f fun x => g fun xs => k (if neg then !decide (x ∈ xs) else decide (x ∈ xs))) := fun _ _ _ _ k V q w => by
  refine hx _ V q ?_
  intro x v F1 H1 q1 A1 V1 r1
  refine h _ V1 q1 ?_
  intro xs p F2 H2 q2 A2 V2 z
  obtain ⟨vs, k1, k2⟩ := z F2 H2 (Ex.refl _) V2
  refine ⟨p, vs, rfl, .inl (SqL.of k1), fl.fl r1, k2.flat fl, w _ _ F2 H2 q2 (A1.trans A2) V2 ?_⟩
  rw [k2.inV fl r1]; rfl
/-- a list grows -/
theorem s_app {i : Nat} {p : Addr} {te : TE} {r : R α} {xs : List α} {f : (α → Prop) → Prop} (hi : G[i]? = some (own p (cLst r) xs)) (h : E b G te r f) :
    S b G (tDrop (tBM K "list" rAppend (tVar i) (tCons te tNil))) (fun x : α => G.set i (own p (cLst r) (xs ++ [x]))) Gl ro (fun d => f fun x => xs.length < sizeLine ∧ d.nx x) := fun σ F H D d V q w1 _ _ _ => by
  obtain ⟨o, h1, rfl, u, h2, vs, rfl, h3⟩ := V.hold.at_ hi
  refine ⟨.ref p, h1, ty_l h2, ?_⟩
  refine h _ V q ?_
  intro x v F1 H1 q1 A1 V1 r1
  obtain ⟨o, h1', e, u, h2, vs, rfl, h3⟩ := V1.hold.at_ hi
  rw [h1] at h1'; cases h1'
  refine ⟨p, vs, v, rfl, rfl, h2, by rw [h3.len]; exact q1.1, w1 x _ F1 _ q1.2 A1.ff ?_⟩
  have hp : p ∈ owns G := mem_owns hi List.mem_cons_self
  refine V1.step0 (M := [p]) ⟨Ex.refl _, ex_mut (V1.on p hp).1 V1.fh, fun x o hm hx => by rw [upd_ne (fun z => hm (by rw [z]; exact List.mem_cons_self))]; exact hx, fun x hx => ?_, fun _ h _ => h⟩ (fun q hq => by rw [List.mem_singleton.mp hq]; exact hp) (fun q hq => ?_) ?_ ?_
  · by_cases z : x = p
    · subst z; rw [upd_same]; exact fun z => nomatch z
    · rw [upd_ne z]; exact hx
  · have e : owns (G.set i (own p (cLst r) (xs ++ [x]))) = owns G := owns_same hi rfl
    rw [← e]; exact hq
  · have e : owns (G.set i (own p (cLst r) (xs ++ [x]))) = owns G := owns_same hi rfl
    show (owns (G.set i (own p (cLst r) (xs ++ [x])))).Nodup
    rw [e]; exact V1.nd
  · exact V1.hold.mut V1.nd hi h1 List.mem_cons_self (Ex.refl _) (fun q u ne hq => by rw [upd_ne ne]; exact hq) ⟨rfl, _, upd_same, _, rfl, Dh.paired_app h3 (.cons r1 .nil)⟩
/-- x = a new list -/
theorem owns_setN {s : Sl} {p : Addr} (hs : s.ow = [p]) : ∀ {G : List Sl} {i : Nat}, p ∉ owns G → (owns G).Nodup → (∀ q ∈ owns (G.set i s), q = p ∨ q ∈ owns G) ∧ (owns (G.set i s)).Nodup
  | [], _, _, nd => ⟨fun q h => .inr h, nd⟩
  | x :: g, 0, h, nd => by
    show (∀ q ∈ s.ow ++ owns g, _) ∧ (s.ow ++ owns g).Nodup
    rw [hs]
    refine ⟨fun q hq => ?_, ?_⟩
    · rcases List.mem_append.mp hq with z | z
      · exact .inl (List.mem_singleton.mp z)
      · exact .inr (List.mem_append_right _ z)
    · exact List.nodup_cons.mpr ⟨fun z => h (List.mem_append_right _ z), (List.nodup_append.mp nd).2.1⟩
  | x :: g, i + 1, h, nd => by
    obtain ⟨n1, n2, n3⟩ := List.nodup_append.mp nd
    obtain ⟨h1, h2⟩ := owns_setN hs (G := g) (i := i) (fun z => h (List.mem_append_right _ z)) n2
    refine ⟨fun q hq => ?_, List.nodup_append.mpr ⟨n1, h2, fun a ha c hc e => ?_⟩⟩
    · rcases List.mem_append.mp hq with z | z
      · exact .inr (List.mem_append_left _ z)
      · exact (h1 q z).imp id (List.mem_append_right _)
    · subst e
      rcases h1 a hc with z | z
      · subst z; exact h (List.mem_append_left _ ha)
      · exact n3 a ha a z rfl
theorem s_new {te : TE} {r : R α} {i : Nat} {f : (List α → Prop) → Prop} {g : List α → Pd τ ε ρ → Prop} {t : TS} (h : EN b G te r f) (ht : ∀ p xs, p ∉ b.M → S b (G.set i (own p (cLst r) xs)) t Gn Gl ro (g xs)) :
    S b G (tSeq (tAsg te (gName i)) t) Gn Gl ro (fun d => f fun xs => g xs d) := fun σ F H D d V q w1 w2 w3 w4 => by
  refine h _ V q ?_
  intro xs p vs F1 H1 q1 A1 V1 hp fp hp1 hA
  have hb : b.H p = none := by
    cases e : b.H p with
    | none => rfl
    | some u => exact absurd hp (V.kp p (by rw [e]; exact fun z => nomatch z))
  have nO : p ∉ owns G := fun z => V.hold.live p z hp
  have nM : p ∉ b.M := fun z => b.ml p z hb
  have e1 := A1.ff
  refine ht p xs nM d ?_ q1 (fun y σ2 F2 H2 q2 e2 => w1 y σ2 F2 H2 q2 (e1.trans e2)) (fun y σ2 F2 H2 q2 e2 => w2 y σ2 F2 H2 q2 (e1.trans e2)) (fun y σ2 F2 H2 q2 e2 => w3 y σ2 F2 H2 q2 (e1.trans e2)) w4
  obtain ⟨o1, o2⟩ := owns_setN (s := own p (cLst r) xs) (G := G) (i := i) rfl nO V1.nd
  refine ⟨V1.ff, V1.fh, V1.hh, V1.kp, V1.nf, V1.hold.set (s := own p (cLst r) xs) (show _ ∧ _ from ⟨rfl, _, hp1, vs, rfl, hA⟩), o2, fun q hq => ?_⟩
  rcases o1 q hq with z | z
  · subst z; exact ⟨fp, .inr hb⟩
  · exact V1.on q z
end
end Mi
/-! Mir4 -/
set_option Elab.async false
set_option linter.all false
set_option maxRecDepth 100000
set_option maxHeartbeats 4000000
namespace Mi
open PySem PySem.Spec L2 Dh
open _root_.Evl (Ex)
/-! ### promises of defs -/
section
variable {K : PySem.W.Frag} {b : Bs} {G : List Sl} {α β γ δ τ τ' ρ ε : Type} {Gn : τ → List Sl} {Gl : ε → List Sl} {ro : ρ → V → Hp → Hp → Prop} {σ : L2.St} {F H F' H' : Hp}
def spP (s : RI α) (r : R β) (g : α → (β → Prop) → Prop) : Sp := fun vs H Q _ => ∃ (x : α) (F : Hp) (k : β → Prop), Ex F H ∧ s.h x vs F ∧ g x k ∧ ∀ y v F' H', k y → After F H [] F' H' → r.h y v F' → Q v H'
def BgAt (F H : Hp) (p : Addr) : Prop := ∃ l, H p = some (.lst l) ∧ BgL F l
def spB (s : RI α) (r : R β) (g : α → (β → Prop) → Prop) : Sp := fun vs H Q _ => ∃ (p : Addr) (ws : List V) (x : α) (F : Hp) (k : β → Prop), vs = .ref p :: ws ∧ F p = none ∧ BgAt F H p ∧ Ex F H ∧ s.h x ws F ∧ g x k ∧
  ∀ y v F' H', k y → After F H [p] F' H' → BgAt F' H' p → r.h y v F' → Q v H'
theorem e_call {s : RI α} {r : R β} {g : α → (β → Prop) → Prop} {Ek : XK} {ta : TA} {f : (α → Prop) → Prop} (h : Ar b G ta s f) : E b G (tCall (spP s r g) [] Ek ta) r (fun k => f fun x => g x k) := fun _ _ _ _ k V q w => by
  refine h _ V q ?_
  intro x vs F1 H1 q1 A1 V1 r1
  show spP s r g (vs ++ []) H1 _ _
  rw [List.append_nil]
  exact ⟨x, F1, k, V1.fh, r1, q1, fun y v F2 H2 q2 A2 r2 => w y v F2 H2 q2 (A1.trans (A2.mono fun _ h => nomatch h)) (V1.step A2) r2⟩
theorem set_self {G : List Sl} {i : Nat} {s : Sl} (h : G[i]? = some s) : G.set i s = G := by
  apply List.ext_getElem?
  intro j
  by_cases z : i = j
  · subst z; rw [List.getElem?_set_self (List.getElem?_eq_some_iff.mp h).1, h]
  · rw [List.getElem?_set_ne z]
theorem Env.bag {i : Nat} {p : Addr} (V : Env b G σ F H) (hi : G[i]? = some (own p cBag ())) (A : After F H [p] F' H') (B : BgAt F' H' p) : Env b G σ F' H' := by
  obtain ⟨o, h1, rfl, _⟩ := V.hold.at_ hi
  have hp : p ∈ owns G := mem_owns hi List.mem_cons_self
  obtain ⟨l, h2, h3⟩ := B
  have hh : Holds G σ F' H' := by
    have := V.hold.mut (s' := own p cBag ()) V.nd hi h1 List.mem_cons_self A.ff (fun q u ne hq => A.hh q u (fun z => ne (List.mem_singleton.mp z)) hq) (show _ ∧ _ from ⟨rfl, _, h2, l, rfl, h3⟩)
    rw [set_self hi] at this; exact this
  exact V.step0 A (fun q hq => by rw [List.mem_singleton.mp hq]; exact hp) (fun _ h => h) V.nd hh
theorem Env.bagAt {i : Nat} {p : Addr} (V : Env b G σ F H) (hi : G[i]? = some (own p cBag ())) : F p = none ∧ BgAt F H p := by
  obtain ⟨o, h1, _, u, h2, l, rfl, h3⟩ := V.hold.at_ hi
  exact ⟨(V.on p (mem_owns hi List.mem_cons_self)).1, l, h2, h3⟩
theorem e_callB {i : Nat} {p : Addr} {s : RI α} {r : R β} {g : α → (β → Prop) → Prop} {Ek : XK} {ta : TA} {f : (α → Prop) → Prop} (hi : G[i]? = some (own p cBag ())) (h : Ar b G ta s f) :
    E b G (tCall (spB s r g) [] Ek (tCons (tVar i) ta)) r (fun k => f fun x => g x k) := fun σ F H Q k V q w => by
  obtain ⟨o, h1, rfl, _⟩ := V.hold.at_ hi
  refine ⟨.ref p, h1, ?_⟩
  refine h _ V q ?_
  intro x vs F1 H1 q1 A1 V1 r1
  show spB s r g ((.ref p :: vs) ++ []) H1 _ _
  rw [List.append_nil]
  obtain ⟨f1, B1⟩ := V1.bagAt hi
  have hp : p ∈ owns G := mem_owns hi List.mem_cons_self
  exact ⟨p, vs, x, F1, k, rfl, f1, B1, V1.fh, r1, q1, fun y v F2 H2 q2 A2 B2 r2 => w y v F2 H2 q2 (A1.trans (A2.mono fun q hq => by rw [List.mem_singleton.mp hq]; exact hp)) (V1.bag hi A2 B2) r2⟩
/-! ### into a def -/
theorem owns_app : ∀ {g g' : List Sl}, owns (g ++ g') = owns g ++ owns g'
  | [], _ => rfl
  | s :: g, g' => by
    show s.ow ++ owns (g ++ g') = (s.ow ++ owns g) ++ owns g'
    rw [owns_app, List.append_assoc]
theorem owns_any : ∀ {m : Nat}, owns (List.replicate m any) = []
  | 0 => rfl
  | m + 1 => by
    show [] ++ owns (List.replicate m any) = []
    rw [owns_any]; rfl
theorem holds_any {F H : Hp} : ∀ {m : Nat}, Holds (List.replicate m any) (List.replicate m none) F H
  | 0 => .nil
  | _ + 1 => .cons trivial holds_any
theorem paired_app' {α β : Type} {R : α → β → Prop} : ∀ {xs : List α} {ys : List β} {xs' : List α} {ys' : List β}, Paired R xs ys → Paired R xs' ys' → Paired R (xs ++ xs') (ys ++ ys')
  | _, _, _, _, .nil, h => h
  | _, _, _, _, .cons r t, h => .cons r (paired_app' t h)
theorem S.go {t : TS} {f : Pd τ ε ρ → Prop} (h : S b G t Gn Gl ro f) (σ : L2.St) (F H : Hp) (D : Ends) (d : Pd τ ε ρ) (V : Env b G σ F H) (q : f d) (w1 : ∀ x σ' F' H', d.nx x → Ex F F' → Env b (Gn x) σ' F' H' → D.nx σ' H')
  (w2 : ∀ x σ' F' H', d.ct x → Ex F F' → Env b (Gl x) σ' F' H' → D.ct σ' H') (w3 : ∀ x σ' F' H', d.bk x → Ex F F' → Env b (Gl x) σ' F' H' → D.bk σ' H') (w4 : ∀ y v F' H', d.rt y → After b.F b.H b.M F' H' → ro y v F' H' → D.rt v H') : t D σ H := h d V q w1 w2 w3 w4
theorem run_P {s : RI α} {r : R β} {g : α → (β → Prop) → Prop} {N : List Str} {m : Nat} {t : TS} {vs : List V} {Q : VK} {Ek : XK} {Gn : Bs → α → τ → List Sl} {f : α → Pd τ Unit β → Prop} (h : spP s r g vs H Q Ek) (hN : N.length = s.n + m)
    (hS : ∀ b x, b.M = [] → S b (s.sl x ++ List.replicate m any) t (Gn b x) (fun _ : Unit => []) (fun y v F _ => r.h y v F) (f x)) (hg : ∀ x k, g x k → f x ⟨fun _ => False, fun _ => False, fun _ => False, k⟩) :
    t { nx := fun _ H' => Q .non H', rt := Q } (L2.start N vs) H := by
  obtain ⟨x, F, k, e, hs, q, w⟩ := h
  have hl := s.ln hs
  refine S.go (hS ⟨F, H, [], fun _ h => nomatch h⟩ x rfl) (L2.start N vs) F H _ ⟨fun _ => False, fun _ => False, fun _ => False, k⟩ ?_ (hg x k q) (fun _ _ _ _ h => h.elim) (fun _ _ _ _ h => h.elim) (fun _ _ _ _ h => h.elim) (fun y v F' H' hk A hr => w y v F' H' hk A hr)
  have ow : owns (s.sl x ++ List.replicate m any) = [] := by rw [owns_app, s.no, owns_any]; rfl
  refine ⟨Ex.refl _, e, fun _ _ _ h => h, fun _ h => h, fun _ h _ => h, ?_, by rw [ow]; exact List.nodup_nil, fun p hp => by rw [ow] at hp; nomatch hp⟩
  unfold L2.start
  have : N.length - vs.length = m := by omega
  rw [this]
  exact paired_app' (s.hs hs) holds_any
theorem run_B {s : RI α} {r : R β} {g : α → (β → Prop) → Prop} {N : List Str} {m : Nat} {t : TS} {vs : List V} {Q : VK} {Ek : XK} {Gn : Bs → Addr → α → τ → List Sl} {f : α → Pd τ Unit β → Prop} (h : spB s r g vs H Q Ek) (hN : N.length = s.n + 1 + m)
    (hS : ∀ b p x, b.M = [p] → S b (own p cBag () :: (s.sl x ++ List.replicate m any)) t (Gn b p x) (fun _ : Unit => []) (fun y v F H => BgAt F H p ∧ r.h y v F) (f x)) (hg : ∀ x k, g x k → f x ⟨fun _ => False, fun _ => False, fun _ => False, k⟩) :
    t { nx := fun _ H' => Q .non H', rt := Q } (L2.start N vs) H := by
  obtain ⟨p, ws, x, F, k, rfl, fp, ⟨l, hb, hbl⟩, e, hs, q, w⟩ := h
  have hl := s.ln hs
  refine S.go (hS ⟨F, H, [p], fun q hq => by rw [List.mem_singleton.mp hq, hb]; exact fun z => nomatch z⟩ p x rfl) (L2.start N (.ref p :: ws)) F H _ ⟨fun _ => False, fun _ => False, fun _ => False, k⟩ ?_ (hg x k q) (fun _ _ _ _ h => h.elim) (fun _ _ _ _ h => h.elim) (fun _ _ _ _ h => h.elim) (fun y v F' H' hk A (hr : BgAt F' H' p ∧ r.h y v F') => w y v F' H' hk A hr.1 hr.2)
  have ow : owns (own p cBag () :: (s.sl x ++ List.replicate m any)) = [p] := by
    show [p] ++ owns _ = _
    rw [owns_app, s.no, owns_any]; rfl
  refine ⟨Ex.refl _, e, fun _ _ _ h => h, fun _ h => h, fun _ h _ => h, ?_, by rw [ow]; simp, fun q hq => ?_⟩
  · unfold L2.start
    have : N.length - (V.ref p :: ws).length = m := by rw [List.length_cons]; omega
    rw [this]
    exact .cons (show _ ∧ _ from ⟨rfl, _, hb, l, rfl, hbl⟩) (paired_app' (s.hs hs) holds_any)
  · rw [ow] at hq
    cases List.mem_singleton.mp hq
    exact ⟨fp, .inl List.mem_cons_self⟩
theorem s_retB {te : TE} {r : R α} {f : (α → Prop) → Prop} {i : Nat} {p : Addr} (hi : G[i]? = some (own p cBag ())) (h : E b G te r f) : S b G (tRet te) Gn Gl (fun y v F H => BgAt F H p ∧ r.h y v F) (fun d => f d.rt) :=
  s_ret (g := fun a => a) h fun a v σ F H V hr => ⟨(V.bagAt hi).2, hr⟩
theorem s_retP {te : TE} {r : R α} {f : (α → Prop) → Prop} (h : E b G te r f) : S b G (tRet te) Gn Gl (fun y v F _ => r.h y v F) (fun d => f d.rt) := s_ret (g := fun a => a) h fun a v σ F H V hr => hr
/-! ### None or a thing -/
def NN (r : R α) : Prop := ∀ {a v F}, r.h a v F → v ≠ .non
theorem nn_int : NN rInt := fun h => by cases h; exact fun z => nomatch z
theorem nn_str : NN rStr := fun h => by cases h; exact fun z => nomatch z
theorem nn_bl : NN rBl := fun h => by cases h; exact fun z => nomatch z
theorem nn_tp {s : RI α} : NN (rTp K s) := fun ⟨p, vs, h, _⟩ => by rw [h]; exact fun z => nomatch z
theorem nn_lst {r : R α} : NN (rLst r) := fun ⟨p, vs, h, _⟩ => by rw [h]; exact fun z => nomatch z
theorem e_some {te : TE} {r : R α} {f : (α → Prop) → Prop} (n : NN r) (h : E b G te r f) : E b G te (rOpt r) (fun k => f fun a => k (some a)) := e_cast (r' := rOpt r) (g := some) (fun a v F h => ⟨h, n h⟩) h
/-- x is None -/
theorem o_isN {r : R α} : Op2 (fun x y H Q => y = .non ∧ Q (.bl (decide (x = .non))) H) (rOpt r) rNon rBl (fun x _ k => k x.isNone) := fun a c v w F H Q k h1 h2 e q z => by
  refine ⟨h2, z _ _ _ _ q (.refl e _) ?_⟩
  cases a with
  | none => cases h1; rfl
  | some a =>
    show V.bl (decide (v = .non)) = V.bl false
    rw [decide_eq_false h1.2]
theorem o_notN {r : R α} : Op2 (fun x y H Q => y = .non ∧ Q (.bl (!decide (x = .non))) H) (rOpt r) rNon rBl (fun x _ k => k x.isSome) := fun a c v w F H Q k h1 h2 e q z => by
  refine ⟨h2, z _ _ _ _ q (.refl e _) ?_⟩
  cases a with
  | none => cases h1; rfl
  | some a =>
    show V.bl (!decide (v = .non)) = V.bl true
    rw [decide_eq_false h1.2]; rfl
/-- the thing itself, where it is one -/
theorem e_get {te : TE} {r : R α} {f : (Option α → Prop) → Prop} (h : E b G te (rOpt r) f) : E b G te r (fun k => f fun o => ∃ a, o = some a ∧ k a) := fun _ _ _ _ k V q w => h _ V q fun o v F1 H1 ⟨a, e, q1⟩ A1 V1 hr => by
  subst e
  exact w a v F1 H1 q1 A1 V1 hr.1
/-! ### small calls -/
theorem e_int1 {te : TE} {f : (Int → Prop) → Prop} (h : E b G te rInt f) : E b G (tCB rInt1 (tCons te tNil)) rInt f := fun _ _ _ _ k V q w => by
  refine h k V q ?_
  intro i v F1 H1 q1 A1 V1 e
  cases e
  exact i_int1 (w i _ F1 H1 q1 A1 V1 rfl)
theorem e_abs {te : TE} {f : (Int → Prop) → Prop} (h : E b G te rInt f) : E b G (tCB rAbs (tCons te tNil)) rInt (fun k => f fun i => k (if i < 0 then -i else i)) := fun _ _ _ _ k V q w => by
  refine h _ V q ?_
  intro i v F1 H1 q1 A1 V1 e
  cases e
  exact i_abs (w _ _ F1 H1 q1 A1 V1 rfl)
theorem map_int {F : Hp} : ∀ {xs : List Int} {vs : List V}, All rInt F xs vs → vs = xs.map V.int
  | _, _, .nil => rfl
  | _, _, .cons h t => by rw [List.map_cons, ← map_int t, ← show _ = V.int _ from h]
theorem all_int {F : Hp} : ∀ {xs : List Int}, All rInt F xs (xs.map V.int)
  | [] => .nil
  | _ :: _ => .cons rfl all_int
theorem map_str {F : Hp} : ∀ {xs : List Str} {vs : List V}, All rStr F xs vs → vs = xs.map V.str
  | _, _, .nil => rfl
  | _, _, .cons h t => by rw [List.map_cons, ← map_str t, ← show _ = V.str _ from h]
theorem all_str {F : Hp} : ∀ {xs : List Str}, All rStr F xs (xs.map V.str)
  | [] => .nil
  | _ :: _ => .cons rfl all_str
theorem en_sortI {te : TE} {f : (List Int → Prop) → Prop} (h : LV b G te rInt f) : EN b G (tCB (rSortedI K) (tCons te tNil)) rInt (fun k => f fun ns => ∀ ms : List Int, ms.Perm ns → ms.Pairwise (· ≤ ·) → k ms) := fun _ _ _ _ k V q w => by
  refine h _ V q ?_
  intro xs p F1 H1 q1 A1 V1 z
  obtain ⟨vs, h1, h2⟩ := z F1 H1 (Ex.refl _) V1
  cases map_int h2
  exact ⟨p, xs, rfl, SqL.of h1, fun ms l hp hs hl => en_lay A1 V1 (q1 ms hp hs) all_int w hl⟩
theorem en_sortR {te : TE} {c : Bool} {f : (List Int → Prop) → Prop} {tk : TA} (h : LV b G te rInt f) (hk : ∀ {σ H} {q : List V → Hp → Prop}, q [.bl c] H → tk σ H q) : EN b G (tCKw (rSortedKw K c [.bl c]) (tCons te tNil) tk) rInt (fun k => f fun ns => ∀ ms : List Int, ms.Perm ns → OrdB c ms → k ms) := fun _ _ _ _ k V q w => by
  refine h _ V q ?_
  intro xs p F1 H1 q1 A1 V1 z
  obtain ⟨vs, h1, h2⟩ := z F1 H1 (Ex.refl _) V1
  cases map_int h2
  exact hk ⟨p, xs, rfl, rfl, SqL.of h1, fun ms l hp hs hl => en_lay A1 V1 (q1 ms hp hs) all_int w hl⟩
/-! ### texts -/
theorem o_addT : Op2 rAddT rStr rStr rStr (fun x y k => x.length + y.length ≤ sizeLine ∧ k (x ++ y)) := fun _ _ _ _ _ _ _ k h1 h2 e q w => by
  cases h1; cases h2
  exact i_addT q.1 (w _ _ _ _ q.2 (.refl e _) rfl)
theorem o_ixS : Op2 rIxS rStr rInt rStr (fun z i k => z.length ≤ sizeLine ∧ ∃ c, atI z.cps.toList i = some c ∧ k ⟨#[c]⟩) := fun _ _ _ _ _ _ _ k h1 h2 e ⟨l, c, hc, q⟩ w => by
  cases h1; cases h2
  exact i_ixS l hc (w _ _ _ _ q (.refl e _) rfl)
/-! ### dicts -/
def dGet {κ : Type} [DecidableEq κ] (kvs : List (κ × α)) (k : κ) : Option α := (kvs.find? fun kv => decide (kv.1 = k)).map (·.2)
def dPut {κ : Type} [DecidableEq κ] (kvs : List (κ × α)) (k : κ) (v : α) : List (κ × α) := if (kvs.any fun kv => decide (kv.1 = k)) = true then kvs.map (fun kv => if kv.1 = k then (kv.1, v) else kv) else kvs ++ [(k, v)]
def KV' {κ : Type} (ke : κ → Key) (r : R α) (F : Hp) : List (κ × α) → List (Key × V) → Prop := Paired fun p q => q.1 = ke p.1 ∧ r.h p.2 q.2 F
theorem KV'.ex {κ : Type} {ke : κ → Key} {r : R α} (e : Ex F F') {ps : List (κ × α)} {kvs : List (Key × V)} (h : KV' ke r F ps kvs) : KV' ke r F' ps kvs := Paired.mapP h fun _ _ q => ⟨q.1, r.ex e q.2⟩
def cDct {κ : Type} (ke : κ → Key) (r : R α) : C (List (κ × α)) := ⟨fun ps u F => ∃ kvs, u = .dK kvs ∧ KV' ke r F ps kvs, fun e ⟨kvs, h1, h2⟩ => ⟨kvs, h1, h2.ex e⟩⟩
def rDct {κ : Type} (ke : κ → Key) (r : R α) : R (List (κ × α)) := ⟨fun ps v F => ∃ p kvs, v = .ref p ∧ F p = some (.dK kvs) ∧ KV' ke r F ps kvs, fun e ⟨p, kvs, h1, h2, h3⟩ => ⟨p, kvs, h1, e _ _ h2, h3.ex e⟩⟩
theorem KV'.get {κ : Type} [DecidableEq κ] {ke : κ → Key} (inj : ∀ a c, ke a = ke c → a = c) {r : R α} {k : κ} {ps : List (κ × α)} {kvs : List (Key × V)} (h : KV' ke r F ps kvs) : (dGet ps k = none ∧ valV kvs (ke k) = none) ∨ ∃ a v, dGet ps k = some a ∧ valV kvs (ke k) = some v ∧ r.h a v F := by
  induction h with
  | nil => exact .inl ⟨rfl, rfl⟩
  | @cons p q ps qs hpq t ih =>
    by_cases z : p.1 = k
    · refine .inr ⟨p.2, q.2, ?_, ?_, hpq.2⟩
      · simp [dGet, List.find?_cons, z]
      · exact valV_pos (by rw [hpq.1, z])
    · have z2 : ¬ q.1 = ke k := fun e => z (inj _ _ (hpq.1.symm.trans e))
      have e1 : dGet (p :: ps) k = dGet ps k := by simp [dGet, List.find?_cons, z]
      rw [e1, valV_neg z2]
      exact ih
theorem KV'.any {κ : Type} [DecidableEq κ] {ke : κ → Key} (inj : ∀ a c, ke a = ke c → a = c) {r : R α} {k : κ} {ps : List (κ × α)} {kvs : List (Key × V)} (h : KV' ke r F ps kvs) : (kvs.any fun kv => decide (kv.1 = ke k)) = ps.any fun kv => decide (kv.1 = k) := by
  induction h with
  | nil => rfl
  | @cons p q ps qs hpq t ih =>
    rw [List.any_cons, List.any_cons, ih, hpq.1]
    congr 1
    exact decide_eq_decide.mpr ⟨fun e => inj _ _ e, fun e => by rw [e]⟩
theorem KV'.put {κ : Type} [DecidableEq κ] {ke : κ → Key} (inj : ∀ a c, ke a = ke c → a = c) {r : R α} {k : κ} {a : α} {v : V} {ps : List (κ × α)} {kvs : List (Key × V)} (h : KV' ke r F ps kvs) (hr : r.h a v F) : KV' ke r F (dPut ps k a) (putK kvs (ke k) v) := by
  unfold dPut putK
  rw [h.any inj]
  by_cases z : (ps.any fun kv => decide (kv.1 = k)) = true
  · rw [if_pos z, if_pos z]
    clear z
    induction h with
    | nil => exact .nil
    | @cons p q ps qs hpq t ih =>
      refine .cons ?_ ih
      by_cases e : p.1 = k
      · show (if q.1 = ke k then (q.1, v) else q).1 = ke (if p.1 = k then (p.1, a) else p).1 ∧ r.h (if p.1 = k then (p.1, a) else p).2 (if q.1 = ke k then (q.1, v) else q).2 F
        rw [if_pos e, if_pos (by rw [hpq.1, e])]; exact ⟨hpq.1, hr⟩
      · show (if q.1 = ke k then (q.1, v) else q).1 = ke (if p.1 = k then (p.1, a) else p).1 ∧ r.h (if p.1 = k then (p.1, a) else p).2 (if q.1 = ke k then (q.1, v) else q).2 F
        rw [if_neg e, if_neg (fun x => e (inj _ _ (hpq.1.symm.trans x)))]; exact hpq
  · rw [if_neg z, if_neg z]
    exact Dh.paired_app h (.cons ⟨rfl, hr⟩ .nil)
theorem inl_inj : ∀ a c : Int, (Sum.inl a : Key) = Sum.inl c → a = c := fun _ _ h => Sum.inl.inj h
theorem inr_inj : ∀ a c : Str, (Sum.inr a : Key) = Sum.inr c → a = c := fun _ _ h => Sum.inr.inj h
/-- a dict that is read: frozen or own -/
def DV {κ : Type} (b : Bs) (G : List Sl) (te : TE) (ke : κ → Key) (r : R α) (f : (List (κ × α) → Prop) → Prop) : Prop := ∀ ⦃σ : L2.St⦄ ⦃F H : Hp⦄ ⦃Q : VK⦄ (k : List (κ × α) → Prop), Env b G σ F H → f k →
  (∀ xs p F' H', k xs → After F H (owns G) F' H' → Env b G σ F' H' → (∀ F2 H2, Ex F' F2 → Env b G σ F2 H2 → ∃ kvs, H2 p = some (.dK kvs) ∧ KV' ke r F2 xs kvs) → Q (.ref p) H') → te σ H Q
section
variable {κ : Type} {ke : κ → Key}
theorem dv_e {te : TE} {r : R α} {f : (List (κ × α) → Prop) → Prop} (h : E b G te (rDct ke r) f) : DV b G te ke r f := fun _ _ _ _ k V q w => by
  refine h k V q ?_
  rintro xs v F1 H1 q1 A1 V1 ⟨p, vs, e, hp, A⟩
  subst e
  exact w xs p F1 H1 q1 A1 V1 fun F2 H2 e V2 => ⟨vs, V2.fh _ _ (e _ _ hp), A.ex e⟩
theorem dv_own {i : Nat} {p : Addr} {r : R α} {xs : List (κ × α)} (h : G[i]? = some (own p (cDct ke r) xs)) : DV b G (tVar i) ke r (fun k => k xs) := fun σ F H Q k V q w => by
  obtain ⟨o, h1, rfl, _⟩ := V.hold.at_ h
  refine ⟨.ref p, h1, w xs p F H q (.refl V.fh _) V fun F2 H2 e V2 => ?_⟩
  obtain ⟨o, h1, _, u, h2, vs, rfl, h3⟩ := V2.hold.at_ h
  exact ⟨vs, h2, h3⟩
end
/-- how a key is told: ints, texts -/
structure KeyR {κ : Type} (ke : κ → Key) (rk : R κ) : Prop where
  inj : ∀ a c, ke a = ke c → a = c
  kv : ∀ {a v F}, rk.h a v F → v = kV (ke a)
theorem kr_int : KeyR (Sum.inl : Int → Key) rInt := ⟨inl_inj, fun h => h⟩
theorem kr_str : KeyR (Sum.inr : Str → Key) rStr := ⟨inr_inj, fun h => h⟩
section
variable {κ : Type} [DecidableEq κ] {ke : κ → Key} {rk : R κ}
theorem e_dget {td tk : TE} {r : R α} {f : (List (κ × α) → Prop) → Prop} {g : (κ → Prop) → Prop} (R : KeyR ke rk) (hd : DV b G td ke r f) (hk : E b G tk rk g) : E b G (tDGet td tk) r (fun k => f fun d => g fun x => ∃ a, dGet d x = some a ∧ k a) := fun _ _ _ _ k V q w => by
  refine hd _ V q ?_
  intro ps p F1 H1 q1 A1 V1 z
  refine hk _ V1 q1 ?_
  rintro x v F2 H2 ⟨a, ha, q2⟩ A2 V2 e
  cases R.kv e
  obtain ⟨kvs, h1, h2⟩ := z F2 H2 A2.ff V2
  rcases h2.get R.inj (k := x) with ⟨e1, _⟩ | ⟨a', u, e1, e2, hr⟩
  · rw [ha] at e1; cases e1
  · rw [ha] at e1; cases e1
    exact ⟨p, u, rfl, by rw [← e2]; exact DGet.k h1, w a u F2 H2 q2 (A1.trans A2) V2 hr⟩
theorem e_din {td tk : TE} {r : R α} {f : (List (κ × α) → Prop) → Prop} {g : (κ → Prop) → Prop} (R : KeyR ke rk) (hk : E b G tk rk g) (hd : DV b G td ke r f) : E b G (tDIn tk td) rBl (fun k => g fun x => f fun d => k (dGet d x).isSome) := fun _ _ _ _ k V q w => by
  refine hk _ V q ?_
  rintro x v F1 H1 q1 A1 V1 e
  cases R.kv e
  refine hd _ V1 q1 ?_
  intro ps p F2 H2 q2 A2 V2 z
  obtain ⟨kvs, h1, h2⟩ := z F2 H2 (Ex.refl _) V2
  refine ⟨p, _, rfl, DGet.k h1, w _ _ F2 H2 q2 (A1.trans A2) V2 ?_⟩
  rcases h2.get R.inj (k := x) with ⟨e1, e2⟩ | ⟨a', u, e1, e2, hr⟩
  · rw [e1, e2]; rfl
  · rw [e1, e2]; rfl
theorem e_dnotin {td tk : TE} {r : R α} {f : (List (κ × α) → Prop) → Prop} {g : (κ → Prop) → Prop} (R : KeyR ke rk) (hk : E b G tk rk g) (hd : DV b G td ke r f) : E b G (tDNotIn tk td) rBl (fun k => g fun x => f fun d => k (!(dGet d x).isSome)) := fun _ _ _ _ k V q w => by
  refine hk _ V q ?_
  rintro x v F1 H1 q1 A1 V1 e
  cases R.kv e
  refine hd _ V1 q1 ?_
  intro ps p F2 H2 q2 A2 V2 z
  obtain ⟨kvs, h1, h2⟩ := z F2 H2 (Ex.refl _) V2
  refine ⟨p, _, rfl, DGet.k h1, w _ _ F2 H2 q2 (A1.trans A2) V2 ?_⟩
  rcases h2.get R.inj (k := x) with ⟨e1, e2⟩ | ⟨a', u, e1, e2, hr⟩
  · rw [e1, e2]; rfl
  · rw [e1, e2]; rfl
theorem e_dget1 {td tk : TE} {r : R α} {f : (List (κ × α) → Prop) → Prop} {g : (κ → Prop) → Prop} (R : KeyR ke rk) (n : NN r) (hd : DV b G td ke r f) (hk : E b G tk rk g) : E b G (tDGet1 td tk) (rOpt r) (fun k => f fun d => g fun x => k (dGet d x)) := fun _ _ _ _ k V q w => by
  refine hd _ V q ?_
  intro ps p F1 H1 q1 A1 V1 z
  obtain ⟨kvs, h1, h2⟩ := z F1 H1 (Ex.refl _) V1
  refine ⟨p, rfl, .inl ⟨kvs, Rd.of h1⟩, ?_⟩
  refine hk _ V1 q1 ?_
  rintro x v F2 H2 q2 A2 V2 e
  cases R.kv e
  obtain ⟨kvs, h1, h2⟩ := z F2 H2 A2.ff V2
  refine ⟨_, DGet.k h1, w _ _ F2 H2 q2 (A1.trans A2) V2 ?_⟩
  rcases h2.get R.inj (k := x) with ⟨e1, e2⟩ | ⟨a', u, e1, e2, hr⟩
  · rw [e1, e2]; rfl
  · rw [e1, e2]; exact ⟨hr, n hr⟩
/-- a cell is changed -/
theorem Env.cell {c c' : C γ} {i : Nat} {p : Addr} {a a' : γ} {u : HO} (V : Env b G σ F H) (hi : G[i]? = some (own p c a)) (h' : c'.h a' u F) : Env b (G.set i (own p c' a')) σ F (upd H p u) := by
  obtain ⟨o, h1, rfl, _⟩ := V.hold.at_ hi
  have hp : p ∈ owns G := mem_owns hi List.mem_cons_self
  have e : owns (G.set i (own p c' a')) = owns G := owns_same hi rfl
  refine V.step0 (M := [p]) ⟨Ex.refl _, ex_mut (V.on p hp).1 V.fh, fun x o hm hx => by rw [upd_ne (fun z => hm (by rw [z]; exact List.mem_cons_self))]; exact hx, fun x hx => ?_, fun _ h _ => h⟩ (fun q hq => by rw [List.mem_singleton.mp hq]; exact hp) (fun q hq => by rw [← e]; exact hq) (by rw [e]; exact V.nd) ?_
  · by_cases z : x = p
    · subst z; rw [upd_same]; exact fun z => nomatch z
    · rw [upd_ne z]; exact hx
  · exact V.hold.mut V.nd hi h1 List.mem_cons_self (Ex.refl _) (fun q u ne hq => by rw [upd_ne ne]; exact hq) (show _ ∧ _ from ⟨rfl, _, upd_same, h'⟩)
/-- d[k] = v -/
theorem s_dput {i : Nat} {p : Addr} {tv tk : TE} {r : R α} {xs : List (κ × α)} {f : (α → Prop) → Prop} {g : (κ → Prop) → Prop} (R : KeyR ke rk) (hi : G[i]? = some (own p (cDct ke r) xs)) (hv : E b G tv r f) (hk : E b G tk rk g) :
    S b G (sDPut (tVar i) tk tv) (fun y : κ × α => G.set i (own p (cDct ke r) (dPut xs y.1 y.2))) Gl ro (fun d => f fun a => g fun x => xs.length < sizeLine ∧ d.nx (x, a)) := fun σ F H D d V q w1 _ _ _ => by
  refine hv _ V q ?_
  intro a v F1 H1 q1 A1 V1 r1
  obtain ⟨o, h1, rfl, _⟩ := V1.hold.at_ hi
  refine ⟨.ref p, h1, ?_⟩
  refine hk _ V1 q1 ?_
  intro x y F2 H2 q2 A2 V2 e
  cases R.kv e
  obtain ⟨_, _, _, u, h2, kvs, rfl, h3⟩ := V2.hold.at_ hi
  have hl : kvs.length = xs.length := (Paired.length h3).symm
  refine ⟨p, _, rfl, DPut.k (k := ke x) h2 (by rw [hl]; exact q2.1), w1 (x, a) _ F2 _ q2.2 (A1.ff.trans A2.ff) ?_⟩
  exact V2.cell hi ⟨_, rfl, h3.put R.inj (r.ex A2.ff r1)⟩
end
/-- a new own cell -/
def ENc (b : Bs) (G : List Sl) (te : TE) (c : C γ) (f : (γ → Prop) → Prop) : Prop := ∀ ⦃σ : L2.St⦄ ⦃F H : Hp⦄ ⦃Q : VK⦄ (k : γ → Prop), Env b G σ F H → f k →
  (∀ a p u F' H', k a → After F H (owns G) F' H' → Env b G σ F' H' → H p = none → F' p = none → H' p = some u → c.h a u F' → Q (.ref p) H') → te σ H Q
theorem enc_lst {te : TE} {r : R α} {f : (List α → Prop) → Prop} (h : EN b G te r f) : ENc b G te (cLst r) f := fun _ _ _ _ k V q w => h k V q fun xs p vs F' H' q' A V' h1 h2 h3 h4 => w xs p _ F' H' q' A V' h1 h2 h3 ⟨vs, rfl, h4⟩
theorem enc_dct {κ : Type} {ke : κ → Key} {r : R α} : ENc b G tDNewK (cDct ke r) (fun k => k []) := fun σ F H Q k V q w p hp => by
  have B := After.fresh (o := .dK []) V.fh hp
  exact w [] p _ F _ q (B _) (V.step (B _)) hp (ex_none V.fh hp) upd_same ⟨[], rfl, .nil⟩
theorem s_newc {te : TE} {c : C γ} {i : Nat} {f : (γ → Prop) → Prop} {g : γ → Pd τ ε ρ → Prop} {t : TS} (h : ENc b G te c f) (ht : ∀ p a, p ∉ b.M → S b (G.set i (own p c a)) t Gn Gl ro (g a)) :
    S b G (tSeq (tAsg te (gName i)) t) Gn Gl ro (fun d => f fun a => g a d) := fun σ F H D d V q w1 w2 w3 w4 => by
  refine h _ V q ?_
  intro a p u F1 H1 q1 A1 V1 hp fp hp1 hA
  have hb : b.H p = none := by
    cases e : b.H p with
    | none => rfl
    | some u => exact absurd hp (V.kp p (by rw [e]; exact fun z => nomatch z))
  have nO : p ∉ owns G := fun z => V.hold.live p z hp
  have nM : p ∉ b.M := fun z => b.ml p z hb
  have e1 := A1.ff
  refine ht p a nM d ?_ q1 (fun y σ2 F2 H2 q2 e2 => w1 y σ2 F2 H2 q2 (e1.trans e2)) (fun y σ2 F2 H2 q2 e2 => w2 y σ2 F2 H2 q2 (e1.trans e2)) (fun y σ2 F2 H2 q2 e2 => w3 y σ2 F2 H2 q2 (e1.trans e2)) w4
  obtain ⟨o1, o2⟩ := owns_setN (s := own p c a) (G := G) (i := i) rfl nO V1.nd
  refine ⟨V1.ff, V1.fh, V1.hh, V1.kp, V1.nf, V1.hold.set (s := own p c a) (show _ ∧ _ from ⟨rfl, _, hp1, hA⟩), o2, fun q hq => ?_⟩
  rcases o1 q hq with z | z
  · subst z; exact ⟨fp, .inr hb⟩
  · exact V1.on q z
theorem frz_dct {κ : Type} {ke : κ → Key} {r : R α} {a : List (κ × α)} : ∀ {p : Addr} (u : HO) (F : Hp), (cDct ke r).h a u F → F p = some u → (rDct ke r).h a (.ref p) F := fun u F ⟨vs, h1, h2⟩ h => ⟨_, vs, rfl, h1 ▸ h, h2⟩
end
end Mi
/-! Mir5 -/
set_option Elab.async false
set_option linter.all false
set_option maxRecDepth 100000
set_option maxHeartbeats 4000000
namespace Mi
open PySem PySem.Spec L2 Dh
open _root_.Evl (Ex)
section
variable {K : PySem.W.Frag} {b : Bs} {G : List Sl} {α β γ δ τ τ' ρ ε : Type} {Gn : τ → List Sl} {Gl : ε → List Sl} {ro : ρ → V → Hp → Hp → Prop} {σ : L2.St} {F H F' H' : Hp}
theorem spP_len {s : RI α} {r : R β} {g : α → (β → Prop) → Prop} {vs : List V} {Q : VK} {Ek : XK} (h : spP s r g vs H Q Ek) : vs.length = s.n := by
  obtain ⟨x, F, k, _, hs, _⟩ := h; exact s.ln hs
theorem spB_len {s : RI α} {r : R β} {g : α → (β → Prop) → Prop} {vs : List V} {Q : VK} {Ek : XK} (h : spB s r g vs H Q Ek) : vs.length = s.n + 1 := by
  obtain ⟨p, ws, x, F, k, rfl, _, _, _, hs, _⟩ := h; rw [List.length_cons, s.ln hs]
/-- a comprehension of plain values -/
theorem compP_map {xs : List α} {g : α → β} {k : List β → Prop} (q : k (xs.map g)) : compP xs (fun a acc n => (true = true → n (acc ++ [g a])) ∧ (true = false → n acc)) k := by
  refine ⟨fun i acc => acc = (xs.take i).map g, by simp, fun i a acc h e => ⟨fun _ => ?_, fun z => by cases z⟩, fun acc e => ?_⟩
  · show _ = _
    rw [e, List.take_add_one, h, List.map_append]; rfl
  · have e : acc = (xs.take xs.length).map g := e
    rw [e, List.take_length]; exact q
theorem compP_filter {xs : List α} {c : α → Bool} {g : α → β} {k : List β → Prop} (q : k ((xs.filter c).map g)) : compP xs (fun a acc n => (c a = true → n (acc ++ [g a])) ∧ (c a = false → n acc)) k := by
  refine ⟨fun i acc => acc = ((xs.take i).filter c).map g, by simp, fun i a acc h e => ⟨fun z => ?_, fun z => ?_⟩, fun acc e => ?_⟩
  · show _ = _
    rw [e, List.take_add_one, h, List.filter_append, List.map_append]; simp [z]
  · show _ = _
    rw [e, List.take_add_one, h, List.filter_append, List.map_append]; simp [z]
  · have e : acc = ((xs.take xs.length).filter c).map g := e
    rw [e, List.take_length]; exact q
theorem en_compM {wi : TI} {g : TG} {tt : TT} {te : TE} {vs : List Nat} {r : R α} {rb : R β} {up : α → List Sl → List Sl} {fw : (List α → Prop) → Prop} {y : α → β}
    (hw : Wk b G wi r fw) (hg : Tg g r up vs) (hG : wipeG G vs = G) (ht : ∀ a, Tt b (up a G) tt (fun k => k true)) (he : ∀ a, E b (up a G) te rb (fun k => k (y a))) :
    EN b G (tLc wi g tt te vs) rb (fun k => fw fun xs => xs.length ≤ sizeLine ∧ k (xs.map y)) := fun σ F H Q k V q w =>
  en_comp (fw := fun k2 => fw (fun xs => xs.length ≤ sizeLine ∧ k (xs.map y)) ∧ ∀ xs, (xs.length ≤ sizeLine ∧ k (xs.map y)) → k2 xs) (fun σ F H R k2 V q w => hw _ V q.1 fun xs J F' H' q' A V' W => w xs J F' H' (q.2 xs q') A V' W) hg hG ht he k V ⟨q, fun xs h => ⟨h.1, compP_map h.2⟩⟩ w
theorem en_compF {wi : TI} {g : TG} {tt : TT} {te : TE} {vs : List Nat} {r : R α} {rb : R β} {up : α → List Sl → List Sl} {fw : (List α → Prop) → Prop} {c : α → Bool} {y : α → β}
    (hw : Wk b G wi r fw) (hg : Tg g r up vs) (hG : wipeG G vs = G) (ht : ∀ a, Tt b (up a G) tt (fun k => k (c a))) (he : ∀ a, E b (up a G) te rb (fun k => k (y a))) :
    EN b G (tLc wi g tt te vs) rb (fun k => fw fun xs => xs.length ≤ sizeLine ∧ k ((xs.filter c).map y)) := fun σ F H Q k V q w =>
  en_comp (fw := fun k2 => fw (fun xs => xs.length ≤ sizeLine ∧ k ((xs.filter c).map y)) ∧ ∀ xs, (xs.length ≤ sizeLine ∧ k ((xs.filter c).map y)) → k2 xs) (fun σ F H R k2 V q w => hw _ V q.1 fun xs J F' H' q' A V' W => w xs J F' H' (q.2 xs q') A V' W) hg hG ht he k V ⟨q, fun xs h => ⟨h.1, compP_filter h.2⟩⟩ w
/-! short ways -/
theorem e_andVP {ta te : TE} {f : (Bool → Prop) → Prop} {y : Bool} (h1 : E b G ta rBl f) (h2 : E b G te rBl (fun k => k y)) : E b G (tAndV ta te) rBl (fun k => f fun a => k (a && y)) := fun _ _ _ _ k V q w => by
  refine h1 _ V q ?_
  intro a v F' H' q' A V' r
  refine ⟨a, r, ?_⟩
  cases a with
  | true => exact iteT (h2 k V' q' fun x v F2 H2 q2 A2 V2 => w x v F2 H2 q2 (A.trans A2) V2)
  | false => exact iteF (w false _ F' H' q' A V' rfl)
theorem e_orVP {ta te : TE} {f : (Bool → Prop) → Prop} {y : Bool} (h1 : E b G ta rBl f) (h2 : E b G te rBl (fun k => k y)) : E b G (tOrV ta te) rBl (fun k => f fun a => k (a || y)) := fun _ _ _ _ k V q w => by
  refine h1 _ V q ?_
  intro a v F' H' q' A V' r
  refine ⟨a, r, ?_⟩
  cases a with
  | true => exact iteT (w true _ F' H' q' A V' rfl)
  | false => exact iteF (h2 k V' q' fun x v F2 H2 q2 A2 V2 => w x v F2 H2 q2 (A.trans A2) V2)
theorem e_inLP [DecidableEq α] {tx te : TE} {r : R α} {f : (α → Prop) → Prop} {g : (List α → Prop) → Prop} (fl : Flat r) (hx : E b G tx r f) (h : LV b G te r g) : E b G (tOp (rIn K false) tx te) rBl (fun k => f fun x => g fun xs => k (decide (x ∈ xs))) := e_inL fl hx h
theorem e_inLN [DecidableEq α] {tx te : TE} {r : R α} {f : (α → Prop) → Prop} {g : (List α → Prop) → Prop} (fl : Flat r) (hx : E b G tx r f) (h : LV b G te r g) : E b G (tOp (rIn K true) tx te) rBl (fun k => f fun x => g fun xs => k (!decide (x ∈ xs))) := e_inL fl hx h
theorem e_isN {ta : TE} {r : R α} {f : (Option α → Prop) → Prop} (h : E b G ta (rOpt r) f) : E b G (tOp (fun x y H Q => y = .non ∧ Q (.bl (decide (x = .non))) H) ta (tC .non)) rBl (fun k => f fun x => k x.isNone) := e_op o_isN h e_non
theorem e_notN {ta : TE} {r : R α} {f : (Option α → Prop) → Prop} (h : E b G ta (rOpt r) f) : E b G (tOp (fun x y H Q => y = .non ∧ Q (.bl (!decide (x = .non))) H) ta (tC .non)) rBl (fun k => f fun x => k x.isSome) := e_op o_notN h e_non
theorem e_neg {ta : TE} {f : (Int → Prop) → Prop} (h : E b G ta rInt f) : E b G (tUn (rU fun i => .int (-i)) ta) rInt (fun k => f fun x => k (-x)) := fun _ _ _ _ k V q w => by
  refine h _ V q ?_
  intro a v F' H' q' A V' r
  cases r
  exact ⟨a, rfl, w _ _ F' H' q' A V' rfl⟩
theorem e_chainP {g1 g2 : Int → Int → Bool} {ta te tc : TE} {x y z : Int} (ha : E b G ta rInt (fun k => k x)) (hb : E b G te rInt (fun k => k y)) (hc : E b G tc rInt (fun k => k z)) :
    E b G (tChain (rI0 fun i j => .bl (g1 i j)) (rI0 fun i j => .bl (g2 i j)) ta te tc) rBl (fun k => k (g1 x y && g2 y z)) := e_cq (e_chain o_I0b o_I0b ha hb hc) fun k q => by
  show (g1 x y = true → k (g2 y z)) ∧ (g1 x y = false → k false)
  refine ⟨fun h => ?_, fun h => ?_⟩
  · rw [h] at q; exact q
  · rw [h] at q; exact q
/-! items of tuples -/
theorem rcons_at {r : R α} {s : RI γ} {a : α × γ} {vs : List V} (h : (rCons r s).h a vs F) : ∃ v ws, vs = v :: ws ∧ r.h a.1 v F ∧ s.h a.2 ws F := h
theorem e_itm {te : TE} {s : RI α} {rr : R β} {f : (α → Prop) → Prop} {g : α → β} {n : Nat} (h : E b G te (rTp K s) f) (hg : ∀ a vs F, s.h a vs F → ∃ v, vs[n]? = some v ∧ rr.h (g a) v F) : E b G (tOp (rIxT K) te (tC (.int (n : Nat)))) rr (fun k => f fun a => k (g a)) := fun _ _ _ _ k V q w => by
  refine h _ V q ?_
  rintro a v F' H' q' A V' ⟨p, vs, e, hp, hs⟩
  subst e
  obtain ⟨v, h1, h2⟩ := hg a vs F' hs
  exact ⟨p, vs, _, v, rfl, rfl, _root_.Evl.ex_t V'.fh hp, atI_nat h1, w _ v F' H' q' A V' h2⟩
section
variable {te : TE} {r0 : R α} {r1 : R β} {r2 : R γ} {r3 : R δ}
theorem e_it2_0 {f : (α × β → Prop) → Prop} (h : E b G te (rTp K (rCons r0 (rOne r1))) f) : E b G (tOp (rIxT K) te (tC (.int 0))) r0 (fun k => f fun a => k a.1) := e_itm (n := 0) h (fun a vs F ⟨v, ws, e, h1, h2⟩ => ⟨v, by rw [e]; rfl, h1⟩)
theorem e_it2_1 {f : (α × β → Prop) → Prop} (h : E b G te (rTp K (rCons r0 (rOne r1))) f) : E b G (tOp (rIxT K) te (tC (.int 1))) r1 (fun k => f fun a => k a.2) := e_itm (n := 1) h (fun a vs F ⟨v, ws, e, h1, u, e2, h2⟩ => ⟨u, by rw [e, e2]; rfl, h2⟩)
theorem e_it3_0 {f : (α × β × γ → Prop) → Prop} (h : E b G te (rTp K (rCons r0 (rCons r1 (rOne r2)))) f) : E b G (tOp (rIxT K) te (tC (.int 0))) r0 (fun k => f fun a => k a.1) := e_itm (n := 0) h (fun a vs F ⟨v, ws, e, h1, h2⟩ => ⟨v, by rw [e]; rfl, h1⟩)
theorem e_it3_1 {f : (α × β × γ → Prop) → Prop} (h : E b G te (rTp K (rCons r0 (rCons r1 (rOne r2)))) f) : E b G (tOp (rIxT K) te (tC (.int 1))) r1 (fun k => f fun a => k a.2.1) := e_itm (n := 1) h (fun a vs F ⟨v, ws, e, h1, u, us, e2, h2, _⟩ => ⟨u, by rw [e, e2]; rfl, h2⟩)
theorem e_it3_2 {f : (α × β × γ → Prop) → Prop} (h : E b G te (rTp K (rCons r0 (rCons r1 (rOne r2)))) f) : E b G (tOp (rIxT K) te (tC (.int 2))) r2 (fun k => f fun a => k a.2.2) := e_itm (n := 2) h (fun a vs F ⟨v, ws, e, h1, u, us, e2, h2, t, e3, h3⟩ => ⟨t, by rw [e, e2, e3]; rfl, h3⟩)
theorem e_it4_0 {f : (α × β × γ × δ → Prop) → Prop} (h : E b G te (rTp K (rCons r0 (rCons r1 (rCons r2 (rOne r3))))) f) : E b G (tOp (rIxT K) te (tC (.int 0))) r0 (fun k => f fun a => k a.1) := e_itm (n := 0) h (fun a vs F ⟨v, ws, e, h1, h2⟩ => ⟨v, by rw [e]; rfl, h1⟩)
theorem e_it4_1 {f : (α × β × γ × δ → Prop) → Prop} (h : E b G te (rTp K (rCons r0 (rCons r1 (rCons r2 (rOne r3))))) f) : E b G (tOp (rIxT K) te (tC (.int 1))) r1 (fun k => f fun a => k a.2.1) := e_itm (n := 1) h (fun a vs F ⟨v, ws, e, h1, u, us, e2, h2, _⟩ => ⟨u, by rw [e, e2]; rfl, h2⟩)
theorem e_it4_2 {f : (α × β × γ × δ → Prop) → Prop} (h : E b G te (rTp K (rCons r0 (rCons r1 (rCons r2 (rOne r3))))) f) : E b G (tOp (rIxT K) te (tC (.int 2))) r2 (fun k => f fun a => k a.2.2.1) := e_itm (n := 2) h (fun a vs F ⟨v, ws, e, h1, u, us, e2, h2, t, ts, e3, h3, _⟩ => ⟨t, by rw [e, e2, e3]; rfl, h3⟩)
theorem e_it4_3 {f : (α × β × γ × δ → Prop) → Prop} (h : E b G te (rTp K (rCons r0 (rCons r1 (rCons r2 (rOne r3))))) f) : E b G (tOp (rIxT K) te (tC (.int 3))) r3 (fun k => f fun a => k a.2.2.2) := e_itm (n := 3) h (fun a vs F ⟨v, ws, e, h1, u, us, e2, h2, t, ts, e3, h3, s, e4, h4⟩ => ⟨s, by rw [e, e2, e3, e4]; rfl, h4⟩)
end
/-- a written text in a tuple -/
def rLit (z : Str) : R Unit := ⟨fun _ v _ => v = .str z, fun _ h => h⟩
theorem e_lit {z : Str} : E b G (tC (.str z)) (rLit z) (fun k => k ()) := fun _ _ _ _ k V q w => w () _ _ _ q (.refl V.fh _) V rfl
end
end Mi
/-! Mir6 -/
set_option Elab.async false
set_option linter.all false
set_option maxRecDepth 100000
set_option maxHeartbeats 4000000
namespace Mi
open PySem PySem.Spec L2 Dh
open _root_.Evl (Ex)
section
variable {K : PySem.W.Frag} {b : Bs} {G : List Sl} {α β γ δ τ τ' ρ ε : Type} {Gn : τ → List Sl} {Gl : ε → List Sl} {ro : ρ → V → Hp → Hp → Prop} {σ : L2.St} {F H F' H' : Hp}
/-! ### an own thing as the first parameter, as it was behind the call -/
def CAt (c : C γ) (y : γ) (F H : Hp) (p : Addr) : Prop := ∃ u, H p = some u ∧ c.h y u F
def spR (c : C γ) (s : RI α) (r : R β) (g : γ → α → (β → Prop) → Prop) : Sp := fun vs H Q _ => ∃ (p : Addr) (ws : List V) (y : γ) (x : α) (F : Hp) (k : β → Prop), vs = .ref p :: ws ∧ F p = none ∧ CAt c y F H p ∧ Ex F H ∧ s.h x ws F ∧ g y x k ∧
  ∀ z v F' H', k z → After F H [p] F' H' → CAt c y F' H' p → r.h z v F' → Q v H'
theorem spR_len {c : C γ} {s : RI α} {r : R β} {g : γ → α → (β → Prop) → Prop} {vs : List V} {Q : VK} {Ek : XK} (h : spR c s r g vs H Q Ek) : vs.length = s.n + 1 := by
  obtain ⟨p, ws, y, x, F, k, rfl, _, _, _, hs, _⟩ := h; rw [List.length_cons, s.ln hs]
theorem Env.cAt {c : C γ} {y : γ} {i : Nat} {p : Addr} (V : Env b G σ F H) (hi : G[i]? = some (own p c y)) : F p = none ∧ CAt c y F H p := by
  obtain ⟨o, h1, _, u, h2, h3⟩ := V.hold.at_ hi
  exact ⟨(V.on p (mem_owns hi List.mem_cons_self)).1, u, h2, h3⟩
theorem Env.cNew {c : C γ} {c' : C δ} {y : γ} {y' : δ} {i : Nat} {p : Addr} (V : Env b G σ F H) (hi : G[i]? = some (own p c y)) (A : After F H [p] F' H') (B : CAt c' y' F' H' p) : Env b (G.set i (own p c' y')) σ F' H' := by
  obtain ⟨o, h1, rfl, _⟩ := V.hold.at_ hi
  have hp : p ∈ owns G := mem_owns hi List.mem_cons_self
  obtain ⟨u, h2, h3⟩ := B
  have e : owns (G.set i (own p c' y')) = owns G := owns_same hi rfl
  exact V.step0 A (fun q hq => by rw [List.mem_singleton.mp hq]; exact hp) (fun q hq => by rw [← e]; exact hq) (by rw [e]; exact V.nd)
    (V.hold.mut V.nd hi h1 List.mem_cons_self A.ff (fun q u ne hq => A.hh q u (fun z => ne (List.mem_singleton.mp z)) hq) (show _ ∧ _ from ⟨rfl, _, h2, h3⟩))
theorem e_callR {c : C γ} {y : γ} {i : Nat} {p : Addr} {s : RI α} {r : R β} {g : γ → α → (β → Prop) → Prop} {Ek : XK} {ta : TA} {f : (α → Prop) → Prop} (hi : G[i]? = some (own p c y)) (h : Ar b G ta s f) :
    E b G (tCall (spR c s r g) [] Ek (tCons (tVar i) ta)) r (fun k => f fun x => g y x k) := fun σ F H Q k V q w => by
  obtain ⟨o, h1, rfl, _⟩ := V.hold.at_ hi
  refine ⟨.ref p, h1, ?_⟩
  refine h _ V q ?_
  intro x vs F1 H1 q1 A1 V1 r1
  show spR c s r g ((.ref p :: vs) ++ []) H1 _ _
  rw [List.append_nil]
  obtain ⟨f1, B1⟩ := V1.cAt hi
  have hp : p ∈ owns G := mem_owns hi List.mem_cons_self
  refine ⟨p, vs, y, x, F1, k, rfl, f1, B1, V1.fh, r1, q1, fun z v F2 H2 q2 A2 B2 r2 => w z v F2 H2 q2 (A1.trans (A2.mono fun q hq => by rw [List.mem_singleton.mp hq]; exact hp)) ?_ r2⟩
  have := V1.cNew hi A2 B2
  rw [set_self hi] at this; exact this
/-- o.m(..), nothing changed -/
theorem e_methR {c : C γ} {y : γ} {i : Nat} {p Cl : Addr} {m : Str} {s : RI α} {r : R β} {g : γ → α → (β → Prop) → Prop} {Ek : XK} {ta : TA} {f : (α → Prop) → Prop} (hi : G[i]? = some (own p c y)) (hc : ∀ y u F, c.h y u F → ∃ dx fs, u = .ins Cl dx fs ∧ fs.lookup m = none) (h : Ar b G ta s f) :
    E b G (tMeth Cl m (spR c s r g) [] Ek (tVar i) ta) r (fun k => f fun x => g y x k) := fun σ F H Q k V q w => by
  obtain ⟨o, h1, rfl, u, hu, hcu⟩ := V.hold.at_ hi
  obtain ⟨dx, fs, rfl, hl⟩ := hc _ _ _ hcu
  refine ⟨.ref p, h1, p, dx, fs, rfl, hu, hl, ?_⟩
  refine h _ V q ?_
  intro x vs F1 H1 q1 A1 V1 r1
  show spR c s r g (.ref p :: (vs ++ [])) H1 _ _
  rw [List.append_nil]
  obtain ⟨f1, B1⟩ := V1.cAt hi
  have hp : p ∈ owns G := mem_owns hi List.mem_cons_self
  refine ⟨p, vs, y, x, F1, k, rfl, f1, B1, V1.fh, r1, q1, fun z v F2 H2 q2 A2 B2 r2 => w z v F2 H2 q2 (A1.trans (A2.mono fun q hq => by rw [List.mem_singleton.mp hq]; exact hp)) ?_ r2⟩
  have := V1.cNew hi A2 B2
  rw [set_self hi] at this; exact this
theorem run_R {c : C γ} {s : RI α} {r : R β} {g : γ → α → (β → Prop) → Prop} {N : List Str} {m : Nat} {t : TS} {vs : List V} {Q : VK} {Ek : XK} {Gn : Bs → Addr → γ → α → τ → List Sl} {f : γ → α → Pd τ Unit β → Prop} (h : spR c s r g vs H Q Ek) (hN : N.length = s.n + 1 + m)
    (hS : ∀ b p y x, b.M = [p] → S b (own p c y :: (s.sl x ++ List.replicate m any)) t (Gn b p y x) (fun _ : Unit => []) (fun z v F H => CAt c y F H p ∧ r.h z v F) (f y x)) (hg : ∀ y x k, g y x k → f y x ⟨fun _ => False, fun _ => False, fun _ => False, k⟩) :
    t { nx := fun _ H' => Q .non H', rt := Q } (L2.start N vs) H := by
  obtain ⟨p, ws, y, x, F, k, rfl, fp, ⟨u, hb, hbl⟩, e, hs, q, w⟩ := h
  have hl := s.ln hs
  refine S.go (hS ⟨F, H, [p], fun q hq => by rw [List.mem_singleton.mp hq, hb]; exact fun z => nomatch z⟩ p y x rfl) (L2.start N (.ref p :: ws)) F H _ ⟨fun _ => False, fun _ => False, fun _ => False, k⟩ ?_ (hg y x k q) (fun _ _ _ _ h => h.elim) (fun _ _ _ _ h => h.elim) (fun _ _ _ _ h => h.elim) (fun z v F' H' hk A (hr : CAt c y F' H' p ∧ r.h z v F') => w z v F' H' hk A hr.1 hr.2)
  have ow : owns (own p c y :: (s.sl x ++ List.replicate m any)) = [p] := by
    show [p] ++ owns _ = _
    rw [owns_app, s.no, owns_any]; rfl
  refine ⟨Ex.refl _, e, fun _ _ _ h => h, fun _ h => h, fun _ h _ => h, ?_, by rw [ow]; simp, fun q hq => ?_⟩
  · unfold L2.start
    have : N.length - (V.ref p :: ws).length = m := by rw [List.length_cons]; omega
    rw [this]
    exact .cons (show _ ∧ _ from ⟨rfl, _, hb, hbl⟩) (paired_app' (s.hs hs) holds_any)
  · rw [ow] at hq
    cases List.mem_singleton.mp hq
    exact ⟨fp, .inl List.mem_cons_self⟩
theorem s_retR {te : TE} {r : R α} {f : (α → Prop) → Prop} {i : Nat} {p : Addr} {c : C γ} {y : γ} (hi : G[i]? = some (own p c y)) (h : E b G te r f) : S b G (tRet te) Gn Gl (fun z v F H => CAt c y F H p ∧ r.h z v F) (fun d => f d.rt) :=
  s_ret (g := fun a => a) h fun a v σ F H V hr => ⟨(V.cAt hi).2, hr⟩
/-! ### a bag and an own list -/
def spBL (rl : R γ) (r : R β) (g : List γ → (β × List γ → Prop) → Prop) : Sp := fun vs H Q _ => ∃ (p q : Addr) (us : List γ) (F : Hp) (k : β × List γ → Prop), vs = [.ref p, .ref q] ∧ p ≠ q ∧ F p = none ∧ F q = none ∧ BgAt F H p ∧ CAt (cLst rl) us F H q ∧ Ex F H ∧ g us k ∧
  ∀ y v F' H', k y → After F H [p, q] F' H' → BgAt F' H' p → CAt (cLst rl) y.2 F' H' q → r.h y.1 v F' → Q v H'
theorem s_dropBL {rl : R γ} {r : R β} {g : List γ → (β × List γ → Prop) → Prop} {Ek : XK} {i j : Nat} {p q : Addr} {us : List γ} (hi : G[i]? = some (own p cBag ())) (hj : G[j]? = some (own q (cLst rl) us)) (ij : i ≠ j) :
    S b G (tDrop (tCall (spBL rl r g) [] Ek (tCons (tVar i) (tCons (tVar j) tNil)))) (fun y : β × List γ => G.set j (own q (cLst rl) y.2)) Gl ro (fun d => g us d.nx) := fun σ F H D d V hq w1 _ _ _ => by
  obtain ⟨o, h1, rfl, _⟩ := V.hold.at_ hi
  obtain ⟨o, h2, rfl, _⟩ := V.hold.at_ hj
  obtain ⟨fp, Bp⟩ := V.bagAt hi
  obtain ⟨fq, Bq⟩ := V.cAt hj
  have pq : p ≠ q := fun z => owns_disj hi hj ij V.nd List.mem_cons_self (by rw [z]; exact List.mem_cons_self)
  refine ⟨.ref p, h1, .ref q, h2, ?_⟩
  refine ⟨p, q, us, F, d.nx, rfl, pq, fp, fq, Bp, Bq, V.fh, hq, fun y v F2 H2 k2 A B1 B2 _ => w1 y _ F2 H2 k2 A.ff ?_⟩
  have hp := mem_owns hi List.mem_cons_self
  have hq' := mem_owns hj List.mem_cons_self
  have e : owns (G.set j (own q (cLst rl) y.2)) = owns G := owns_same hj rfl
  obtain ⟨l, b1, b2⟩ := B1
  obtain ⟨u, c1, c2⟩ := B2
  refine V.step0 A (fun x hx => ?_) (fun x hx => by rw [← e]; exact hx) (by rw [e]; exact V.nd) (Holds.of (by rw [List.length_set]; exact V.hold.len) fun m t o m1 m2 => ?_)
  · rcases List.mem_cons.mp hx with z | z
    · rw [z]; exact hp
    · rw [List.mem_singleton.mp z]; exact hq'
  · by_cases z : j = m
    · subst z
      rw [List.getElem?_set_self (List.getElem?_eq_some_iff.mp hj).1] at m1
      cases m1
      rw [h2] at m2; cases m2
      exact ⟨rfl, u, c1, c2⟩
    · rw [List.getElem?_set_ne z] at m1
      by_cases z2 : i = m
      · subst z2
        rw [hi] at m1; cases m1
        rw [h1] at m2; cases m2
        exact ⟨rfl, _, b1, l, rfl, b2⟩
      · obtain ⟨o', h3, h4⟩ := V.hold.at_ m1
        rw [m2] at h3; cases h3
        refine t.up A.ff (fun x hx u hu => A.hh x u (fun zz => ?_) hu) h4
        rcases List.mem_cons.mp zz with e1 | e1
        · exact owns_disj hi m1 z2 V.nd List.mem_cons_self (e1 ▸ hx)
        · rw [List.mem_singleton.mp e1] at hx
          exact owns_disj hj m1 z V.nd List.mem_cons_self hx
/-! ### records: dicts with written keys -/
structure RK (α : Type) where
  h : α → List (Key × V) → Hp → Prop
  ex : ∀ {a v F F'}, Ex F F' → h a v F → h a v F'
  ks : List Str
  kk : ∀ {a v F}, h a v F → v.map (·.1) = ks.map Sum.inr
def kOne (n : Str) (r : R α) : RK α := ⟨fun a kvs F => ∃ v, kvs = [(.inr n, v)] ∧ r.h a v F, fun e ⟨v, h1, h2⟩ => ⟨v, h1, r.ex e h2⟩, [n], fun ⟨v, h, _⟩ => by rw [h]; rfl⟩
def kCons (n : Str) (r : R α) (s : RK β) : RK (α × β) := ⟨fun a kvs F => ∃ v ws, kvs = (.inr n, v) :: ws ∧ r.h a.1 v F ∧ s.h a.2 ws F, fun e ⟨v, ws, h1, h2, h3⟩ => ⟨v, ws, h1, r.ex e h2, s.ex e h3⟩, n :: s.ks, fun ⟨v, ws, h, _, h2⟩ => by rw [h, List.map_cons, s.kk h2]; rfl⟩
def rRec (s : RK α) : R α := ⟨fun a v F => ∃ p kvs, v = .ref p ∧ F p = some (.dK kvs) ∧ s.h a kvs F, fun e ⟨p, kvs, h1, h2, h3⟩ => ⟨p, kvs, h1, e _ _ h2, s.ex e h3⟩⟩
def RkAt (s : RK α) (n : Str) (r : R β) (g : α → β) : Prop := ∀ a kvs F, s.h a kvs F → ∃ v, valV kvs (Sum.inr n : Key) = some v ∧ r.h (g a) v F
theorem rk_one {n : Str} {r : R α} : RkAt (kOne n r) n r (fun a => a) := fun a kvs F ⟨v, e, h⟩ => ⟨v, by rw [e]; exact valV_pos rfl, h⟩
theorem rk_hd {n : Str} {r : R α} {s : RK β} : RkAt (kCons n r s) n r (fun a => a.1) := fun a kvs F ⟨v, ws, e, h, _⟩ => ⟨v, by rw [e]; exact valV_pos rfl, h⟩
theorem rk_tl {n m : Str} {r : R α} {s : RK β} {rr : R γ} {g : β → γ} (ne : (n == m) = false) (h : RkAt s m rr g) : RkAt (kCons n r s) m rr (fun a => g a.2) := fun a kvs F ⟨v, ws, e, _, h2⟩ => by
  obtain ⟨u, h3, h4⟩ := h a.2 ws F h2
  refine ⟨u, ?_, h4⟩
  rw [e, valV_neg (fun z => ?_)]
  · exact h3
  · have z : (Sum.inr n : Key) = Sum.inr m := z
    rw [Sum.inr.inj z, beq_self_eq_true] at ne; cases ne
theorem e_rec {s : RK α} {n : Str} {r : R β} {g : α → β} {te : TE} {f : (α → Prop) → Prop} (h : E b G te (rRec s) f) (hn : RkAt s n r g) : E b G (tDGet te (tC (.str n))) r (fun k => f fun a => k (g a)) := fun _ _ _ _ k V q w => by
  refine h _ V q ?_
  rintro a v F1 H1 q1 A1 V1 ⟨p, kvs, rfl, hp, hs⟩
  obtain ⟨u, h1, h2⟩ := hn a kvs F1 hs
  exact ⟨p, u, rfl, by rw [← h1]; exact DGet.k (k := Sum.inr n) (V1.fh _ _ hp), w _ u F1 H1 q1 A1 V1 h2⟩
/-- the pairs of a display -/
def Prs (b : Bs) (G : List Sl) (ts : List (TE × TE)) (s : RK α) (f : (α → Prop) → Prop) : Prop := ∀ ⦃σ : L2.St⦄ ⦃F H : Hp⦄ ⦃Q : List (V × V) → Hp → Prop⦄ (k : α → Prop), Env b G σ F H → f k →
  (∀ a ps F' H', k a → After F H (owns G) F' H' → Env b G σ F' H' → (∃ kvs : List (Key × V), ps = kvs.map (fun kv => (kV kv.1, kv.2)) ∧ s.h a kvs F') → Q ps H') → tPairs ts σ H Q
theorem prs_one {n : Str} {r : R α} {te : TE} {f : (α → Prop) → Prop} (h : E b G te r f) : Prs b G [(tC (.str n), te)] (kOne n r) f := fun _ _ _ _ k V q w => by
  refine h _ V q ?_
  intro a v F1 H1 q1 A1 V1 r1
  exact w a _ F1 H1 q1 A1 V1 ⟨[(.inr n, v)], rfl, v, rfl, r1⟩
theorem prs_cons {n : Str} {r : R α} {s : RK β} {te : TE} {ts : List (TE × TE)} {f : (α → Prop) → Prop} {g : (β → Prop) → Prop} (h : E b G te r f) (h2 : Prs b G ts s g) : Prs b G ((tC (.str n), te) :: ts) (kCons n r s) (fun k => f fun x => g fun y => k (x, y)) := fun _ _ _ _ k V q w => by
  refine h _ V q ?_
  intro a v F1 H1 q1 A1 V1 r1
  refine h2 _ V1 q1 ?_
  rintro y ps F2 H2 q2 A2 V2 ⟨kvs, rfl, hs⟩
  exact w (a, y) _ F2 H2 q2 (A1.trans A2) V2 ⟨(.inr n, v) :: kvs, rfl, v, kvs, rfl, r.ex A2.ff r1, hs⟩
theorem merge_new : ∀ {more kvs : List (Key × V)}, (more.map (·.1)).Nodup → (∀ p ∈ more, ∀ q ∈ kvs, p.1 ≠ q.1) → mergeK kvs more = kvs ++ more
  | [], kvs, _, _ => by unfold mergeK; simp
  | p :: more, kvs, nd, h => by
    have nd' := List.nodup_cons.mp (by simpa using nd : (p.1 :: more.map (·.1)).Nodup)
    show mergeK (putK kvs p.1 p.2) more = _
    have e : putK kvs p.1 p.2 = kvs ++ [p] := by
      unfold putK
      rw [if_neg]
      intro z
      obtain ⟨q, hq, e⟩ := List.any_eq_true.mp z
      exact h p List.mem_cons_self q hq (of_decide_eq_true e).symm
    rw [e, merge_new nd'.2 fun a ha q hq => ?_, List.append_assoc]
    · rfl
    · rcases List.mem_append.mp hq with z | z
      · exact h a (List.mem_cons_of_mem _ ha) q z
      · rw [List.mem_singleton.mp z]
        intro e
        exact nd'.1 (e ▸ List.mem_map_of_mem (f := (·.1)) ha)
theorem nodup_inr : ∀ {l : List Str}, l.Nodup → (l.map (Sum.inr : Str → Key)).Nodup
  | [], _ => List.nodup_nil
  | x :: l, h => by
    have h' := List.nodup_cons.mp h
    rw [List.map_cons]
    refine List.nodup_cons.mpr ⟨fun z => ?_, nodup_inr h'.2⟩
    obtain ⟨y, hy, e⟩ := List.mem_map.mp z
    rw [Sum.inr.inj e] at hy
    exact h'.1 hy
theorem e_disp {s : RK α} {ts : List (TE × TE)} {f : (α → Prop) → Prop} (h : Prs b G ts s f) (nd : s.ks.Nodup) (l : s.ks.length ≤ 15) : E b G (tDisp ts) (rRec s) f := fun σ F H Q k V q w p hp => by
  have B := After.fresh (o := .dK []) V.fh hp []
  have V1 := V.step B
  have nO : p ∉ owns G := fun z => V.hold.live p z hp
  have fp : F p = none := ex_none V.fh hp
  refine h _ V1 q ?_
  rintro a ps F2 H2 q2 A2 V2 ⟨kvs, rfl, hs⟩
  have hp2 : H2 p = some (.dK []) := A2.hh p _ nO upd_same
  have fp2 : F2 p = none := A2.nf p fp (by rw [upd_same]; exact fun z => nomatch z)
  have hb : b.H p = none := by
    cases e : b.H p with
    | none => rfl
    | some u => exact absurd hp (V.kp p (by rw [e]; exact fun z => nomatch z))
  have V3 : Env b G σ F2 (upd H2 p (.dK kvs)) := V2.poke nO fp2 hb
  have A3 : After F H (owns G) F2 (upd H2 p (.dK kvs)) := by
    have A' := (B.mono (M' := owns G) fun _ h => nomatch h).trans A2
    have n1 : ∀ {x : Addr}, H x ≠ none → x ≠ p := fun h z => h (by rw [z]; exact hp)
    exact ⟨A'.ff, ex_mut fp2 A'.fh, fun x o hm hx => by rw [upd_ne (n1 (by rw [hx]; exact fun z => nomatch z))]; exact A'.hh x o hm hx, fun x hx => by rw [upd_ne (n1 hx)]; exact A'.kp x hx, A'.nf⟩
  have e : mergeK [] kvs = kvs := by
    rw [merge_new (by rw [s.kk hs]; exact nodup_inr nd) (fun _ _ q hq => absurd hq (by simp))]; rfl
  have ln : kvs.length ≤ 15 := by
    have := congrArg List.length (s.kk hs)
    rw [List.length_map, List.length_map] at this
    omega
  refine ⟨hp2, kvs, rfl, ln, ?_⟩
  rw [e]
  obtain ⟨A4, V4⟩ := thaw V A3 V3 hp fp2 upd_same
  exact w a _ _ _ q2 A4 V4 ⟨p, kvs, rfl, upd_same, s.ex (Ex.new fp2) hs⟩
/-! ### a list of own lists -/
abbrev LLs (r : R α) (F H : Hp) : List Addr → List (List α) → Prop := Paired fun q xs => ∃ vs, H q = some (.lst vs) ∧ All r F xs vs
theorem LLs.up {r : R α} {F H F' H' : Hp} (e : Ex F F') {qs : List Addr} {xss : List (List α)} (h : LLs r F H qs xss) : (∀ q ∈ qs, ∀ u, H q = some u → H' q = some u) → LLs r F' H' qs xss := by
  induction h with
  | nil => intro _; exact .nil
  | cons r t ih =>
    intro k
    obtain ⟨vs, h4, h5⟩ := r
    exact .cons ⟨vs, k _ List.mem_cons_self _ h4, h5.ex e⟩ (ih fun q hq => k q (List.mem_cons_of_mem _ hq))
theorem LLs.lv {r : R α} {F H : Hp} {qs : List Addr} {xss : List (List α)} (h : LLs r F H qs xss) : ∀ q ∈ qs, H q ≠ none := by
  induction h with
  | nil => intro q hq; nomatch hq
  | cons r t ih =>
    intro q hq
    rcases List.mem_cons.mp hq with e | e
    · obtain ⟨vs, h4, _⟩ := r
      rw [e, h4]; exact fun z => nomatch z
    · exact ih q e
def ownL (p : Addr) (qs : List Addr) (r : R α) (xss : List (List α)) : Sl where
  h := fun o F H => o = some (.ref p) ∧ H p = some (.lst (qs.map V.ref)) ∧ LLs r F H qs xss
  ow := p :: qs
  up := fun e k ⟨h1, h2, h3⟩ => ⟨h1, k p List.mem_cons_self _ h2, h3.up e fun q hq => k q (List.mem_cons_of_mem _ hq)⟩
  lv := fun ⟨_, h2, h3⟩ q hq => by
    rcases List.mem_cons.mp hq with z | z
    · rw [z, h2]; exact fun z => nomatch z
    · exact h3.lv q z
end
end Mi
/-! Mir7 -/
set_option Elab.async false
set_option linter.all false
set_option maxRecDepth 100000
set_option maxHeartbeats 4000000
namespace Mi
open PySem PySem.Spec L2 Dh
open _root_.Evl (Ex)
section
variable {K : PySem.W.Frag} {b : Bs} {G : List Sl} {α β γ δ τ τ' ρ ε : Type} {Gn : τ → List Sl} {Gl : ε → List Sl} {ro : ρ → V → Hp → Hp → Prop} {σ : L2.St} {F H F' H' : Hp}
/-- a view: all that a slot owns is frozen -/
def fz (F H : Hp) (ow : List Addr) : Hp := fun a => if a ∈ ow then H a else F a
theorem fz_in {ow : List Addr} {a : Addr} (h : a ∈ ow) : fz F H ow a = H a := if_pos h
theorem fz_out {ow : List Addr} {a : Addr} (h : a ∉ ow) : fz F H ow a = F a := if_neg h
theorem Env.frzS {i : Nat} {s s' : Sl} (V : Env b G σ F H) (hi : G[i]? = some s) (hm : ∀ p ∈ s.ow, p ∉ b.M) (h0 : s'.ow = []) (hs : ∀ o, s.h o F H → Ex F (fz F H s.ow) → s'.h o (fz F H s.ow) H) : Ex F (fz F H s.ow) ∧ Env b (G.set i s') σ (fz F H s.ow) H := by
  have own : ∀ p ∈ s.ow, F p = none ∧ b.H p = none := fun p hp => ⟨(V.on p (mem_owns hi hp)).1, (V.on p (mem_owns hi hp)).2.resolve_left (hm p hp)⟩
  have e : Ex F (fz F H s.ow) := fun a o h => by
    by_cases z : a ∈ s.ow
    · rw [(own a z).1] at h; cases h
    · rw [fz_out z]; exact h
  refine ⟨e, V.ff.trans e, fun a o h => ?_, V.hh, V.kp, fun a h1 h2 => ?_, ?_, V.nd.sublist (owns_set h0), fun q hq => ?_⟩
  · by_cases z : a ∈ s.ow
    · rw [fz_in z] at h; exact h
    · rw [fz_out z] at h; exact V.fh _ _ h
  · rw [fz_out (fun z => h2 (own a z).2)]; exact V.nf a h1 h2
  · refine Holds.of (by rw [List.length_set]; exact V.hold.len) fun j t o h1 h2 => ?_
    by_cases z : i = j
    · subst z
      rw [List.getElem?_set_self (List.getElem?_eq_some_iff.mp hi).1] at h1
      cases h1
      obtain ⟨o', h3, h4⟩ := V.hold.at_ hi
      rw [h2] at h3; cases h3
      exact hs o h4 e
    · rw [List.getElem?_set_ne z] at h1
      obtain ⟨o', h3, h4⟩ := V.hold.at_ h1
      rw [h2] at h3; cases h3
      exact t.up e (fun _ _ _ h => h) h4
  · have hq' := (owns_set (s := s') h0).subset hq
    rw [fz_out fun z => ?_]
    · exact V.on q hq'
    · obtain ⟨j, t, h3, h4⟩ := owns_inv hq
      by_cases zz : i = j
      · subst zz
        rw [List.getElem?_set_self (List.getElem?_eq_some_iff.mp hi).1] at h3
        cases h3
        rw [h0] at h4; nomatch h4
      · rw [List.getElem?_set_ne zz] at h3
        exact owns_disj hi h3 zz V.nd z h4
theorem LLs.frz {r : R α} {ow : List Addr} {qs : List Addr} {xss : List (List α)} (h : LLs r F H qs xss) (e : Ex F (fz F H ow)) : (∀ q ∈ qs, q ∈ ow) → All (rLst r) (fz F H ow) xss (qs.map V.ref) := by
  induction h with
  | nil => intro _; exact .nil
  | @cons q xs qs xss r t ih =>
    intro k
    obtain ⟨vs, h4, h5⟩ := r
    exact .cons ⟨q, vs, rfl, by rw [fz_in (k _ List.mem_cons_self)]; exact h4, h5.ex e⟩ (ih fun q hq => k q (List.mem_cons_of_mem _ hq))
theorem s_frzLL {t : TS} {i : Nat} {p : Addr} {qs : List Addr} {xss : List (List α)} {r : R α} {f : Pd τ ε ρ → Prop} (hi : G[i]? = some (ownL p qs r xss)) (hm : ∀ q ∈ p :: qs, q ∉ b.M) (h : S b (G.set i (val (rLst (rLst r)) xss)) t Gn Gl ro f) : S b G t Gn Gl ro f := fun _ _ _ _ d V q w1 w2 w3 w4 => by
  obtain ⟨e, V'⟩ := V.frzS (s' := val (rLst (rLst r)) xss) hi hm rfl (fun o ⟨h1, h2, h3⟩ e => ⟨.ref p, h1, p, _, rfl, (fz_in (ow := p :: qs) List.mem_cons_self).trans h2, h3.frz e fun q hq => List.mem_cons_of_mem _ hq⟩)
  exact h d V' q (fun y σ2 F2 H2 q2 e2 => w1 y σ2 F2 H2 q2 (e.trans e2)) (fun y σ2 F2 H2 q2 e2 => w2 y σ2 F2 H2 q2 (e.trans e2)) (fun y σ2 F2 H2 q2 e2 => w3 y σ2 F2 H2 q2 (e.trans e2)) w4
theorem LLs.get {r : R α} {qs : List Addr} {xss : List (List α)} (h : LLs r F H qs xss) {n : Nat} {xs : List α} (e : xss[n]? = some xs) : ∃ q vs, qs[n]? = some q ∧ H q = some (.lst vs) ∧ All r F xs vs := by
  induction h generalizing n with
  | nil => simp at e
  | cons r t ih =>
    cases n with
    | zero =>
      simp at e; subst e
      obtain ⟨vs, h1, h2⟩ := r
      exact ⟨_, vs, rfl, h1, h2⟩
    | succ n =>
      obtain ⟨q, vs, h1, h2, h3⟩ := ih (n := n) (by simpa using e)
      exact ⟨q, vs, by simpa using h1, h2, h3⟩
theorem LLs.set {r : R α} {qs : List Addr} {xss : List (List α)} (h : LLs r F H qs xss) (nd : qs.Nodup) {n : Nat} {q : Addr} {vs : List V} {xs : List α} (hq : qs[n]? = some q) (A : All r F xs vs) : LLs r F (upd H q (.lst vs)) qs (xss.set n xs) := by
  induction h generalizing n with
  | nil => exact .nil
  | @cons q0 xs0 qs xss r t ih =>
    have nd' := List.nodup_cons.mp nd
    cases n with
    | zero =>
      simp at hq; subst hq
      exact .cons ⟨vs, upd_same, A⟩ (LLs.up (Ex.refl _) t fun a ha u hu => by
        have ne : a ≠ q0 := fun z => nd'.1 (by rw [← z]; exact ha)
        rw [upd_ne ne]; exact hu)
    | succ n =>
      have hq : qs[n]? = some q := by simpa using hq
      obtain ⟨ws, h1, h2⟩ := r
      have ne : q0 ≠ q := fun z => nd'.1 (by rw [z]; exact List.mem_of_getElem? hq)
      exact .cons ⟨ws, by rw [upd_ne ne]; exact h1, h2⟩ (ih nd'.2 hq)
theorem owns_nd : ∀ {G : List Sl} {i : Nat} {s : Sl}, G[i]? = some s → (owns G).Nodup → s.ow.Nodup
  | [], _, _, e, _ => by simp at e
  | x :: g, 0, s, e, h => by simp at e; subst e; exact (List.nodup_append.mp h).1
  | x :: g, i + 1, s, e, h => owns_nd (i := i) (by simpa using e) (List.nodup_append.mp h).2.1
/-- xss[j].append(e) -/
theorem s_appLL {i : Nat} {p : Addr} {qs : List Addr} {tj te : TE} {r : R α} {xss : List (List α)} {f : (Int → Prop) → Prop} {g : (α → Prop) → Prop} (hi : G[i]? = some (ownL p qs r xss)) (hj : E b G tj rInt f) (h : E b G te r g) :
    S b G (tDrop (tBM K "list" rAppend (tOp (rIxL K) (tVar i) tj) (tCons te tNil))) (fun y : Nat × List α => G.set i (ownL p qs r (xss.set y.1 y.2))) Gl ro (fun d => f fun j => ∃ n xs, ixN xss.length j = some n ∧ xss[n]? = some xs ∧ g fun a => xs.length < sizeLine ∧ d.nx (n, xs ++ [a])) := fun σ F H D d V q w1 _ _ _ => by
  obtain ⟨o, h1, rfl, _⟩ := V.hold.at_ hi
  refine ⟨.ref p, h1, ?_⟩
  refine hj _ V q ?_
  rintro j v F1 H1 ⟨n, xs, hn, hxs, q1⟩ A1 V1 e
  cases e
  obtain ⟨o, h1', e, h2, h3⟩ := V1.hold.at_ hi
  obtain ⟨qa, vs, k1, k2, k3⟩ := h3.get hxs
  have ln : qs.length = xss.length := Paired.length h3
  refine ⟨p, _, j, .ref qa, rfl, rfl, SqL.of h2, ?_, ty_l k2, ?_⟩
  · unfold atI
    rw [List.length_map, ln, hn]
    show (qs.map L2.V.ref)[n]? = _
    rw [List.getElem?_map, k1]; rfl
  · refine h _ V1 q1 ?_
    intro x v F2 H2 q2 A2 V2 r2
    obtain ⟨o, h1'', e, h2, h3⟩ := V2.hold.at_ hi
    rw [h1] at h1''; cases h1''
    obtain ⟨qb, vs, k1', k2, k3⟩ := h3.get hxs
    rw [k1] at k1'; cases k1'
    have hqa : qa ∈ qs := List.mem_of_getElem? k1
    have hO : ∀ x ∈ p :: qs, x ∈ owns G := fun x hx => mem_owns hi hx
    have ndl : (p :: qs).Nodup := owns_nd hi V2.nd
    have nd' := List.nodup_cons.mp ndl
    refine ⟨qa, vs, v, rfl, rfl, k2, by rw [k3.len]; exact q2.1, w1 (n, xs ++ [x]) _ F2 _ q2.2 (A1.ff.trans A2.ff) ?_⟩
    have e : owns (G.set i (ownL p qs r (xss.set n (xs ++ [x])))) = owns G := owns_same hi rfl
    refine V2.step0 (M := [qa]) ⟨Ex.refl _, ex_mut (V2.on qa (hO qa (List.mem_cons_of_mem _ hqa))).1 V2.fh, fun x o hm hx => by rw [upd_ne (fun z => hm (by rw [z]; exact List.mem_cons_self))]; exact hx, fun x hx => ?_, fun _ h _ => h⟩ (fun z hz => by rw [List.mem_singleton.mp hz]; exact hO qa (List.mem_cons_of_mem _ hqa)) (fun z hz => by rw [← e]; exact hz) (by show (owns (G.set i (ownL p qs r (xss.set n (xs ++ [x]))))).Nodup; rw [e]; exact V2.nd) ?_
    · by_cases z : x = qa
      · subst z; rw [upd_same]; exact fun z => nomatch z
      · rw [upd_ne z]; exact hx
    · refine Holds.of (by rw [List.length_set]; exact V2.hold.len) fun m t o m1 m2 => ?_
      by_cases z : i = m
      · subst z
        rw [List.getElem?_set_self (List.getElem?_eq_some_iff.mp hi).1] at m1
        cases m1
        rw [h1] at m2; cases m2
        exact ⟨rfl, by
          have ne : p ≠ qa := fun z => nd'.1 (by rw [z]; exact hqa)
          rw [upd_ne ne]; exact h2, h3.set nd'.2 k1 (Dh.paired_app k3 (.cons r2 .nil))⟩
      · rw [List.getElem?_set_ne z] at m1
        obtain ⟨o', m3, m4⟩ := V2.hold.at_ m1
        rw [m2] at m3; cases m3
        exact t.up (Ex.refl _) (fun a ha u hu => by
          have ne : a ≠ qa := fun zz => owns_disj hi m1 z V2.nd (List.mem_cons_of_mem _ hqa) (by rw [← zz]; exact ha)
          rw [upd_ne ne]; exact hu) m4
/-- [[] for k in range(n)] -/
theorem owns_setL {s : Sl} : ∀ {G : List Sl} {i : Nat}, (∀ q ∈ s.ow, q ∉ owns G) → s.ow.Nodup → (owns G).Nodup → (∀ q ∈ owns (G.set i s), q ∈ s.ow ∨ q ∈ owns G) ∧ (owns (G.set i s)).Nodup
  | [], _, h, _, nd => ⟨fun q h => .inr h, nd⟩
  | x :: g, 0, h, ns, nd => by
    show (∀ q ∈ s.ow ++ owns g, _) ∧ (s.ow ++ owns g).Nodup
    refine ⟨fun q hq => (List.mem_append.mp hq).imp id (List.mem_append_right _), List.nodup_append.mpr ⟨ns, (List.nodup_append.mp nd).2.1, fun a ha c hc e => ?_⟩⟩
    subst e; exact h a ha (List.mem_append_right _ hc)
  | x :: g, i + 1, h, ns, nd => by
    obtain ⟨n1, n2, n3⟩ := List.nodup_append.mp nd
    obtain ⟨h1, h2⟩ := owns_setL (G := g) (i := i) (fun q hq z => h q hq (List.mem_append_right _ z)) ns n2
    refine ⟨fun q hq => ?_, List.nodup_append.mpr ⟨n1, h2, fun a ha c hc e => ?_⟩⟩
    · rcases List.mem_append.mp hq with z | z
      · exact .inr (List.mem_append_left _ z)
      · exact (h1 q z).imp id (List.mem_append_right _)
    · subst e
      rcases h1 a hc with z | z
      · exact h a z (List.mem_append_left _ ha)
      · exact n3 a ha a z rfl
theorem s_newLL {ta : TA} {i j : Nat} {r : R α} {f : (Int → Prop) → Prop} {g : Int → Pd τ ε ρ → Prop} {t : TS} (h : Ar b G ta (rOne rInt) f) (ht : ∀ (p : Addr) (qs : List Addr) n, (∀ q ∈ p :: qs, q ∉ b.M) → S b (G.set i (ownL p qs r (List.replicate n.toNat []))) t Gn Gl ro (g n)) :
    S b G (tSeq (tAsg (tLc (iRng1 ta) (gName j) tYes (tLst tNil) [j]) (gName i)) t) Gn Gl ro (fun d => f fun n => (-(2 ^ 62) ≤ n ∧ n < 2 ^ 62) ∧ n.toNat ≤ sizeLine ∧ g n d) := fun σ F H D d V q w1 w2 w3 w4 => by
  refine h _ V q ?_
  rintro n vs F1 H1 ⟨hb, hl, q1⟩ A1 V1 ⟨v, e, hv⟩
  cases hv
  subst e
  refine ⟨n, rfl, hb.1, hb.2, ?_⟩
  show RawC (Itr 0 n.toNat) (gName j) tYes (tLst tNil) [j] σ H1 (fun x H2 => t D (σ.set i (some x)) H2)
  refine raw_c walk_range fun Dl hD => ?_
  have hD0 : upd H1 Dl (.lst []) Dl = some (.lst []) := upd_same
  refine ⟨fun i H2 => ∃ qs : List Addr, qs.length = i ∧ H2 Dl = some (.lst (qs.map L2.V.ref)) ∧ (∀ q ∈ qs, H2 q = some (.lst []) ∧ H1 q = none) ∧ (Dl :: qs).Nodup ∧ (∀ a o, H1 a = some o → H2 a = some o), ⟨[], rfl, upd_same, fun q hq => absurd hq (by simp), by simp, fun a o ha => by rw [upd_ne (ne_of_none ha hD)]; exact ha⟩, fun _ _ _ _ => trivial, fun i x H2 H3 hi ⟨qs, l, h1, h2, nd, h3⟩ y => ?_, fun H2 ⟨qs, l, h1, h2, nd, h3⟩ => ?_⟩
  · obtain ⟨rfl, rfl⟩ := y
    refine ⟨wipe_set _ _ _, ?_⟩
    dsimp only [tYes]
    refine iteT ?_
    refine ⟨Nat.zero_le sizeLine, fun q hq => ?_⟩
    have ne : ∀ a ∈ Dl :: qs, a ≠ q := fun a ha z => by
      subst z
      rcases List.mem_cons.mp ha with e | e
      · rw [← e] at h1; rw [h1] at hq; cases hq
      · rw [(h2 a e).1] at hq; cases hq
    have nD := ne Dl List.mem_cons_self
    refine ⟨qs.map L2.V.ref, by rw [upd_ne nD]; exact h1, by rw [List.length_map]; omega, qs ++ [q], by simp [l], by rw [upd_same]; simp, fun a ha => ?_, ?_, fun a o ha => ?_⟩
    · rcases List.mem_append.mp ha with e | e
      · have n1 : a ≠ Dl := fun z => (List.nodup_cons.mp nd).1 (by rw [← z]; exact e)
        rw [upd_ne n1, upd_ne (ne a (List.mem_cons_of_mem _ e))]
        exact h2 a e
      · have e : a = q := List.mem_singleton.mp e
        rw [e, upd_ne nD.symm, upd_same]
        refine ⟨rfl, ?_⟩
        cases z : H1 q with
        | none => rfl
        | some u => rw [h3 q u z] at hq; cases hq
    · have : (Dl :: (qs ++ [q])) = (Dl :: qs) ++ [q] := rfl
      rw [this]
      exact List.nodup_append.mpr ⟨nd, by simp, fun a ha c hc z => ne a ha (by rw [z, List.mem_singleton.mp hc])⟩
    · have n1 : a ≠ Dl := ne_of_none ha hD
      have n2 : a ≠ q := fun z => by rw [z] at ha; rw [h3 q o ha] at hq; cases hq
      rw [upd_ne n1, upd_ne n2]; exact h3 a o ha
  · have lq : qs.length = n.toNat := l
    have new : ∀ q ∈ Dl :: qs, H1 q = none := fun q hq => by
      rcases List.mem_cons.mp hq with e | e
      · rw [e]; exact hD
      · exact (h2 q e).2
    have hbn : ∀ q ∈ Dl :: qs, b.H q = none := fun q hq => by
      cases e : b.H q with
      | none => rfl
      | some u => exact absurd (new q hq) (V1.kp q (by rw [e]; exact fun z => nomatch z))
    have nO : ∀ q ∈ Dl :: qs, q ∉ owns G := fun q hq z => V1.hold.live q z (new q hq)
    have nM : ∀ q ∈ Dl :: qs, q ∉ b.M := fun q hq z => b.ml q z (hbn q hq)
    have A2 : After F1 H1 [] F1 H2 := ⟨Ex.refl _, fun a o ha => h3 a o (V1.fh a o ha), fun a o _ ha => h3 a o ha, fun a ha => by
      cases z : H1 a with
      | none => exact absurd z ha
      | some u => rw [h3 a u z]; exact (fun z => nomatch z), fun _ h _ => h⟩
    have V2 := V1.step A2
    have e1 := A1.ff
    refine ht Dl qs n nM d ?_ q1 (fun y σ2 F2 H2 q2 e2 => w1 y σ2 F2 H2 q2 (e1.trans e2)) (fun y σ2 F2 H2 q2 e2 => w2 y σ2 F2 H2 q2 (e1.trans e2)) (fun y σ2 F2 H2 q2 e2 => w3 y σ2 F2 H2 q2 (e1.trans e2)) w4
    have LL : LLs r F1 H2 qs (List.replicate n.toNat []) := by
      rw [← lq]
      have k : ∀ q ∈ qs, H2 q = some (.lst []) := fun q hq => (h2 q hq).1
      clear lq l h1 h2 nd new hbn nO nM
      induction qs with
      | nil => exact .nil
      | cons q qs ih => exact .cons ⟨[], k q List.mem_cons_self, .nil⟩ (ih fun a ha => k a (List.mem_cons_of_mem _ ha))
    obtain ⟨o1, o2⟩ := owns_setL (s := ownL Dl qs r (List.replicate n.toNat [])) (G := G) (i := i) nO nd V2.nd
    refine ⟨V2.ff, V2.fh, V2.hh, V2.kp, V2.nf, V2.hold.set (s := ownL Dl qs r _) ⟨rfl, h1, LL⟩, o2, fun q hq => ?_⟩
    rcases o1 q hq with z | z
    · exact ⟨ex_none V1.fh (new q z), .inr (hbn q z)⟩
    · exact V2.on q z
end
end Mi
/-! Mir8 -/
set_option Elab.async false
set_option linter.all false
set_option maxRecDepth 100000
set_option maxHeartbeats 4000000
/-! == and in of data of any depth -/
namespace Mi
open PySem PySem.Spec L2 Dh
open _root_.Evl (Ex)
mutual
theorem dp_ex {K : PySem.W.Frag} {H H' : Hp} (e : Ex H H') : ∀ {v : V} {d : PyData}, Dp K H v d → Dp K H' v d
  | _, _, .non => .non
  | _, _, .bl b => .bl b
  | _, _, .int i => .int i
  | _, _, .str x => .str x
  | _, _, .lst h t => .lst (_root_.Evl.ex_l e h) (dpa_ex e t)
  | _, _, .tup h t => .tup (_root_.Evl.ex_t e h) (dpa_ex e t)
theorem dpa_ex {K : PySem.W.Frag} {H H' : Hp} (e : Ex H H') : ∀ {vs : List V} {ds : List PyData}, DpAll K H vs ds → DpAll K H' vs ds
  | _, _, .nil => .nil
  | _, _, .cons h t => .cons (dp_ex e h) (dpa_ex e t)
end
/-- the data behind a value -/
structure Da (K : PySem.W.Frag) {α : Type} [DecidableEq α] (r : R α) where
  dat : α → PyData
  ok : α → Prop
  n : Nat
  dp : ∀ {a v F}, r.h a v F → Dp K F v (dat a)
  can : ∀ {a}, ok a → (dat a).canLay0 = true
  dep : ∀ a, (dat a).depth ≤ n
  eq : ∀ a c, PyData.eqv (dat a) (dat c) = decide (a = c)
structure DaI (K : PySem.W.Frag) {α : Type} [DecidableEq α] (s : RI α) where
  dat : α → List PyData
  ok : α → Prop
  n : Nat
  dp : ∀ {a vs F}, s.h a vs F → DpAll K F vs (dat a)
  can : ∀ {a}, ok a → PyData.canLayAll0 (dat a) = true
  dep : ∀ a, PyData.depthAll (dat a) ≤ n
  eq : ∀ a c, PyData.eqvAll (dat a) (dat c) = decide (a = c)
section
variable {K : PySem.W.Frag} {α β : Type} [DecidableEq α] [DecidableEq β]
def daInt : Da K rInt := ⟨.int, fun _ => True, 0, fun h => by cases h; exact .int _, fun _ => rfl, fun _ => Nat.le_refl _, fun a c => by show ((a : Int) == c) = _; rw [Bool.beq_eq_decide_eq]⟩
def daBl : Da K rBl := ⟨.bool, fun _ => True, 0, fun h => by cases h; exact .bl _, fun _ => rfl, fun _ => Nat.le_refl _, fun a c => by cases a <;> cases c <;> rfl⟩
def daStr : Da K rStr := ⟨.str, fun x => PyData.strOk x = true, 0, fun h => by cases h; exact .str _, fun h => h, fun _ => Nat.le_refl _, fun a c => by show ((a : Str) == c) = _; rw [Bool.beq_eq_decide_eq]⟩
def daLit {z : Str} (hz : PyData.strOk z = true) : Da K (rLit z) := ⟨fun _ => .str z, fun _ => True, 0, fun h => by cases h; exact .str _, fun _ => hz, fun _ => Nat.le_refl _, fun a c => by
  show ((z : Str) == z) = _
  rw [beq_self_eq_true, decide_eq_true rfl]⟩
theorem dall {r : R α} (d : Da K r) {F : Hp} {xs : List α} {vs : List V} (h : All r F xs vs) : DpAll K F vs (xs.map d.dat) := by
  induction h with
  | nil => exact .nil
  | cons r t ih => exact .cons (d.dp r) ih
theorem eqall {r : R α} (d : Da K r) : ∀ xs ys : List α, PyData.eqvAll (xs.map d.dat) (ys.map d.dat) = decide (xs = ys)
  | [], [] => rfl
  | [], _ :: _ => rfl
  | _ :: _, [] => rfl
  | x :: xs, y :: ys => by
    show (PyData.eqv (d.dat x) (d.dat y) && PyData.eqvAll (xs.map d.dat) (ys.map d.dat)) = _
    rw [d.eq, eqall d xs ys]
    by_cases h : x = y
    · by_cases h2 : xs = ys
      · simp [h, h2]
      · simp [h, h2]
    · simp [h]
theorem canall {r : R α} (d : Da K r) : ∀ {xs : List α}, (∀ x ∈ xs, d.ok x) → PyData.canLayAll0 (xs.map d.dat) = true
  | [], _ => rfl
  | x :: xs, h => by
    show (PyData.canLay0 (d.dat x) && PyData.canLayAll0 (xs.map d.dat)) = true
    rw [d.can (h x List.mem_cons_self), canall d fun y hy => h y (List.mem_cons_of_mem _ hy)]; rfl
theorem depall {r : R α} (d : Da K r) : ∀ {xs : List α}, PyData.depthAll (xs.map d.dat) ≤ d.n
  | [] => Nat.zero_le _
  | x :: xs => by
    show max (PyData.depth (d.dat x)) (PyData.depthAll (xs.map d.dat)) ≤ d.n
    have := d.dep x
    have := depall d (xs := xs)
    omega
def daLst {r : R α} (d : Da K r) : Da K (rLst r) := ⟨fun xs => .list (xs.map d.dat), fun xs => ∀ x ∈ xs, d.ok x, d.n + 1, fun ⟨p, vs, e, h1, h2⟩ => by subst e; exact .lst (SqL.of h1) (dall d h2),
  fun h => canall d h, fun xs => by show PyData.depthAll (xs.map d.dat) + 1 ≤ _; have := depall d (xs := xs); omega, fun a c => eqall d a c⟩
def daTup {r : R α} (d : Da K r) : Da K (rTup K r) := ⟨fun xs => .tuple (xs.map d.dat), fun xs => ∀ x ∈ xs, d.ok x, d.n + 1, fun ⟨p, vs, e, h1, h2⟩ => by subst e; exact .tup h1 (dall d h2),
  fun h => canall d h, fun xs => by show PyData.depthAll (xs.map d.dat) + 1 ≤ _; have := depall d (xs := xs); omega, fun a c => eqall d a c⟩
def daOne {r : R α} (d : Da K r) : DaI K (rOne r) := ⟨fun a => [d.dat a], d.ok, d.n, fun ⟨v, e, h⟩ => by subst e; exact .cons (d.dp h) .nil, fun h => by
  show (PyData.canLay0 (d.dat _) && true) = true
  rw [d.can h]; rfl, fun a => by show max (PyData.depth (d.dat a)) 0 ≤ _; have := d.dep a; omega, fun a c => by
  show (PyData.eqv (d.dat a) (d.dat c) && true) = _
  rw [d.eq, Bool.and_true]⟩
def daCons {r : R α} {s : RI β} (d : Da K r) (t : DaI K s) : DaI K (rCons r s) := ⟨fun a => d.dat a.1 :: t.dat a.2, fun a => d.ok a.1 ∧ t.ok a.2, max d.n t.n, fun ⟨v, ws, e, h1, h2⟩ => by subst e; exact .cons (d.dp h1) (t.dp h2), fun h => by
  show (PyData.canLay0 (d.dat _) && PyData.canLayAll0 (t.dat _)) = true
  rw [d.can h.1, t.can h.2]; rfl, fun a => by
  show max (PyData.depth (d.dat a.1)) (PyData.depthAll (t.dat a.2)) ≤ _
  have := d.dep a.1; have := t.dep a.2; omega, fun a c => by
  show (PyData.eqv (d.dat a.1) (d.dat c.1) && PyData.eqvAll (t.dat a.2) (t.dat c.2)) = _
  rw [d.eq, t.eq]
  by_cases h1 : a.1 = c.1
  · by_cases h2 : a.2 = c.2
    · have : a = c := Prod.ext h1 h2
      simp [h1, h2, this]
    · have : a ≠ c := fun z => h2 (by rw [z])
      simp [h2, this]
  · have : a ≠ c := fun z => h1 (by rw [z])
    simp [h1, this]⟩
def daTp {s : RI α} (t : DaI K s) : Da K (rTp K s) := ⟨fun a => .tuple (t.dat a), t.ok, t.n + 1, fun ⟨p, vs, e, h1, h2⟩ => by subst e; exact .tup h1 (t.dp h2), fun h => t.can h, fun a => by
  show PyData.depthAll (t.dat a) + 1 ≤ _
  have := t.dep a; omega, fun a c => t.eq a c⟩
theorem Da.shaped {r : R α} (d : Da K r) (hn : d.n ≤ 64) {a : α} (h : d.ok a) : SeqAt.shaped (d.dat a) = true := by
  unfold SeqAt.shaped
  rw [d.can h, decide_eq_true (by have := d.dep a; omega)]; rfl
theorem o_eqD {r : R α} (d : Da K r) (hn : d.n ≤ 64) : Op2 (rEqD K) r r rBl (fun x y k => d.ok x ∧ d.ok y ∧ k (decide (x = y))) := fun a c v w F H Q k h1 h2 e ⟨o1, o2, q⟩ w' =>
  ⟨_, _, dp_ex e (d.dp h1), dp_ex e (d.dp h2), d.shaped hn o1, d.shaped hn o2, w' _ _ _ _ q (.refl e _) (by rw [d.eq]; rfl)⟩
theorem o_neD {r : R α} (d : Da K r) (hn : d.n ≤ 64) : Op2 (rNeD K) r r rBl (fun x y k => d.ok x ∧ d.ok y ∧ k (!decide (x = y))) := fun a c v w F H Q k h1 h2 e ⟨o1, o2, q⟩ w' =>
  ⟨_, _, dp_ex e (d.dp h1), dp_ex e (d.dp h2), d.shaped hn o1, d.shaped hn o2, w' _ _ _ _ q (.refl e _) (by rw [d.eq]; rfl)⟩
theorem any_dat {r : R α} (d : Da K r) {a : α} : ∀ xs : List α, ((xs.map d.dat).any fun z => PyData.eqv z (d.dat a)) = decide (a ∈ xs)
  | [] => rfl
  | x :: xs => by
    rw [List.map_cons, List.any_cons, any_dat d xs, d.eq]
    simp only [List.mem_cons, Bool.decide_or]
    congr 1
    exact decide_eq_decide.mpr ⟨fun h => h.symm, fun h => h.symm⟩
theorem o_inD {r : R α} (d : Da K r) (hn : d.n ≤ 63) : Op2 (rInD K) r (rLst r) rBl (fun x y k => d.ok x ∧ (∀ z ∈ y, d.ok z) ∧ k (decide (x ∈ y))) := fun a c v w F H Q k h1 h2 e ⟨o1, o2, q⟩ w' =>
  ⟨_, _, dp_ex e (d.dp h1), dp_ex e ((daLst d).dp h2), d.shaped (by omega) o1, (daLst d).shaped (by show d.n + 1 ≤ 64; omega) o2, w' _ _ _ _ q (.refl e _) (by rw [any_dat]; rfl)⟩
theorem o_notInD {r : R α} (d : Da K r) (hn : d.n ≤ 63) : Op2 (rNotInD K) r (rLst r) rBl (fun x y k => d.ok x ∧ (∀ z ∈ y, d.ok z) ∧ k (!decide (x ∈ y))) := fun a c v w F H Q k h1 h2 e ⟨o1, o2, q⟩ w' =>
  ⟨_, _, dp_ex e (d.dp h1), dp_ex e ((daLst d).dp h2), d.shaped (by omega) o1, (daLst d).shaped (by show d.n + 1 ≤ 64; omega) o2, w' _ _ _ _ q (.refl e _) (by rw [any_dat]; rfl)⟩
end
end Mi
/-! Mir9 -/
set_option Elab.async false
set_option linter.all false
set_option maxRecDepth 100000
set_option maxHeartbeats 4000000
/-! raise and try -/
namespace Mi
open PySem PySem.Spec L2 Dh
open _root_.Evl (Ex)
theorem un65 {A : Around} {k : Nat} (hr : Room k A) : A.units + 65 < cLine := by have := hr.un; omega
/-! ### errors -/
structure Xp (ε : Type) where
  h : ε → Value → Option Addr → Hp → Prop
  ex : ∀ {e cls d F F'}, Ex F F' → h e cls d F → h e cls d F'
section
variable {K : PySem.W.Frag} {b : Bs} {G Gx : List Sl} {α β γ δ τ τ' ρ ε ε' θ : Type} {Gn : τ → List Sl} {Gs : τ' → List Sl} {Gl : θ → List Sl} {ro : ρ → V → Hp → Hp → Prop} {σ : L2.St} {F H F' H' : Hp}
/-- an own class with one field -/
def x1 (C : Addr) (n : Str) (r : R α) : Xp α := ⟨fun a cls d F => cls = .ref C ∧ ∃ dd v, d = some dd ∧ F dd = some (.xd [(n, v)]) ∧ r.h a v F, fun e ⟨h1, dd, v, h2, h3, h4⟩ => ⟨h1, dd, v, h2, e _ _ h3, r.ex e h4⟩⟩
def xOr (x : Xp ε) (y : Xp δ) : Xp (ε ⊕ δ) := ⟨fun e cls d F => match e with | .inl a => x.h a cls d F | .inr c => y.h c cls d F, fun {e _ _ _ _} q h => by
  cases e with
  | inl a => exact x.ex q h
  | inr c => exact y.ex q h⟩
def xNo : Xp Empty := ⟨fun e _ _ _ => e.elim, fun {e} _ _ => e.elim⟩
def XSub (x : Xp ε) (y : Xp δ) (j : ε → δ) : Prop := ∀ e cls d F, x.h e cls d F → y.h (j e) cls d F
theorem xs_id {x : Xp ε} : XSub x x (fun e => e) := fun _ _ _ _ h => h
theorem xs_l {x : Xp ε} {y : Xp δ} : XSub x (xOr x y) Sum.inl := fun _ _ _ _ h => h
theorem xs_r {x : Xp ε} {y : Xp δ} : XSub y (xOr x y) Sum.inr := fun _ _ _ _ h => h
theorem xs_tr {x : Xp ε} {y : Xp δ} {z : Xp γ} {j : ε → δ} {k : δ → γ} (h1 : XSub x y j) (h2 : XSub y z k) : XSub x z (fun e => k (j e)) := fun _ _ _ _ h => h2 _ _ _ _ (h1 _ _ _ _ h)
/-- which of them isinstance takes -/
def XIs (K : PySem.W.Frag) (x : Xp ε) (cv : Value) (is : ε → Bool) : Prop := ∀ e cls d F, x.h e cls d F → ∃ (D dd : Addr) (fs : List (Str × V)), ExcC K D ∧ cls = .ref D ∧ d = some dd ∧ F dd = some (.xd fs) ∧ PySem.W.kitOne K (.ref D) cv = some (is e)
theorem xi_1 {C : Addr} {n : Str} {r : R α} {cv : Value} {t : Bool} (X : ExcC K C) (h : PySem.W.kitOne K (.ref C) cv = some t) : XIs K (x1 C n r) cv (fun _ => t) := fun _ _ _ _ ⟨h1, dd, v, h2, h3, _⟩ => ⟨C, dd, _, X, h1, h2, h3, h⟩
theorem xi_or {x : Xp ε} {y : Xp δ} {cv : Value} {i : ε → Bool} {j : δ → Bool} (h1 : XIs K x cv i) (h2 : XIs K y cv j) : XIs K (xOr x y) cv (Sum.elim i j) := fun e cls d F h => by
  cases e with
  | inl a => exact h1 a cls d F h
  | inr c => exact h2 c cls d F h
/-- which of them a clause catches -/
def XCa (K : PySem.W.Frag) (x : Xp ε) (c : Value) (is : ε → Bool) : Prop := ∀ e cls d F, x.h e cls d F → PySem.W.exmOne K cls c = some (is e)
theorem xc_1 {C : Addr} {n : Str} {r : R α} {c : Value} {t : Bool} (h : PySem.W.exmOne K (.ref C) c = some t) : XCa K (x1 C n r) c (fun _ => t) := fun _ _ _ _ ⟨h1, _⟩ => by rw [h1]; exact h
theorem xc_or {x : Xp ε} {y : Xp δ} {c : Value} {i : ε → Bool} {j : δ → Bool} (h1 : XCa K x c i) (h2 : XCa K y c j) : XCa K (xOr x y) c (Sum.elim i j) := fun e cls d F h => by
  cases e with
  | inl a => exact h1 a cls d F h
  | inr e => exact h2 e cls d F h
/-- their field n, where they have it -/
def XFd (K : PySem.W.Frag) (x : Xp ε) (n : Str) (r : R β) (g : ε → Option β) : Prop := ∀ e cls d F y, x.h e cls d F → g e = some y → ∃ (D dd : Addr) (fs : List (Str × V)) (v : V), XfC K D ∧ PySem.W.findIn K (.ref D) n = some none ∧ cls = .ref D ∧ d = some dd ∧ F dd = some (.xd fs) ∧ fs.lookup n = some v ∧ r.h y v F
theorem xf_1 {C : Addr} {n : Str} {r : R α} (X : XfC K C) (h : PySem.W.findIn K (.ref C) n = some none) : XFd K (x1 C n r) n r some := fun e cls d F y ⟨h1, dd, v, h2, h3, h4⟩ q => by
  cases q
  exact ⟨C, dd, _, v, X, h, h1, h2, h3, by rw [List.lookup_cons, beq_self_eq_true], h4⟩
theorem xf_no {x : Xp ε} {n : Str} {r : R β} : XFd K x n r (fun _ => none) := fun e cls d F y _ q => by cases q
theorem xf_or {x : Xp ε} {y : Xp δ} {n : Str} {r : R β} {i : ε → Option β} {j : δ → Option β} (h1 : XFd K x n r i) (h2 : XFd K y n r j) : XFd K (xOr x y) n r (Sum.elim i j) := fun e cls d F z h q => by
  cases e with
  | inl a => exact h1 a cls d F z h q
  | inr c => exact h2 c cls d F z h q
/-! ### promises of defs that may let errors out -/
def spX (s : RI α) (r : R β) (x : Xp ε) (g : α → (β → Prop) → (ε → Prop) → Prop) : Sp := fun vs H Q E => ∃ (a : α) (F : Hp) (k : β → Prop) (kx : ε → Prop), Ex F H ∧ s.h a vs F ∧ g a k kx ∧
  (∀ y v F' H', k y → After F H [] F' H' → r.h y v F' → Q v H') ∧ (∀ e cls d F' H', kx e → After F H [] F' H' → x.h e cls d F' → E cls d H')
def spRX (c : C γ) (s : RI α) (r : R β) (x : Xp ε) (g : γ → α → (β → Prop) → (ε → Prop) → Prop) : Sp := fun vs H Q E => ∃ (p : Addr) (ws : List V) (y : γ) (a : α) (F : Hp) (k : β → Prop) (kx : ε → Prop), vs = .ref p :: ws ∧ F p = none ∧ CAt c y F H p ∧ Ex F H ∧ s.h a ws F ∧ g y a k kx ∧
  (∀ z v F' H', k z → After F H [p] F' H' → CAt c y F' H' p → r.h z v F' → Q v H') ∧ (∀ e cls d F' H', kx e → After F H [p] F' H' → CAt c y F' H' p → x.h e cls d F' → E cls d H')
theorem spX_len {s : RI α} {r : R β} {x : Xp ε} {g : α → (β → Prop) → (ε → Prop) → Prop} {vs : List V} {Q : VK} {Ek : XK} (h : spX s r x g vs H Q Ek) : vs.length = s.n := by
  obtain ⟨a, F, k, kx, _, hs, _⟩ := h; exact s.ln hs
theorem spRX_len {c : C γ} {s : RI α} {r : R β} {x : Xp ε} {g : γ → α → (β → Prop) → (ε → Prop) → Prop} {vs : List V} {Q : VK} {Ek : XK} (h : spRX c s r x g vs H Q Ek) : vs.length = s.n + 1 := by
  obtain ⟨p, ws, y, a, F, k, kx, rfl, _, _, _, hs, _⟩ := h; rw [List.length_cons, s.ln hs]
/-- what the place around takes of errors -/
def Out (b : Bs) (gx : List Sl → Prop) (x : Xp ε) (kx : ε → Prop) (W : WX) : Prop := ∀ ⦃G : List Sl⦄ ⦃e : ε⦄ ⦃cls : Value⦄ ⦃d : Option Addr⦄ ⦃σ : L2.St⦄ ⦃F H : Hp⦄, gx G → kx e → Env b G σ F H → x.h e cls d F → W cls d σ H
theorem out_no {gx : List Sl → Prop} {x : Xp ε} {W : WX} : Out b gx x (fun _ => False) W := fun _ _ _ _ _ _ _ _ h => h.elim
variable {gx : List Sl → Prop} {x : Xp ε} {kx : ε → Prop} {W : WX} {x' : Xp ε'} {j : ε' → ε}
theorem e_callX {s : RI α} {r : R β} {g : α → (β → Prop) → (ε' → Prop) → Prop} {ta : TA} {f : (α → Prop) → Prop} (O : Out b gx x kx W) (hg : gx G) (hj : XSub x' x j) (h : Ar b G ta s f) :
    E b G (tCallS (spX s r x' g) (WE W) ta) r (fun k => f fun a => g a k fun e => kx (j e)) := fun σ F H Q k V q w => by
  refine h _ V q ?_
  intro a vs F1 H1 q1 A1 V1 r1
  exact ⟨a, F1, k, fun e => kx (j e), V1.fh, r1, q1, fun y v F2 H2 q2 A2 r2 => w y v F2 H2 q2 (A1.trans (A2.mono fun _ h => nomatch h)) (V1.step A2) r2, fun e cls d F2 H2 q2 A2 hx => O hg q2 (V1.step A2) (hj _ _ _ _ hx)⟩
theorem e_callX0 {s : RI α} {r : R β} {g : α → (β → Prop) → (ε' → Prop) → Prop} {Ek : XK} {ta : TA} {f : (α → Prop) → Prop} (h : Ar b G ta s f) :
    E b G (tCall (spX s r x' g) [] Ek ta) r (fun k => f fun a => g a k fun _ => False) := fun σ F H Q k V q w => by
  refine h _ V q ?_
  intro a vs F1 H1 q1 A1 V1 r1
  show spX s r x' g (vs ++ []) H1 _ _
  rw [List.append_nil]
  exact ⟨a, F1, k, fun _ => False, V1.fh, r1, q1, fun y v F2 H2 q2 A2 r2 => w y v F2 H2 q2 (A1.trans (A2.mono fun _ h => nomatch h)) (V1.step A2) r2, fun e cls d F2 H2 q2 => q2.elim⟩
theorem Env.back {c : C γ} {y : γ} {i : Nat} {p : Addr} (V : Env b G σ F H) (hi : G[i]? = some (own p c y)) (A : After F H [p] F' H') (B : CAt c y F' H' p) : Env b G σ F' H' := by
  have := V.cNew hi A B
  rw [set_self hi] at this; exact this
theorem e_methX {c : C γ} {y : γ} {i : Nat} {p Cl : Addr} {m : Str} {s : RI α} {r : R β} {g : γ → α → (β → Prop) → (ε' → Prop) → Prop} {ta : TA} {f : (α → Prop) → Prop} (O : Out b gx x kx W) (hg : gx G) (hj : XSub x' x j) (hi : G[i]? = some (own p c y))
    (hc : ∀ y u F, c.h y u F → ∃ dx fs, u = .ins Cl dx fs ∧ fs.lookup m = none) (h : Ar b G ta s f) :
    E b G (tMethS Cl m (spRX c s r x' g) (WE W) (tVar i) ta) r (fun k => f fun a => g y a k fun e => kx (j e)) := fun σ F H Q k V q w => by
  obtain ⟨o, h1, rfl, u, hu, hcu⟩ := V.hold.at_ hi
  obtain ⟨dx, fs, rfl, hl⟩ := hc _ _ _ hcu
  refine ⟨.ref p, h1, p, dx, fs, rfl, hu, hl, ?_⟩
  refine h _ V q ?_
  intro a vs F1 H1 q1 A1 V1 r1
  obtain ⟨f1, B1⟩ := V1.cAt hi
  have hp : p ∈ owns G := mem_owns hi List.mem_cons_self
  exact ⟨p, vs, y, a, F1, k, fun e => kx (j e), rfl, f1, B1, V1.fh, r1, q1, fun z v F2 H2 q2 A2 B2 r2 => w z v F2 H2 q2 (A1.trans (A2.mono fun q hq => by rw [List.mem_singleton.mp hq]; exact hp)) (V1.back hi A2 B2) r2,
    fun e cls d F2 H2 q2 A2 B2 hx => O hg q2 (V1.back hi A2 B2) (hj _ _ _ _ hx)⟩
theorem e_methX0 {c : C γ} {y : γ} {i : Nat} {p Cl : Addr} {m : Str} {s : RI α} {r : R β} {g : γ → α → (β → Prop) → (ε' → Prop) → Prop} {Ek : XK} {ta : TA} {f : (α → Prop) → Prop} (hi : G[i]? = some (own p c y))
    (hc : ∀ y u F, c.h y u F → ∃ dx fs, u = .ins Cl dx fs ∧ fs.lookup m = none) (h : Ar b G ta s f) :
    E b G (tMeth Cl m (spRX c s r x' g) [] Ek (tVar i) ta) r (fun k => f fun a => g y a k fun _ => False) := fun σ F H Q k V q w => by
  obtain ⟨o, h1, rfl, u, hu, hcu⟩ := V.hold.at_ hi
  obtain ⟨dx, fs, rfl, hl⟩ := hc _ _ _ hcu
  refine ⟨.ref p, h1, p, dx, fs, rfl, hu, hl, ?_⟩
  refine h _ V q ?_
  intro a vs F1 H1 q1 A1 V1 r1
  show spRX c s r x' g (.ref p :: (vs ++ [])) H1 _ _
  rw [List.append_nil]
  obtain ⟨f1, B1⟩ := V1.cAt hi
  have hp : p ∈ owns G := mem_owns hi List.mem_cons_self
  exact ⟨p, vs, y, a, F1, k, fun _ => False, rfl, f1, B1, V1.fh, r1, q1, fun z v F2 H2 q2 A2 B2 r2 => w z v F2 H2 q2 (A1.trans (A2.mono fun q hq => by rw [List.mem_singleton.mp hq]; exact hp)) (V1.back hi A2 B2) r2,
    fun e cls d F2 H2 q2 => q2.elim⟩
theorem s_retNP : S b G tRetN Gn Gl (fun (y : Unit) v F _ => rNon.h y v F) (fun d => d.rt ()) := s_retN (g := ()) fun _ _ _ _ => rfl
theorem flat_bl : Flat rBl := ⟨fun h => by cases h; rfl, fun {a v F c u F'} h1 h2 => by
  cases h1; cases h2
  cases a <;> cases c <;> rfl⟩
/-! ### raise -/
/-- C's __init__: self.n = the argument -/
def spE (C : Addr) (n : Str) : Sp := fun vs H Q _ => ∃ (a : Addr) (v : V), vs = [.ref a, v] ∧ H a = some (exo a C none) ∧ ∀ d, H d = none → d ≠ a → Q .non (upd (upd H d (exd d [(n, v)])) a (exo a C (some d)))
def tRaise (t : L2.St → Hp → XK → Prop) (W : WX) : TS := fun _ σ H => t σ H fun cls d H' => W cls d σ H'
theorem ps_raiseT {X : Cx} {W : WX} {e : Expr} {t : L2.St → Hp → XK → Prop} {pos : Pos} (hc : X.calm = true) (tk : L2N.Takes X W) (he : L2N.PMk X e t) : PS X (.Raise (some e) none pos) (tRaise t W) := L2N.ps_raise hc tk he
theorem s_raise {te : TE} {r : R α} {f : (α → Prop) → Prop} {C : Addr} {n : Str} {i : α → ε} (O : Out b gx x kx W) (hg : gx G) (hj : XSub (x1 C n r) x i) (h : E b G te r f) :
    S b G (tRaise (tMkO C (spE C n) [] (tCons te tNil)) W) Gn Gl ro (fun _ => f fun a => kx (i a)) := fun σ F H D d V q _ _ _ _ => by
  refine h _ V q ?_
  intro y v F1 H1 q1 A1 V1 r1
  refine ⟨(by show 1 ≤ 1000; decide), fun a ha => ⟨a, v, rfl, upd_same, fun dx hd da => ⟨rfl, dx, [(n, v)], upd_same, upd_oth da upd_same, ?_, ?_⟩⟩⟩
  · rw [upd_ne da] at hd; exact hd
  · rw [upd_ne da] at hd
    have e1 : Ex F1 (upd F1 dx (.xd [(n, v)])) := Ex.new (ex_none V1.fh hd)
    refine O hg q1 (V1.step ⟨e1, fun z o hz => ?_, fun z o _ hz => ?_, fun z hz => ?_, fun z h1 h2 => ?_⟩) (hj _ _ _ _ ⟨rfl, dx, v, rfl, upd_same, r.ex e1 r1⟩)
    · by_cases zd : z = dx
      · subst zd; rw [upd_same] at hz ⊢; exact hz
      · rw [upd_ne zd] at hz ⊢
        have hz' := V1.fh _ _ hz
        have za : z ≠ a := ne_of_none hz' ha
        rw [del_ne za, upd_ne za, upd_ne zd, upd_ne za]; exact hz'
    · have zd : z ≠ dx := ne_of_none hz hd
      have za : z ≠ a := ne_of_none hz ha
      rw [upd_ne zd, del_ne za, upd_ne za, upd_ne zd, upd_ne za]; exact hz
    · have zd : z ≠ dx := fun t => hz (by rw [t]; exact hd)
      have za : z ≠ a := fun t => hz (by rw [t]; exact ha)
      rw [upd_ne zd, del_ne za, upd_ne za, upd_ne zd, upd_ne za]; exact hz
    · have zd : z ≠ dx := fun t => h2 (by rw [t]; exact hd)
      rw [upd_ne zd]; exact h1
/-! ### try -/
/-- the caught error in its slot -/
def rErr (x : Xp ε) (a : Addr) (cls : Value) (d : Option Addr) : R ε := ⟨fun e v F => v = .ref a ∧ x.h e cls d F, fun q ⟨h1, h2⟩ => ⟨h1, x.ex q h2⟩⟩
def Bs.at_ (b : Bs) (F : Hp) : Bs := ⟨F, b.H, b.M, b.ml⟩
theorem Env.reb (V : Env b G σ F H) : Env (b.at_ F) G σ F H := ⟨Ex.refl F, V.fh, V.hh, V.kp, fun a h _ => h, V.hold, V.nd, V.on⟩
theorem After.unb {F0 : Hp} (V : Env b G σ F H) (A : After F b.H b.M F' H') : After b.F b.H b.M F' H' := ⟨V.ff.trans A.ff, A.fh, A.hh, A.kp, fun a h1 h2 => A.nf a (V.nf a h1 h2) h2⟩
theorem Env.unb {G' : List Sl} {σ' : L2.St} (V : Env b G σ F H) (V' : Env (b.at_ F) G' σ' F' H') : Env b G' σ' F' H' := ⟨V.ff.trans V'.ff, V'.fh, V'.hh, V'.kp, fun a h1 h2 => V'.nf a (V.nf a h1 h2) h2, V'.hold, V'.nd, V'.on⟩
def tTry (K : PySem.W.Frag) (c : Value) (i : Nat) (tb : WX → TS) (ts : Addr → Value → Option Addr → TS) (Wout : WX) : TS := fun D σ H => tb (wAs K c i ts Wout D) D σ H
theorem ps_tryT {X : Cx} {x n : Str} {c : Value} {i : Nat} {body suite : List Stmt} {b₀ : Stmt} {np pos pos' : Pos} {tb : WX → TS} {ts : Addr → Value → Option Addr → TS} {Wout : WX} (hs : X.stack = X.env :: X.outer) (hf : X.env.frame = some X.env.locals) (hN : X.N.Nodup) (hi : X.N[i]? = some n) (hln : X.env.kindOf n = some .local) (hc : Names X x c) (tk : L2N.Takes X Wout)
    (hb : ∀ (W : WX) (pn : List (Addr × Obj)) (xe : Value → Shared → Prop), L2N.Takes (X.tr pn xe) W → PassesOwn (model X.prog X.w) X.A X.env xe → PSs (X.tr pn xe) body (tb W))
    (hsu : ∀ (a : Addr) (oe : Obj) (cls : Value) (d : Option Addr) (pn : List (Addr × Obj)), L2N.Zn cls d oe → (∃ vs, oe.data = .fields vs) → PSs (X.suite a ((a, oe) :: pn)) (b₀ :: suite) (ts a cls d)) :
    PS X (.Try body [.ExceptHandler (some (.Name x np)) (some n) (b₀ :: suite) pos'] [] [] pos) (tTry X.K c i tb ts Wout) := L2N.ps_try_as hs hf hN hi hln hc tk hb hsu
theorem s_try {tb : WX → TS} {ts : Addr → Value → Option Addr → TS} {c : Value} {i : Nat} {is : ε → Bool} {fb : (ε → Prop) → Pd τ θ ρ → Prop} {fs : ε → Pd τ' θ ρ → Prop} {x0 : Xp δ} {k0 : δ → Prop} {Wout : WX} {j0 : ε → δ} {jn : τ' → τ}
    (hb : ∀ b' : Bs, b'.M = b.M → ∀ (W : WX) (kx : ε → Prop), Out b' (fun G' => Sub G' Gx) x kx W → S b' G (tb W) Gn Gl ro (fb kx)) (hm : XCa K x c is)
    (hs : ∀ e a cls d, is e = true → S b (Gx.set i (val (rErr x a cls d) e)) (ts a cls d) Gs Gl ro (fs e)) (hw : ∀ y, Sub ((Gs y).set i any) (Gn (jn y))) (hl : ∀ y, Sub ((Gl y).set i any) (Gl y))
    (O : Out b gx x0 k0 Wout) (hg : gx Gx) (hj : ∀ e, is e = false → ∀ cls d F, x.h e cls d F → x0.h (j0 e) cls d F) :
    S b G (tTry K c i tb ts Wout) Gn Gl ro (fun d => fb (fun e => (is e = true → fs e ⟨fun y => d.nx (jn y), d.ct, d.bk, d.rt⟩) ∧ (is e = false → k0 (j0 e))) d) := fun σ F H D d V q w1 w2 w3 w4 => by
  have hO : Out (b.at_ F) (fun G' => Sub G' Gx) x (fun e => (is e = true → fs e ⟨fun y => d.nx (jn y), d.ct, d.bk, d.rt⟩) ∧ (is e = false → k0 (j0 e))) (wAs K c i ts Wout D) := fun G' e cls dd σ' F1 H1 hsub ke V1 hx => by
    have V2 : Env b Gx σ' F1 H1 := (V.unb V1).sub hsub
    have e1 : Ex F F1 := V1.ff
    refine ⟨is e, hm e cls dd F1 hx, fun hi a ha => ?_, fun hi => O hg (ke.2 hi) V2 (hj e hi cls dd F1 hx)⟩
    refine hs e a cls dd hi ⟨fun y => d.nx (jn y), d.ct, d.bk, d.rt⟩ (V2.set (s := val (rErr x a cls dd) e) (o := some (.ref a)) ⟨_, rfl, rfl, hx⟩ rfl) (ke.1 hi) ?_ ?_ ?_ w4
    · exact fun y σ2 F2 H2 q2 e2 V3 => w1 (jn y) _ F2 H2 q2 (e1.trans e2) ((V3.set (i := i) (s := any) (o := none) trivial rfl).sub (hw y))
    · exact fun y σ2 F2 H2 q2 e2 V3 => w2 y _ F2 H2 q2 (e1.trans e2) ((V3.set (i := i) (s := any) (o := none) trivial rfl).sub (hl y))
    · exact fun y σ2 F2 H2 q2 e2 V3 => w3 y _ F2 H2 q2 (e1.trans e2) ((V3.set (i := i) (s := any) (o := none) trivial rfl).sub (hl y))
  exact hb (b.at_ F) rfl _ _ hO d V.reb q (fun y σ2 F2 H2 q2 e2 V3 => w1 y σ2 F2 H2 q2 e2 (V.unb V3)) (fun y σ2 F2 H2 q2 e2 V3 => w2 y σ2 F2 H2 q2 e2 (V.unb V3)) (fun y σ2 F2 H2 q2 e2 V3 => w3 y σ2 F2 H2 q2 e2 (V.unb V3)) (fun y v F2 H2 q2 A r => w4 y v F2 H2 q2 (A.unb (F0 := F) V) r)
/-! ### asked of the error -/
def rIsG (K : PySem.W.Frag) (cls : Value) (d : Option Addr) (a : Addr) : List V → Hp → VK → Prop := fun xs H Q => ∃ (D dd : Addr) (c : V) (cv : Value) (t : Bool) (fs : List (Str × V)), ExcC K D ∧ cls = .ref D ∧ d = some dd ∧ xs = [.ref a, c] ∧ (∀ u, RelV c u → u = cv) ∧ PySem.W.kitOne K (.ref D) cv = some t ∧ H dd = some (.xd fs) ∧ Q (.bl t) H
theorem call_isG {X : Cx} {a : Addr} {oe : Obj} {cls : Value} {d : Option Addr} {pn : List (Addr × Obj)} (hz : Zc cls d oe) (hf : ∃ vs, oe.data = .fields vs) : CallR (X.suite a ((a, oe) :: pn)) (.builtin "isinstance") (rIsG X.K cls d a) := by
  intro pins s σ H xs us Q I r h
  obtain ⟨D, dd, c, cv, t, fs, hC, ec, ed, e1, e2, e3, e4, q⟩ := h
  exact call_isX (dd := dd) hC hz hf pins s σ H xs us Q I r ⟨ec, ed, c, cv, t, fs, e1, e2, e3, e4, q⟩
theorem e_isx {te : TE} {f : (ε → Prop) → Prop} {a : Addr} {cls : Value} {d : Option Addr} {c : V} {cv : Value} {is : ε → Bool} (hX : XIs K x cv is) (hc : ∀ u, RelV c u → u = cv) (h : E b G te (rErr x a cls d) f) :
    E b G (tCB (rIsG K cls d a) (tCons te (tCons (tC c) tNil))) rBl (fun k => f fun e => k (is e)) := fun σ F H Q k V q w => by
  refine h _ V q ?_
  intro e v F1 H1 q1 A1 V1 ⟨hv, hx⟩
  subst hv
  obtain ⟨D, dd, fs, h1, h2, h3, h4, h5⟩ := hX e cls d F1 hx
  exact ⟨D, dd, c, cv, is e, fs, h1, h2, h3, rfl, hc, h5, V1.fh _ _ h4, w _ _ F1 H1 q1 A1 V1 rfl⟩
def tXfG (K : PySem.W.Frag) (a : Addr) (cls : Value) (d : Option Addr) (n : Str) (te : TE) : TE := fun σ H Q => te σ H fun u H1 => u = .ref a ∧ ∃ (D dd : Addr) (fs : List (Str × V)) (v : V), XfC K D ∧ PySem.W.findIn K (.ref D) n = some none ∧ cls = .ref D ∧ d = some dd ∧ H1 dd = some (.xd fs) ∧ fs.lookup n = some v ∧ Q v H1
theorem pe_xfG {X : Cx} {a : Addr} {oe : Obj} {cls : Value} {d : Option Addr} {pn : List (Addr × Obj)} {e : Expr} {te : TE} {pos : Pos} {n : Str}
    (hz : Zc cls d oe) (hf : ∃ vs, oe.data = .fields vs) (he : PE (X.suite a ((a, oe) :: pn)) e te) (hb : attributeBase e n X.env (eval e X.env) = eval e X.env := by rfl) :
    PE (X.suite a ((a, oe) :: pn)) (.Attribute e n pos) (tXfG X.K a cls d n te) := by
  refine ⟨fun pins s σ H Q I h => ?_⟩
  refine attr_of hb (thn (he.run pins s σ H _ I h) fun u s1 hh => ?_)
  obtain ⟨x, H1, I1, rx, ex, D, dd, fs, v, T, hno, ec, ed, ea, l, q⟩ := hh
  subst ex
  obtain rfl : u = Value.ref a := rx
  subst ec
  subst ed
  obtain ⟨ha, _⟩ := I1.pin (a, oe) (List.mem_append_left _ List.mem_cons_self)
  obtain ⟨vs, hd⟩ := hf
  have hx : ObjOk X.prog X.w H1 s1.heap dd (.xd fs) := I1.hok dd _ ea
  obtain ⟨mA, hns, hr⟩ := hx
  obtain ⟨od, ho, hl⟩ := lookIn_ns hns
  obtain ⟨u, hu, ru⟩ := RelO.some_of (v := v) (o := mA n) (by rw [← l]; exact hr n)
  have J : PySem.W.InstAt s1.heap a oe D (some od) := ⟨ha, hz.1, by unfold PySem.W.notCls; rw [hd] <;> rfl, by rw [hz.2]; exact ho⟩
  exact HandSPX.exc_get I1.kIn J T.ga T.gg T.exC (PySem.W.findObj_own T.hdC hno rfl (by rw [hl, hu])) (handed_of ru) ⟨v, H1, I1.tok _, ru, q⟩
theorem e_xf {te : TE} {f : (ε → Prop) → Prop} {a : Addr} {cls : Value} {d : Option Addr} {n : Str} {r : R β} {g : ε → Option β} (hX : XFd K x n r g) (h : E b G te (rErr x a cls d) f) :
    E b G (tXfG K a cls d n te) r (fun k => f fun e => ∃ y, g e = some y ∧ k y) := fun σ F H Q k V q w => by
  refine h _ V q ?_
  intro e v F1 H1 ⟨y, q0, q1⟩ A1 V1 ⟨hv, hx⟩
  subst hv
  obtain ⟨D, dd, fs, v, h1, h2, h3, h4, h5, h6, h7⟩ := hX e cls d F1 y hx q0
  exact ⟨rfl, D, dd, fs, v, h1, h2, h3, h4, V1.fh _ _ h5, h6, w y v F1 H1 q1 A1 V1 h7⟩
/-- such an expression's own rule is asked -/
theorem passN {X : Cx} : Passes (L2N.CX X.prog X.w) X (fun _ _ _ => False) := fun _ _ _ _ _ _ _ ⟨_, _, _, _, _, _, _, _, _, _, _, _, z⟩ => z.elim
/-! ### into a def that may let errors out -/
theorem run_X {s : RI α} {r : R β} {g : α → (β → Prop) → (ε → Prop) → Prop} {N : List Str} {m : Nat} {t : TS} {vs : List V} {Q : VK} {Ek : XK} {Gn : Bs → α → τ → List Sl} {f : α → (ε → Prop) → Pd τ Unit β → Prop} (h : spX s r x g vs H Q Ek) (hN : N.length = s.n + m)
    (hS : ∀ b a kx, b.M = [] → Out b (fun _ => True) x kx (fun cls d _ H => Ek cls d H) → S b (s.sl a ++ List.replicate m any) t (Gn b a) (fun _ : Unit => []) (fun y v F _ => r.h y v F) (f a kx)) (hg : ∀ a k kx, g a k kx → f a kx ⟨fun _ => False, fun _ => False, fun _ => False, k⟩) :
    t { nx := fun _ H' => Q .non H', rt := Q } (L2.start N vs) H := by
  obtain ⟨a, F, k, kx, e, hs, q, w, wx⟩ := h
  have hl := s.ln hs
  refine S.go (hS ⟨F, H, [], fun _ h => nomatch h⟩ a kx rfl (fun G e cls d σ F' H' _ q' V' hx => wx e cls d F' H' q' V'.after hx)) (L2.start N vs) F H _ ⟨fun _ => False, fun _ => False, fun _ => False, k⟩ ?_ (hg a k kx q) (fun _ _ _ _ h => h.elim) (fun _ _ _ _ h => h.elim) (fun _ _ _ _ h => h.elim) (fun y v F' H' hk A hr => w y v F' H' hk A hr)
  have ow : owns (s.sl a ++ List.replicate m any) = [] := by rw [owns_app, s.no, owns_any]; rfl
  refine ⟨Ex.refl _, e, fun _ _ _ h => h, fun _ h => h, fun _ h _ => h, ?_, by rw [ow]; exact List.nodup_nil, fun p hp => by rw [ow] at hp; nomatch hp⟩
  unfold L2.start
  have : N.length - vs.length = m := by omega
  rw [this]
  exact paired_app' (s.hs hs) holds_any
theorem run_XN {s : RI α} {g : α → (Unit → Prop) → (ε → Prop) → Prop} {N : List Str} {m : Nat} {t : TS} {vs : List V} {Q : VK} {Ek : XK} {Gn : Bs → α → τ → List Sl} {f : α → (ε → Prop) → Pd τ Unit Unit → Prop} (h : spX s rNon x g vs H Q Ek) (hN : N.length = s.n + m)
    (hS : ∀ b a kx, b.M = [] → Out b (fun _ => True) x kx (fun cls d _ H => Ek cls d H) → S b (s.sl a ++ List.replicate m any) t (Gn b a) (fun _ : Unit => []) (fun y v F _ => rNon.h y v F) (f a kx)) (hg : ∀ a k kx, g a k kx → f a kx ⟨fun _ => k (), fun _ => False, fun _ => False, k⟩) :
    t { nx := fun _ H' => Q .non H', rt := Q } (L2.start N vs) H := by
  obtain ⟨a, F, k, kx, e, hs, q, w, wx⟩ := h
  have hl := s.ln hs
  refine S.go (hS ⟨F, H, [], fun _ h => nomatch h⟩ a kx rfl (fun G e cls d σ F' H' _ q' V' hx => wx e cls d F' H' q' V'.after hx)) (L2.start N vs) F H _ ⟨fun _ => k (), fun _ => False, fun _ => False, k⟩ ?_ (hg a k kx q) (fun _ σ' F' H' hk _ V' => w () .non F' H' hk V'.after rfl) (fun _ _ _ _ h => h.elim) (fun _ _ _ _ h => h.elim) (fun y v F' H' hk A hr => w y v F' H' hk A hr)
  have ow : owns (s.sl a ++ List.replicate m any) = [] := by rw [owns_app, s.no, owns_any]; rfl
  refine ⟨Ex.refl _, e, fun _ _ _ h => h, fun _ h => h, fun _ h _ => h, ?_, by rw [ow]; exact List.nodup_nil, fun p hp => by rw [ow] at hp; nomatch hp⟩
  unfold L2.start
  have : N.length - vs.length = m := by omega
  rw [this]
  exact paired_app' (s.hs hs) holds_any
theorem run_RX {c : C γ} {s : RI α} {r : R β} {g : γ → α → (β → Prop) → (ε → Prop) → Prop} {N : List Str} {m : Nat} {t : TS} {vs : List V} {Q : VK} {Ek : XK} {Gn : Bs → Addr → γ → α → τ → List Sl} {f : γ → α → (ε → Prop) → Pd τ Unit β → Prop} (h : spRX c s r x g vs H Q Ek) (hN : N.length = s.n + 1 + m)
    (hS : ∀ b p y a kx, b.M = [p] → Out b (fun G => G[0]? = some (own p c y)) x kx (fun cls d _ H => Ek cls d H) → S b (own p c y :: (s.sl a ++ List.replicate m any)) t (Gn b p y a) (fun _ : Unit => []) (fun z v F H => CAt c y F H p ∧ r.h z v F) (f y a kx)) (hg : ∀ y a k kx, g y a k kx → f y a kx ⟨fun _ => False, fun _ => False, fun _ => False, k⟩) :
    t { nx := fun _ H' => Q .non H', rt := Q } (L2.start N vs) H := by
  obtain ⟨p, ws, y, a, F, k, kx, rfl, fp, ⟨u, hb, hbl⟩, e, hs, q, w, wx⟩ := h
  have hl := s.ln hs
  refine S.go (hS ⟨F, H, [p], fun q hq => by rw [List.mem_singleton.mp hq, hb]; exact fun z => nomatch z⟩ p y a kx rfl (fun G e cls d σ F' H' hi q' V' hx => wx e cls d F' H' q' V'.after (V'.cAt hi).2 hx)) (L2.start N (.ref p :: ws)) F H _ ⟨fun _ => False, fun _ => False, fun _ => False, k⟩ ?_ (hg y a k kx q) (fun _ _ _ _ h => h.elim) (fun _ _ _ _ h => h.elim) (fun _ _ _ _ h => h.elim) (fun z v F' H' hk A (hr : CAt c y F' H' p ∧ r.h z v F') => w z v F' H' hk A hr.1 hr.2)
  have ow : owns (own p c y :: (s.sl a ++ List.replicate m any)) = [p] := by
    show [p] ++ owns _ = _
    rw [owns_app, s.no, owns_any]; rfl
  refine ⟨Ex.refl _, e, fun _ _ _ h => h, fun _ h => h, fun _ h _ => h, ?_, by rw [ow]; simp, fun q hq => ?_⟩
  · unfold L2.start
    have : N.length - (V.ref p :: ws).length = m := by rw [List.length_cons]; omega
    rw [this]
    exact .cons (show _ ∧ _ from ⟨rfl, _, hb, hbl⟩) (paired_app' (s.hs hs) holds_any)
  · rw [ow] at hq
    cases List.mem_singleton.mp hq
    exact ⟨fp, .inl List.mem_cons_self⟩
theorem All.set {r : R α} {F : Hp} {a : α} {v : V} (h : r.h a v F) : ∀ {xs : List α} {vs : List V} {j : Nat}, All r F xs vs → All r F (xs.set j a) (vs.set j v)
  | _, _, _, .nil => .nil
  | _, _, 0, .cons _ t => .cons h t
  | _, _, j + 1, .cons q t => .cons q (All.set h t)
/-- xs[n] = a -/
theorem s_setL {i : Nat} {p : Addr} {te ti : TE} {r : R α} {xs : List α} {f : (α → Prop) → Prop} {g : (Int → Prop) → Prop} (hi : G[i]? = some (own p (cLst r) xs)) (h : E b G te r f) (h2 : E b G ti rInt g) :
    S b G (tAsg te (gSub (tVar i) ti rSetL)) (fun y : Nat × α => G.set i (own p (cLst r) (xs.set y.1 y.2))) Gl ro (fun d => f fun x => g fun n => ∃ j, ixN xs.length n = some j ∧ d.nx (j, x)) := fun σ F H D d V q w1 _ _ _ => by
  refine h _ V q ?_
  intro a v F1 H1 q1 A1 V1 r1
  obtain ⟨o, k1, rfl, u, k2, vs, rfl, k3⟩ := V1.hold.at_ hi
  refine ⟨.ref p, k1, ?_⟩
  refine h2 _ V1 q1 ?_
  rintro n w F2 H2 ⟨j, hj, q2⟩ A2 V2 e
  cases e
  obtain ⟨o, k1', e, u, k2, vs, rfl, k3⟩ := V2.hold.at_ hi
  refine ⟨p, vs, n, j, rfl, rfl, k2, by rw [k3.len]; exact hj, w1 (j, a) _ F2 _ q2 (A1.ff.trans A2.ff) (V2.cell hi ⟨_, rfl, All.set (r.ex A2.ff r1) k3⟩)⟩
/-! ### isinstance of what is known -/
structure Ty1 (K : PySem.W.Frag) (r : R α) (t : String) : Prop where
  of : ∀ {a : α} {v : V} {F H : Hp}, r.h a v F → Ex F H → TyX K H v (.type t)
theorem ty_int : Ty1 K rInt "int" := ⟨fun h _ => by cases h; exact .base (.int _)⟩
theorem ty_str : Ty1 K rStr "str" := ⟨fun h _ => by cases h; exact .base (.str _)⟩
theorem ty_bl : Ty1 K rBl "bool" := ⟨fun h _ => by cases h; exact .base (.bl _)⟩
theorem ty_lst {r : R α} : Ty1 K (rLst r) "list" := ⟨fun ⟨p, vs, h1, h2, _⟩ e => by subst h1; exact .base (.lst (e _ _ h2))⟩
theorem ty_sqt {p : Addr} {vs : List V} (h : SqT K F p vs) (e : Ex F H) : TyX K H (.ref p) (.type "tuple") := by
  rcases _root_.Evl.ex_t e h with (h | ⟨o, h⟩) | ⟨o, its, n, h1, h2, _⟩
  · exact .base (.tup h)
  · exact .fTuple h
  · exact .kTuple h1 h2
theorem ty_tup {r : R α} : Ty1 K (rTup K r) "tuple" := ⟨fun ⟨p, vs, h1, h2, _⟩ e => by subst h1; exact ty_sqt h2 e⟩
theorem ty_tp {s : RI α} : Ty1 K (rTp K s) "tuple" := ⟨fun ⟨p, vs, h1, h2, _⟩ e => by subst h1; exact ty_sqt h2 e⟩
theorem e_isi {te : TE} {r : R α} {f : (α → Prop) → Prop} {t c : String} {res : Bool} (T : Ty1 K r t) (hk : kitB t c = some res) (h : E b G te r f) : E b G (tCB (rIsi K) (tCons te (tCons (tC (.ty c)) tNil))) rBl (fun k => f fun _ => k res) := fun _ _ _ _ k V q w => by
  refine h _ V q ?_
  intro x v F1 H1 q1 A1 V1 r1
  exact ⟨_, _, _, _, res, rfl, .ty _, T.of r1 V1.fh, kit_ty hk, w _ _ F1 H1 q1 A1 V1 rfl⟩
end
end Mi
/-! Mir10 -/
set_option Elab.async false
set_option linter.all false
set_option maxRecDepth 100000
set_option maxHeartbeats 4000000
/-! records that grow; an operator of two things of one own class -/
namespace Mi
open PySem PySem.Spec L2 Dh
open _root_.Evl (Ex)
section
variable {K : PySem.W.Frag} {b : Bs} {G : List Sl} {α β γ δ τ ρ ε : Type} {Gn : τ → List Sl} {Gl : ε → List Sl} {ro : ρ → V → Hp → Hp → Prop} {σ : L2.St} {F H F' H' : Hp}
def cRec (s : RK α) : C α := ⟨fun a u F => ∃ kvs, u = .dK kvs ∧ s.h a kvs F, fun e ⟨kvs, h1, h2⟩ => ⟨kvs, h1, s.ex e h2⟩⟩
theorem frz_rec {s : RK α} {a : α} : ∀ {p : Addr} (u : HO) (F : Hp), (cRec s).h a u F → F p = some u → (rRec s).h a (.ref p) F := fun u F ⟨kvs, h1, h2⟩ h => ⟨_, kvs, rfl, h1 ▸ h, h2⟩
/-- s with n behind it is s' -/
def Sn (s : RK α) (s' : RK δ) (n : Str) (r : R γ) (g : α → γ → δ) : Prop := n ∉ s.ks ∧ s.ks.length < 15 ∧ ∀ a x kvs v F, s.h a kvs F → r.h x v F → s'.h (g a x) (kvs ++ [(Sum.inr n, v)]) F
theorem sn_one {m n : Str} {q : R α} {r : R γ} (ne : (n == m) = false) : Sn (kOne m q) (kCons m q (kOne n r)) n r (fun a x => (a, x)) :=
  ⟨fun z => (by rw [List.mem_singleton.mp z, beq_self_eq_true] at ne; cases ne), (by show 1 < 15; decide), fun a x kvs v F ⟨w, e, h⟩ hr => ⟨w, [(Sum.inr n, v)], by rw [e]; rfl, h, v, rfl, hr⟩⟩
theorem sn_cons {m n : Str} {q : R β} {s : RK α} {s' : RK δ} {r : R γ} {g : α → γ → δ} (ne : (n == m) = false) (h : Sn s s' n r g) (hl : s.ks.length < 14) : Sn (kCons m q s) (kCons m q s') n r (fun a x => (a.1, g a.2 x)) :=
  ⟨fun z => (List.mem_cons.mp z).elim (fun z => by rw [z, beq_self_eq_true] at ne; cases ne) h.1, (by show s.ks.length + 1 < 15; omega), fun a x kvs v F ⟨w, ws, e, h1, h2⟩ hr => ⟨w, ws ++ [(Sum.inr n, v)], by rw [e]; rfl, h1, h.2.2 _ _ _ _ _ h2 hr⟩⟩
theorem Env.cellT {c : C γ} {c' : C δ} {i : Nat} {p : Addr} {a : γ} {a' : δ} {u : HO} (V : Env b G σ F H) (hi : G[i]? = some (own p c a)) (h' : c'.h a' u F) : Env b (G.set i (own p c' a')) σ F (upd H p u) :=
  V.cNew hi ⟨Ex.refl _, ex_mut (V.on p (mem_owns hi List.mem_cons_self)).1 V.fh, fun x o hm hx => by rw [upd_ne (fun z => hm (by rw [z]; exact List.mem_cons_self))]; exact hx, fun x hx => by
    by_cases z : x = p
    · subst z; rw [upd_same]; exact fun z => nomatch z
    · rw [upd_ne z]; exact hx, fun _ h _ => h⟩ ⟨u, upd_same, h'⟩
/-- xs.extend(ys) -/
theorem s_ext {i : Nat} {p : Addr} {te : TE} {r : R α} {xs : List α} {f : (List α → Prop) → Prop} (hi : G[i]? = some (own p (cLst r) xs)) (h : E b G te (rLst r) f) :
    S b G (tDrop (tBM K "list" rExtend (tVar i) (tCons te tNil))) (fun ys : List α => G.set i (own p (cLst r) (xs ++ ys))) Gl ro (fun d => f fun ys => xs.length + ys.length ≤ sizeLine ∧ d.nx ys) := fun σ F H D d V q w1 _ _ _ => by
  obtain ⟨o, h1, rfl, u, h2, vs, rfl, h3⟩ := V.hold.at_ hi
  refine ⟨.ref p, h1, ty_l h2, ?_⟩
  refine h _ V q ?_
  rintro ys v F1 H1 q1 A1 V1 ⟨y, ws, rfl, hy, r1⟩
  obtain ⟨o, h1', e, u, h2, vs, rfl, h3⟩ := V1.hold.at_ hi
  rw [h1] at h1'; cases h1'
  refine ⟨p, y, vs, ws, rfl, rfl, h2, V1.fh _ _ hy, by rw [h3.len, r1.len]; exact q1.1, w1 ys _ F1 _ q1.2 A1.ff ?_⟩
  exact V1.cellT hi ⟨_, rfl, Dh.paired_app h3 r1⟩
/-- d[..] = e, a new written key -/
theorem s_rput {i : Nat} {p : Addr} {tv : TE} {s : RK α} {s' : RK δ} {n : Str} {r : R γ} {g : α → γ → δ} {a : α} {f : (γ → Prop) → Prop} (S1 : Sn s s' n r g) (hi : G[i]? = some (own p (cRec s) a)) (hv : E b G tv r f) :
    S b G (sDPut (tVar i) (tC (.str n)) tv) (fun y : γ => G.set i (own p (cRec s') (g a y))) Gl ro (fun d => f d.nx) := fun σ F H D d V q w1 _ _ _ => by
  refine hv _ V q ?_
  intro x v F1 H1 q1 A1 V1 r1
  obtain ⟨o, h1, rfl, u, h2, kvs, rfl, h3⟩ := V1.hold.at_ hi
  refine ⟨.ref p, h1, p, _, rfl, DPut.k (k := Sum.inr n) h2 ?_, w1 x _ F1 _ q1 A1.ff (V1.cellT hi ⟨_, rfl, ?_⟩)⟩
  · have := congrArg List.length (s.kk h3)
    rw [List.length_map, List.length_map] at this
    have := S1.2.1
    exact Nat.lt_of_lt_of_le (show kvs.length < 15 by omega) (by decide)
  · unfold putK
    rw [if_neg]
    · exact S1.2.2 _ _ _ _ _ h3 r1
    · intro z
      obtain ⟨y, hy, e⟩ := List.any_eq_true.mp z
      have hk := s.kk h3
      have : y.1 ∈ kvs.map (·.1) := List.mem_map_of_mem hy
      rw [hk] at this
      obtain ⟨m, hm, e2⟩ := List.mem_map.mp this
      rw [of_decide_eq_true e] at e2
      cases e2
      exact S1.1 hm
theorem enc_disp {s : RK α} {ts : List (TE × TE)} {f : (α → Prop) → Prop} (h : Prs b G ts s f) (nd : s.ks.Nodup) (l : s.ks.length ≤ 15) : ENc b G (tDisp ts) (cRec s) f := fun σ F H Q k V q w p hp => by
  have B := After.fresh (o := .dK []) V.fh hp []
  have V1 := V.step B
  have nO : p ∉ owns G := fun z => V.hold.live p z hp
  have fp : F p = none := ex_none V.fh hp
  refine h _ V1 q ?_
  rintro a ps F2 H2 q2 A2 V2 ⟨kvs, rfl, hs⟩
  have hp2 : H2 p = some (.dK []) := A2.hh p _ nO upd_same
  have fp2 : F2 p = none := A2.nf p fp (by rw [upd_same]; exact fun z => nomatch z)
  have hb : b.H p = none := by
    cases e : b.H p with
    | none => rfl
    | some u => exact absurd hp (V.kp p (by rw [e]; exact fun z => nomatch z))
  have V3 : Env b G σ F2 (upd H2 p (.dK kvs)) := V2.poke nO fp2 hb
  have A3 : After F H (owns G) F2 (upd H2 p (.dK kvs)) := by
    have A' := (B.mono (M' := owns G) fun _ h => nomatch h).trans A2
    have n1 : ∀ {x : Addr}, H x ≠ none → x ≠ p := fun h z => h (by rw [z]; exact hp)
    exact ⟨A'.ff, ex_mut fp2 A'.fh, fun x o hm hx => by rw [upd_ne (n1 (by rw [hx]; exact fun z => nomatch z))]; exact A'.hh x o hm hx, fun x hx => by rw [upd_ne (n1 hx)]; exact A'.kp x hx, A'.nf⟩
  have e : mergeK [] kvs = kvs := by
    rw [merge_new (by rw [s.kk hs]; exact nodup_inr nd) (fun _ _ q hq => absurd hq (by simp))]; rfl
  have ln : kvs.length ≤ 15 := by
    have := congrArg List.length (s.kk hs)
    rw [List.length_map, List.length_map] at this
    omega
  refine ⟨hp2, kvs, rfl, ln, ?_⟩
  rw [e]
  exact w a p _ F2 _ q2 A3 V3 hp fp2 upd_same ⟨kvs, rfl, hs⟩
end
end Mi
namespace Dh
open PySem PySem.Spec L2
section
variable {prog : Program} {w : World} {A : Around} {E : Value → Shared → Prop} {s : Shared} {K : PySem.W.Frag} {x y C L f : Addr} {h₀ : Heap} {m : Str → Option Value} {ox oy : Obj} {od odd : Option Obj}
/-- a op b, both of one own class that has the operator -/
theorem bin_same {op : Operator} {Q : Value → Shared → Prop} (Fr0 : PyProof.Rows.Fr h₀ L s.heap m) (X₀ : K.In h₀) (I : PySem.W.InstAt s.heap x ox C od) (J : PySem.W.InstAt s.heap y oy C odd) (hc : PySem.W.selfFirst K C = true)
    (hs : PySem.W.findIn K (.ref C) (PySem.dunder op.info.2) = some (some (.ref f))) (hf : PySem.W.isFn K (.ref f) = true)
    (h : wpAny (model prog w) A (call (.ref f) [.ref x, .ref y]) (PySem.W.CmpBack Q) E s) : wpAny (model prog w) A (binaryOp op (.ref x) (.ref y)) Q E s := by
  have X := X₀.keeps Fr0.keep
  obtain ⟨cd, rest, hcd, hm⟩ := PySem.W.ksp_first hc
  rcases hi : op.info with ⟨sym, nm'⟩
  rw [hi] at hs
  dsimp only at hs
  have one := PySem.W.ksp_try X I hs hf h
  obtain ⟨hh, g, d, tt, os⟩ := s
  have L1 : PySem.W.Looks (model prog w) hh (typeOf (.ref x)) (.ref C) := I.type
  have L2 : PySem.W.Looks (model prog w) hh (typeOf (.ref y)) (.ref C) := J.type
  have L3 : PySem.W.Looks (model prog w) hh (fillsNumberSlot (.ref C) nm') true := PySem.W.fills_K X hcd hm hs
  simp only [binaryOp, hi]
  refine wpAny_holding (wpAny_bind ?_)
  unfold binaryOp1
  refine wpAny_bind (L1.at (wpAny_bind (L2.at (wpAny_bind (L3.at ?_)))))
  simp only [beq_self_eq_true, if_true]
  ksp_lk
  refine wpAny_mono one (fun r s' hr' => ?_) fun _ _ e => e
  obtain ⟨v, rfl, hq⟩ := hr'
  ksp_lk
  exact hq
end
section
variable {X : Cx} {CX : CXT} {k : Nat} {f C : Addr} {fd : FuncData} {ps : List Str} {sp : Sp} {E : XK}
def rOwnS (C : Addr) (sp : Sp) (E : XK) : R2 := fun x y H Q => ∃ a dx fs c dy gs, x = .ref a ∧ y = .ref c ∧ H a = some (.ins C dx fs) ∧ H c = some (.ins C dy gs) ∧ sp [x, y] H Q E
theorem op_ownS {op : Operator} (F : FnOk X.prog X.w X.K X.mg X.base CX k f fd ps sp) (hr : Room k X.A) (hc : PySem.W.selfFirst X.K C = true)
    (hs : PySem.W.findIn X.K (.ref C) (PySem.dunder op.info.2) = some (some (.ref f))) (hf : PySem.W.isFn X.K (.ref f) = true) (hb : Binds X.K fd ps []) (hx : Passes CX X E) : OpR X (binaryOp op) (rOwnS C sp E) := by
  intro pins s σ H x y v u Q I rx ry h
  obtain ⟨a, dx, fs, c, dy, gs, rfl, rfl, ha, hy, hsp⟩ := h
  obtain rfl : v = Value.ref a := rx
  obtain rfl : u = Value.ref c := ry
  obtain ⟨mA, J, _⟩ := ins_get I.hok ha
  obtain ⟨od, J, _⟩ := J.look
  obtain ⟨mB, J2, _⟩ := ins_get I.hok hy
  obtain ⟨od2, J2, _⟩ := J2.look
  obtain ⟨m, hF⟩ := I.fr
  refine bin_same hF I.ok.mod.kin J J2 hc hs hf ?_
  refine wpAny_mono (run_fn (us := [.ref a, .ref c]) (ds := []) (dvs := []) F hr hb .nil hx I (.cons (show RelV (.ref a) (.ref a) from rfl) (.cons (show RelV (.ref c) (.ref c) from rfl) .nil)) (by simpa using hsp)) (fun u s' q => cmpBack_of q) fun _ _ e => e
end
end Dh
/-! Gd -/
set_option Elab.async false
set_option linter.all false
set_option maxRecDepth 100000
set_option maxHeartbeats 4000000
/-! defs that are called where nothing is being shown (repr): repr of data -/
namespace L2
open PySem PySem.Spec PyProof.Rows
section
variable {P : Program} {w : World} {K : PySem.W.Frag} {mg : Str → Option Value} {base : Heap} {CF : CXT} {k : Nat} {f : Addr} {fd : FuncData} {ps : List Str} {sp : Sp}
/-- as FnOk, where no repr is under way -/
structure FnG (P : Program) (w : World) (K : PySem.W.Frag) (mg : Str → Option Value) (base : Heap) (CF : CXT) (k : Nat) (f : Addr) (fd : FuncData) (ps : List Str) (sp : Sp) : Prop where
  len : ∀ vs H Q E, sp vs H Q E → vs.length = ps.length
  run : ∀ (A : Around) (out : List Env) (s : Shared) (H : Hp) (args : Args) (us : List Value) (vs : List V) (Q : VK) (E : XK), A.guards = some [] → Room k A → Env0 P w K mg base A out s H → BindsTo s fd args (ps.zip us) → Vals vs us → sp vs H Q E →
    codeAny (model P w) A (.call (.ref f) args) (CR CF out P w H s Q E) s
theorem FnG.imp {sp' : Sp} (F : FnG P w K mg base CF k f fd ps sp) (h : ∀ vs H Q E, sp' vs H Q E → sp vs H Q E) : FnG P w K mg base CF k f fd ps sp' :=
  ⟨fun _ _ _ _ q => F.len _ _ _ _ (h _ _ _ _ q), fun A o s H ar us vs Q E g r e b v q => F.run A o s H ar us vs Q E g r e b v (h _ _ _ _ q)⟩
theorem okG {x qual : Str} {st : Stmt} {N : List Str} (F : Fun K x qual st f fd) (S : FnScope N ps (defScope st)) (len : ∀ vs H Q E, sp vs H Q E → vs.length = ps.length)
    (body : ∀ (cv : Value) (A : Around) (out : List Env) (s : Shared) (H : Hp) (vs : List V) (Q : VK) (E : XK), A.guards = some [] → Room k (A.deeper (envOfC qual (defScope st) s.heap.objs.size f cv)) → sp vs H Q E →
      ∃ t, PSs (cxOf CX0 P w K mg base N qual (defScope st) f cv A out s H E).nox (defBody st) t ∧ t { nx := fun _ H' => Q .non H', rt := Q } (start N vs) H) : FnG P w K mg base CX0 (k + 1) f fd ps sp := by
  obtain ⟨_, _, _, _, _, _, cv, _, _, rfl, lk, hcd⟩ := F.ex
  refine ⟨len, fun A out s H args us vs Q E gd hr ev bt rel hsp => ?_⟩
  have same := fun b o e => (ev.bs b o e).1
  have kin : K.In s.heap := ev.mod.kin.keeps same
  have kinds : ∀ y ∈ ps.zip us, (defScope st).names.lookup y.1 = some .local ∨ ((defScope st).names.lookup y.1 = some .cell ∧ ((cellsFrom (s.heap.objs.size + 1) (defScope st).names []).lookup y.1).isSome = true) := fun y hy =>
    (S.par y.1 (List.of_mem_zip hy).1).imp id fun c => ⟨c, PySem.W.cellsFrom_some _ _ _ (.inl c)⟩
  refine codeAny_call_function hr.depth (kin _ _ lk) rfl S.co S.gen rfl (PySem.W.codeRec_of kin hcd) (bt _ _ _ _ (wpAny_newFunctionEnv_cells S.kind kinds fun env he s1 xx => ?_))
  subst he
  obtain ⟨t, ht, hq⟩ := body cv A out s H vs Q E gd (hr.deeper _) hsp
  refine ⟨(ev.mod.nolimit.keeps same).keeps xx.toInCall.keep, codeAny_func (wpAny_mono (ht.nox.run [] s1 (start N vs) H _ (inv_start S hr.hd ev (len _ _ _ _ hsp) rel xx) hq) (fun fl s' hs => ?_) fun _ _ z => z)⟩
  cases fl with
  | next =>
    obtain ⟨_, H', J, q⟩ := hs
    exact ⟨V.non, H', J.os, J.bare, J.base, J.hok, (rfl : RelV V.non Value.none), q⟩
  | ret u =>
    obtain ⟨v, _, H', J, rv, q⟩ := hs
    exact ⟨v, H', J.os, J.bare, J.base, J.hok, rv, q⟩
  | brk => exact hs.elim fun _ z => z.elim fun _ z => z.2.elim
  | cont => exact hs.elim fun _ z => z.elim fun _ z => z.2.elim
end
section
variable {X : Cx} {CF : CXT} {k : Nat} {f : Addr} {fd : FuncData} {ps : List Str} {sp : Sp} {E : XK} {x : Str} {p pos : Pos} {e : Expr} {es : List Expr} {t : TA}
theorem run_fnG {pins : List (Addr × Obj)} {σ : St} {H : Hp} {s : Shared} {Q : VK} {us : List Value} {vs : List V} (gd : X.A.guards = some []) (F : FnG X.prog X.w X.K X.mg X.base CF k f fd ps sp) (hr : Room k X.A) (hb : Binds X.K fd ps []) (hx : Passes CF X E)
    (I : Inv X pins σ H s) (r : Vals vs us) (h : sp vs H Q E) : wpAny (model X.prog X.w) X.A (call (.ref f) us) (EP X pins σ Q) X.xe s := by
  have b := hb s us I.kIn (by rw [List.append_nil, ← r.length]; exact F.len _ _ _ _ h)
  rw [List.append_nil] at b
  refine wpAny_call (codeAny_mono (F.run X.A X.stack s H ⟨us, []⟩ us vs Q E gd hr I.env0 b r h) fun z s' hq => ?_)
  cases z with
  | error e => exact hx pins σ H s e s' I hq
  | ok fl =>
    cases fl with
    | ret u => exact I.after hq
    | next => exact False.elim hq
    | brk => exact False.elim hq
    | cont => exact False.elim hq
theorem pe_callG (gd : X.A.guards = some []) (F : FnG X.prog X.w X.K X.mg X.base CF k f fd ps sp) (hr : Room k X.A) (hg : Gl X x) (hm : X.mg x = some (.ref f)) (hk : PySem.W.keepIn X.K (.ref f) = true) (hb : Binds X.K fd ps []) (hx : Passes CF X E)
    (ha : PA X (e :: es) t) (hdb : (x == ("__debug__" : Str)) = false := by decide) (he : starEach (e :: es) X.env = (false, eval e X.env) :: starEach es X.env := by rfl) (hpl : (backTo pos (starEach es X.env)).any (·.1) = false := by rfl) :
    PE X (.Call (.Name x p) (e :: es) [] pos) (tCall sp [] E t) := ⟨fun pins s σ H Q I h =>
  wpAny_Call_Name_kw (ld_glob I hg hm (PySem.W.callWith_K (h₀ := X.base) I.ok.mod.kin hk (thn (ha.run pos pins s σ H _ I h) fun us s1 ⟨vs, H1, I1, r, q⟩ => ⟨I1.kIn, run_fnG gd F hr hb hx I1 r (by simpa using q)⟩) he hpl) hdb)⟩
/-- repr of a list or a tuple of data -/
def rRepr (K : PySem.W.Frag) : List V → Hp → VK → Prop := fun xs H Q => ∃ (a : Addr) (d : PyData), xs = [.ref a] ∧ Dp K H (.ref a) d ∧ d.showable = true ∧ d.hasDict = false ∧ d.depth ≤ 40 ∧ d.shown.length ≤ sizeLine ∧ Q (.str d.shown) H
theorem call_reprD (gd : X.A.guards = some []) (hu : X.A.units + 100 < cLine) : CallR X (.builtin "repr") (rRepr X.K) := by
  intro pins s σ H xs us Q I r h
  obtain ⟨a, d, rfl, dp, sh, nd, dl, sz, q⟩ := h
  obtain rfl := Vals.ref1 r
  obtain ⟨as, rd⟩ := Dp.reads I d (.ref a) (.ref a) dp rfl
  refine repr_of_reads' rd sh (fun z => by rw [nd] at z; cases z) gd (by omega) (fun _ _ e => e) (fun h' u tk hk => ?_) sz
  exact ⟨.str d.shown, H, I.kept hk, ⟨u, rfl⟩, q⟩
end
end L2
/-! Gd2 -/
set_option Elab.async false
set_option linter.all false
set_option maxRecDepth 100000
set_option maxHeartbeats 4000000
/-! the law's call, where its def is an FnG -/
namespace L2
open PySem PySem.Spec PyProof.Rows
section
variable {P : Program} {w : World} {K : PySem.W.Frag} {mg mb : Str → Option Value} {CF : CXT} {k : Nat} {fa a : Addr} {fd : FuncData} {x : Str} {sp : Sp} {s₁ : Shared} {vs : List Value} {ns : List Int}
/-- .. from a heap H in which at most the script stands -/
theorem lawG_at {H : Hp} (KX : K.In s₁.heap) (hns : s₁.heap.Ns mainGlobals mg) (hb : s₁.heap.Ns builtinsNs mb) (hbb : ∀ x : Str, x ≠ "__name__" → mb x = bootBuiltins x) (hlim : s₁.heap.NoLimit) (hg : s₁.gens = #[])
    (ha : s₁.heap.get? a = some { cls := .type "list", data := .seq vs.toArray }) (hr : Room k callerA)
    (F : ∀ base : Heap, K.In base → base.Ns mainGlobals mg → FnG P w K mg base CF k fa fd [x] sp) (hbind : ∀ (s : Shared) (u : Value), BindsTo s fd ⟨[u], []⟩ [(x, u)])
    (hsp : sp [.ref a] H (fun v _ => v = .bl true) fun _ _ _ => False) (hCX : ∀ e s', CF [] H s₁ (fun _ _ _ => False) e s' → False)
    (only : Only H) (hok : HOk P w H s₁.heap) (one : ∀ b, H b ≠ none → b = a) (lk : H a ≠ none → K.lookup a = none) :
    codeAny (model P w) callerA (.call (.ref fa) ⟨[.ref a], []⟩) (fun r s' => r = .ok (.ret (.bool true)) ∧ OldK s₁.heap s'.heap ∧ s'.os = s₁.os ∧ AllBare s'.gens) s₁ := by
  have vis : ∀ {b : Addr} {o : Obj}, s₁.heap.get? b = some o → H b = none → (hidT s₁.heap H).get? b = some o := fun e n => hidT_get e n
  have dictNo : ∀ {b : Addr} {o : Obj} {es : Array DictEntry} {ep : Nat}, s₁.heap.get? b = some o → o.data = .dict es ep → H b = none := fun {b o es ep} e d => Classical.byContradiction fun z => by
    rw [one b z, ha] at e
    cases e
    exact absurd (show Data.seq vs.toArray _ = Data.dict es ep from d) (fun y => by cases y)
  have ns2 : ∀ {b : Addr} {m : Str → Option Value}, s₁.heap.Ns b m → (hidT s₁.heap H).Ns b m := fun ⟨o, es, ep, e, d, r⟩ => ⟨o, es, ep, vis e (dictNo e d), d, r⟩
  have kb : K.In (hidT s₁.heap H) := fun b o e => vis (KX b o e) (Classical.byContradiction fun z => by
    have q := one b z
    subst q
    rw [lk z] at e; cases e)
  obtain ⟨mc, m1, m2⟩ := hlim
  have md : Mod K mg (hidT s₁.heap H) := ⟨kb, ns2 hns, ⟨mb, ns2 hb, hbb⟩, mc, ns2 m1, m2⟩
  have ev : Env0 P w K mg (hidT s₁.heap H) callerA [] s₁ H := ⟨rfl, md, fun _ _ z => of_hidT z, Nat.le_of_eq (hidT_size _ _), trivial, fun b z => (by nomatch z), hok, .of_eq hg⟩
  refine codeAny_mono ((F _ kb (ns2 hns)).run callerA [] s₁ H ⟨[.ref a], []⟩ [.ref a] [.ref a] _ _ rfl hr ev (hbind s₁ (.ref a)) (.cons rfl .nil) hsp) fun r s' h => ?_
  cases r with
  | error e => exact (hCX e s' h).elim
  | ok fl =>
    cases fl with
    | ret u =>
      obtain ⟨v, H', os, bare, un, hok', rv, (e : v = .bl true)⟩ := h
      subst e
      cases (show u = Value.bool true from rv)
      refine ⟨rfl, OldK.of_keep fun b o e => ?_, os, bare⟩
      cases q : H b with
      | none => exact un.keep b o e q (fun z => (by nomatch z)) (by simp)
      | some y =>
        rcases only b with z | ⟨ob, xs, z⟩
        · rw [q] at z; cases z
        · have g1 := (hok b _ z).1
          have g2 := (hok' b _ (un.frzs b ob _ z)).1
          rw [e] at g1; cases g1
          exact g2
    | next => exact False.elim h
    | brk => exact False.elim h
    | cont => exact False.elim h
theorem lawG_call (KX : K.In s₁.heap) (hns : s₁.heap.Ns mainGlobals mg) (hb : s₁.heap.Ns builtinsNs mb) (hbb : ∀ x : Str, x ≠ "__name__" → mb x = bootBuiltins x) (hlim : s₁.heap.NoLimit) (hg : s₁.gens = #[])
    (ha : s₁.heap.get? a = some { cls := .type "list", data := .seq vs.toArray }) (hi : IntsAre vs ns) (hl : ns.length ≤ sizeLine) (hr : Room k callerA)
    (F : ∀ base : Heap, K.In base → base.Ns mainGlobals mg → FnG P w K mg base CF k fa fd [x] sp) (hbind : ∀ (s : Shared) (u : Value), BindsTo s fd ⟨[u], []⟩ [(x, u)])
    (hsp : ∀ H : Hp, Only H → SqL K H a (ns.map V.int) → sp [.ref a] H (fun v _ => v = .bl true) fun _ _ _ => False) (hCX : ∀ H e s', CF [] H s₁ (fun _ _ _ => False) e s' → False) :
    codeAny (model P w) callerA (.call (.ref fa) ⟨[.ref a], []⟩) (fun r s' => r = .ok (.ret (.bool true)) ∧ OldK s₁.heap s'.heap ∧ s'.os = s₁.os ∧ AllBare s'.gens) s₁ := by
  have rel := vals_ints hi
  have len := hi.length
  cases hk : K.lookup a with
  | some o =>
    have e := (KX a o hk).symm.trans ha
    cases e
    have O : Only (fun _ => none) := fun _ => .inl rfl
    refine lawG_at (H := fun _ => none) KX hns hb hbb hlim hg ha hr F hbind (hsp _ O (.inr ⟨_, vs.toArray, _, hk, rfl, rfl, rfl, by rw [List.size_toArray, len]; exact hl, by simpa using rel⟩)) (hCX _) O (fun b u z => (by cases z)) (fun b z => absurd rfl z) fun z => absurd rfl z
  | none =>
    have h1 : ∀ b, b ≠ a → (if b = a then some (HO.frz { cls := .type "list", data := .seq vs.toArray } (.lst (ns.map V.int))) else none) = none := fun b n => if_neg n
    have h2 : (if a = a then some (HO.frz { cls := .type "list", data := .seq vs.toArray } (.lst (ns.map V.int))) else none) = some (HO.frz { cls := .type "list", data := .seq vs.toArray } (.lst (ns.map V.int))) := if_pos rfl
    generalize hH : (fun b : Addr => if b = a then some (HO.frz { cls := .type "list", data := .seq vs.toArray } (.lst (ns.map V.int))) else none) = H
    have n1 : ∀ b, b ≠ a → H b = none := fun b n => by rw [← hH]; exact h1 b n
    have n2 : H a = some (.frz { cls := .type "list", data := .seq vs.toArray } (.lst (ns.map V.int))) := by rw [← hH]; exact h2
    have O : Only H := fun b => by
      by_cases z : b = a
      · exact .inr ⟨_, _, z ▸ n2⟩
      · exact .inl (n1 b z)
    refine lawG_at (H := H) KX hns hb hbb hlim hg ha hr F hbind (hsp _ O (.inl (.inr ⟨_, n2⟩))) (hCX _) O (fun b u z => ?_) (fun b z => Classical.byContradiction fun y => z (n1 b y)) fun _ => hk
    by_cases y : b = a
    · subst y
      rw [n2] at z; cases z
      exact ⟨ha, by rw [List.length_map]; exact hl, vs, _, rel, ha⟩
    · rw [n1 b y] at z; cases z
end
theorem walk_ofG {l : PySem.W.OpenLaw} {n k : Nat} {q : Program} {loose : List Str} {XP : (Str → Option Value) → Heap → Prop} {YP : World → Heap → Prop} {d : DefRec} {K : Params → PySem.W.Frag} {CF : World → CXT} {sp : World → Sp} {x : Str}
    (hn : l.most = some n) (hn2 : n ≤ sizeLine) (hdf : d.params.defaults = []) (hr : Room k callerA) (hY : ∀ (w : World) (h : Heap), YP w h → (K w.params).In h)
    (F : ∀ (w : World) (mg : Str → Option Value) (fa : Addr) (h : Heap), (K w.params).In h → h.Ns mainGlobals mg → mg d.name = some (.ref fa) → ∃ fd : FuncData, (∀ (s : Shared) (u : Value), BindsTo s fd ⟨[u], []⟩ [(x, u)]) ∧
      ∀ base : Heap, (K w.params).In base → base.Ns mainGlobals mg → FnG l.prog w (K w.params) mg base (CF w) k fa fd [x] (sp w))
    (hsp : ∀ (w : World) (H : Hp) (a : Addr) (ns : List Int), ns.length ≤ n → Only H → SqL (K w.params) H a (ns.map V.int) → sp w [.ref a] H (fun v _ => v = .bl true) fun _ _ _ => False)
    (hCX : ∀ (w : World) (H : Hp) (s : Shared) (e : Value) (s' : Shared), CF w [] H s (fun _ _ _ => False) e s' → False) : PySem.W.WalkO q loose XP YP l.row.toRowW d [] (fun f vs => PySem.call f vs) :=
  Att.attach_call hn hdf fun w s₀ s₁ mg mb fa o pm cd doc a vs ns G Y ho hd hcd hmg hobj hints hlen hg =>
    let ⟨fd, hb, hF⟩ := F w mg fa _ (hY w _ Y) G.T.g hmg
    lawG_call (hY w _ Y) G.T.g G.T.b G.T.builtins G.T.nolimit hg hobj hints (Nat.le_trans hlen hn2) hr hF hb (fun H hO hS => hsp w H a ns hlen hO hS) fun H e s' => hCX w H s₁ e s'
end L2
/-! Mir11 -/
set_option Elab.async false
set_option linter.all false
set_option maxRecDepth 100000
set_option maxHeartbeats 4000000
/-! new things out of a def, repr, [x] * n -/
namespace Mi
open PySem PySem.Spec L2 Dh
open _root_.Evl (Ex)
section
variable {K : PySem.W.Frag} {b : Bs} {G : List Sl} {α β γ δ τ τ' ρ ε : Type} {Gn : τ → List Sl} {Gl : ε → List Sl} {ro : ρ → V → Hp → Hp → Prop} {σ : L2.St} {F H F' H' : Hp}
theorem un100 {A : Around} {k : Nat} (hr : Room k A) : A.units + 100 < cLine := by have := hr.un; omega
/-! ### a def whose answer is a new own thing -/
def spN (s : RI α) (c : C β) (g : α → (β → Prop) → Prop) : Sp := fun vs H Q _ => ∃ (x : α) (F : Hp) (k : β → Prop), Ex F H ∧ s.h x vs F ∧ g x k ∧ ∀ y p u F' H', k y → After F H [] F' H' → H p = none → F' p = none → H' p = some u → c.h y u F' → Q (.ref p) H'
theorem spN_len {s : RI α} {c : C β} {g : α → (β → Prop) → Prop} {vs : List V} {Q : VK} {Ek : XK} (h : spN s c g vs H Q Ek) : vs.length = s.n := by
  obtain ⟨a, F, k, _, hs, _⟩ := h; exact s.ln hs
/-- what such a def gives -/
def RN (b : Bs) (c : C β) (y : β) (v : V) (F H : Hp) : Prop := ∃ p u, v = .ref p ∧ b.H p = none ∧ F p = none ∧ H p = some u ∧ c.h y u F
theorem run_N {s : RI α} {c : C β} {g : α → (β → Prop) → Prop} {N : List Str} {m : Nat} {t : TS} {vs : List V} {Q : VK} {Ek : XK} {Gn : Bs → α → τ → List Sl} {f : α → Pd τ Unit β → Prop} (h : spN s c g vs H Q Ek) (hN : N.length = s.n + m)
    (hS : ∀ b x, b.M = [] → S b (s.sl x ++ List.replicate m any) t (Gn b x) (fun _ : Unit => []) (RN b c) (f x)) (hg : ∀ x k, g x k → f x ⟨fun _ => False, fun _ => False, fun _ => False, k⟩) :
    t { nx := fun _ H' => Q .non H', rt := Q } (L2.start N vs) H := by
  obtain ⟨x, F, k, e, hs, q, w⟩ := h
  have hl := s.ln hs
  refine S.go (hS ⟨F, H, [], fun _ h => nomatch h⟩ x rfl) (L2.start N vs) F H _ ⟨fun _ => False, fun _ => False, fun _ => False, k⟩ ?_ (hg x k q) (fun _ _ _ _ h => h.elim) (fun _ _ _ _ h => h.elim) (fun _ _ _ _ h => h.elim) (fun y v F' H' hk A ⟨p, u, e1, e2, e3, e4, e5⟩ => by rw [e1]; exact w y p u F' H' hk A e2 e3 e4 e5)
  have ow : owns (s.sl x ++ List.replicate m any) = [] := by rw [owns_app, s.no, owns_any]; rfl
  refine ⟨Ex.refl _, e, fun _ _ _ h => h, fun _ h => h, fun _ h _ => h, ?_, by rw [ow]; exact List.nodup_nil, fun p hp => by rw [ow] at hp; nomatch hp⟩
  unfold L2.start
  have : N.length - vs.length = m := by omega
  rw [this]
  exact paired_app' (s.hs hs) holds_any
theorem s_retO {i : Nat} {p : Addr} {c : C α} {a : α} (hi : G[i]? = some (own p c a)) (hm : b.M = []) : S b G (tRet (tVar i)) Gn Gl (RN b c) (fun d => d.rt a) := fun σ F H D d V q _ _ _ w4 => by
  obtain ⟨o, h1, rfl, u, h2, h3⟩ := V.hold.at_ hi
  refine ⟨.ref p, h1, ?_⟩
  obtain ⟨f1, f2⟩ := V.on p (mem_owns hi List.mem_cons_self)
  exact w4 a _ F H q V.after ⟨p, u, rfl, f2.resolve_left (by rw [hm]; exact fun z => nomatch z), f1, h2, h3⟩
theorem enc_callN {s : RI α} {c : C β} {g : α → (β → Prop) → Prop} {Ek : XK} {ta : TA} {f : (α → Prop) → Prop} (h : Ar b G ta s f) : ENc b G (tCall (spN s c g) [] Ek ta) c (fun k => f fun x => g x k) := fun σ F H Q k V q w => by
  refine h _ V q ?_
  intro x vs F1 H1 q1 A1 V1 r1
  show spN s c g (vs ++ []) H1 _ _
  rw [List.append_nil]
  refine ⟨x, F1, k, V1.fh, r1, q1, fun y p u F2 H2 q2 A2 h0 fp hp hc => w y p u F2 H2 q2 (A1.trans (A2.mono fun _ h => nomatch h)) (V1.step A2) ?_ fp hp hc⟩
  cases e : H p with
  | none => rfl
  | some z => exact absurd h0 (A1.kp p (by rw [e]; exact fun z => nomatch z))
theorem e_ofc {te : TE} {c : C α} {r : R α} {f : (α → Prop) → Prop} (hr : ∀ {a : α} {p : Addr} (u : HO) (F : Hp), c.h a u F → F p = some u → r.h a (.ref p) F) (h : ENc b G te c f) : E b G te r f := fun _ _ _ _ k V q w => h k V q fun a p u F' H' q' A V' h1 h2 h3 h4 => by
  obtain ⟨A2, V2⟩ := thaw V A V' h1 h2 h3
  exact w a _ _ H' q' A2 V2 (hr u _ (c.ex (Ex.new h2) h4) upd_same)
theorem enc_cast {te : TE} {c : C α} {c' : C γ} {m : α → γ} {f : (α → Prop) → Prop} (hc : ∀ a u F, c.h a u F → c'.h (m a) u F) (h : ENc b G te c f) : ENc b G te c' (fun k => f fun a => k (m a)) := fun _ _ _ _ k V q w => h _ V q fun a p u F' H' q' A V' h1 h2 h3 h4 => w (m a) p u F' H' q' A V' h1 h2 h3 (hc _ _ _ h4)
theorem all_some {r : R α} (n : NN r) {F : Hp} {xs : List α} {vs : List V} (h : All r F xs vs) : All (rOpt r) F (xs.map some) vs := by
  induction h with
  | nil => exact .nil
  | cons h t ih => exact .cons ⟨h, n h⟩ ih
theorem c_some {r : R α} (n : NN r) : ∀ (a : List α) u F, (cLst r).h a u F → (cLst (rOpt r)).h (a.map some) u F := fun a u F ⟨vs, h1, h2⟩ => ⟨vs, h1, all_some n h2⟩
theorem enc_some {te : TE} {r : R α} {f : (List α → Prop) → Prop} (n : NN r) (h : ENc b G te (cLst r) f) : ENc b G te (cLst (rOpt r)) (fun k => f fun a => k (a.map some)) := enc_cast (c_some n) h
/-! ### small things -/
theorem en_rep {ta te : TE} {r : R α} {f : (List α → Prop) → Prop} {g : (Int → Prop) → Prop} (h : LV b G ta r f) (h2 : E b G te rInt g) : EN b G (tOp rRep ta te) r (fun k => f fun xs => g fun n => (-(2 ^ 63) ≤ n ∧ n < 2 ^ 63 ∧ xs.length * n.toNat ≤ sizeLine) ∧ k (List.replicate n.toNat xs).flatten) := fun _ _ _ _ k V q w => by
  refine h _ V q ?_
  intro xs p F1 H1 q1 A1 V1 z
  refine h2 _ V1 q1 ?_
  rintro n v F2 H2 ⟨⟨q2, q3, q4⟩, q5⟩ A2 V2 e
  cases e
  obtain ⟨vs, k1, k2⟩ := z F2 H2 A2.ff V2
  refine ⟨p, n, vs, rfl, rfl, k1, q2, q3, by rw [k2.len]; exact q4, fun l hl => en_lay (A1.trans A2) V2 q5 ?_ w hl⟩
  generalize n.toNat = m
  induction m with
  | zero => exact .nil
  | succ m ih => rw [List.replicate_succ, List.replicate_succ, List.flatten_cons, List.flatten_cons]; exact Dh.paired_app k2 ih
theorem e_lenTp {te : TE} {s : RI α} {f : (α → Prop) → Prop} (h : E b G te (rTp K s) f) : E b G (tCB (rLenQ K) (tCons te tNil)) rInt (fun k => f fun _ => k (s.n : Int)) := fun _ _ _ _ k V q w => by
  refine h _ V q ?_
  rintro xs v F1 H1 q1 A1 V1 ⟨p, vs, e, hp, A⟩
  subst e
  exact ⟨p, vs, rfl, .inr (_root_.Evl.ex_t V1.fh hp), w _ _ F1 H1 q1 A1 V1 (by rw [s.ln A]; rfl)⟩
theorem e_isiL {te : TE} {r : R α} {f : (List α → Prop) → Prop} {c : String} {res : Bool} (hk : kitB "list" c = some res) (h : LV b G te r f) : E b G (tCB (rIsi K) (tCons te (tCons (tC (.ty c)) tNil))) rBl (fun k => f fun _ => k res) := fun _ _ _ _ k V q w => by
  refine h _ V q ?_
  intro x p F1 H1 q1 A1 V1 z
  obtain ⟨vs, k1, k2⟩ := z F1 H1 (Ex.refl _) V1
  exact ⟨_, _, _, _, res, rfl, .ty _, .base (.lst k1), kit_ty hk, w _ _ F1 H1 q1 A1 V1 rfl⟩
/-! ### repr -/
def dInt : Int → PyData := .int
def dStr : Str → PyData := .str
def dOpt (f : α → PyData) : Option α → PyData
  | none => .none
  | some a => f a
def dLst (f : α → PyData) (xs : List α) : PyData := .list (xs.map f)
def dTup (f : α → PyData) (xs : List α) : PyData := .tuple (xs.map f)
def dOne (f : α → PyData) (a : α) : List PyData := [f a]
def dCons (f : α → PyData) (g : β → List PyData) (a : α × β) : List PyData := f a.1 :: g a.2
def dTp (g : α → List PyData) (a : α) : PyData := .tuple (g a)
def Sw (K : PySem.W.Frag) (r : R α) (f : α → PyData) : Prop := ∀ {a v F}, r.h a v F → Dp K F v (f a)
def SwI (K : PySem.W.Frag) (s : RI α) (f : α → List PyData) : Prop := ∀ {a vs F}, s.h a vs F → DpAll K F vs (f a)
theorem swInt : Sw K rInt dInt := fun h => by cases h; exact .int _
theorem swStr : Sw K rStr dStr := fun h => by cases h; exact .str _
theorem swOpt {r : R α} {f : α → PyData} (d : Sw K r f) : Sw K (rOpt r) (dOpt f) := fun {a v F} h => by
  cases a with
  | none => cases h; exact .non
  | some a => exact d h.1
theorem swall {r : R α} {f : α → PyData} (d : Sw K r f) {F : Hp} {xs : List α} {vs : List V} (h : All r F xs vs) : DpAll K F vs (xs.map f) := by
  induction h with
  | nil => exact .nil
  | cons r t ih => exact .cons (d r) ih
theorem swLst {r : R α} {f : α → PyData} (d : Sw K r f) : Sw K (rLst r) (dLst f) := fun ⟨p, vs, e, h1, h2⟩ => by subst e; exact .lst (SqL.of h1) (swall d h2)
theorem swTup {r : R α} {f : α → PyData} (d : Sw K r f) : Sw K (rTup K r) (dTup f) := fun ⟨p, vs, e, h1, h2⟩ => by subst e; exact .tup h1 (swall d h2)
theorem swOne {r : R α} {f : α → PyData} (d : Sw K r f) : SwI K (rOne r) (dOne f) := fun ⟨v, e, h⟩ => by subst e; exact .cons (d h) .nil
theorem swCons {r : R α} {s : RI β} {f : α → PyData} {g : β → List PyData} (d : Sw K r f) (t : SwI K s g) : SwI K (rCons r s) (dCons f g) := fun ⟨v, ws, e, h1, h2⟩ => by subst e; exact .cons (d h1) (t h2)
theorem swTp {s : RI α} {g : α → List PyData} (t : SwI K s g) : Sw K (rTp K s) (dTp g) := fun ⟨p, vs, e, h1, h2⟩ => by subst e; exact .tup h1 (t h2)
def ShowOk (d : PyData) : Prop := d.showable = true ∧ d.hasDict = false ∧ d.depth ≤ 40 ∧ d.shown.length ≤ sizeLine
def IsRef (r : R α) : Prop := ∀ {a v F}, r.h a v F → ∃ p, v = .ref p
theorem ir_lst {r : R α} : IsRef (rLst r) := fun ⟨p, _, e, _⟩ => ⟨p, e⟩
theorem ir_tup {r : R α} : IsRef (rTup K r) := fun ⟨p, _, e, _⟩ => ⟨p, e⟩
theorem ir_tp {s : RI α} : IsRef (rTp K s) := fun ⟨p, _, e, _⟩ => ⟨p, e⟩
theorem e_repr {te : TE} {r : R α} {d : α → PyData} {f : (α → Prop) → Prop} (S : Sw K r d) (ir : IsRef r) (h : E b G te r f) : E b G (tCB (rRepr K) (tCons te tNil)) rStr (fun k => f fun a => ShowOk (d a) ∧ k (d a).shown) := fun _ _ _ _ k V q w => by
  refine h _ V q ?_
  intro a v F1 H1 q1 A1 V1 r1
  obtain ⟨p, e⟩ := ir r1
  subst e
  exact ⟨p, d a, rfl, dp_ex V1.fh (S r1), q1.1.1, q1.1.2.1, q1.1.2.2.1, q1.1.2.2.2, w _ _ F1 H1 q1.2 A1 V1 rfl⟩
theorem e_reprL {te : TE} {r : R α} {d : α → PyData} {f : (List α → Prop) → Prop} (S : Sw K r d) (h : LV b G te r f) : E b G (tCB (rRepr K) (tCons te tNil)) rStr (fun k => f fun a => ShowOk (dLst d a) ∧ k (dLst d a).shown) := fun _ _ _ _ k V q w => by
  refine h _ V q ?_
  intro a p F1 H1 q1 A1 V1 z
  obtain ⟨vs, h1, h2⟩ := z F1 H1 (Ex.refl _) V1
  exact ⟨p, dLst d a, rfl, .lst (SqL.of h1) (dpa_ex V1.fh (swall S h2)), q1.1.1, q1.1.2.1, q1.1.2.2.1, q1.1.2.2.2, w _ _ F1 H1 q1.2 A1 V1 rfl⟩
end
/-! ### ('BadSpell', spell), ('none', track), ('another', None) -/
inductive Td where
  | bad (s : Int × Int × Str)
  | ok (t : List Str)
  | an
def Td.tag : Td → Str
  | .bad _ => "BadSpell"
  | .ok _ => "none"
  | .an => "another"
section
variable {K : PySem.W.Frag} {b : Bs} {G : List Sl} {α β γ δ τ τ' ρ ε : Type}
abbrev rSp (K : PySem.W.Frag) : R (Int × Int × Str) := rTp K (rCons rInt (rCons rInt (rOne rStr)))
def rTd (K : PySem.W.Frag) : R Td := ⟨fun t v F => match t with
  | .bad s => (rTp K (rCons (rLit "BadSpell") (rOne (rSp K)))).h ((), s) v F
  | .ok l => (rTp K (rCons (rLit "none") (rOne (rTup K rStr)))).h ((), l) v F
  | .an => (rTp K (rCons (rLit "another") (rOne rNon))).h ((), ()) v F, fun {t _ _ _} e h => by
    cases t with
    | bad s => exact (rTp K (rCons (rLit "BadSpell") (rOne (rSp K)))).ex e h
    | ok l => exact (rTp K (rCons (rLit "none") (rOne (rTup K rStr)))).ex e h
    | an => exact (rTp K (rCons (rLit "another") (rOne rNon))).ex e h⟩
theorem e_tdBad {te : TE} {f : (Int × Int × Str → Prop) → Prop} (h : E b G te (rSp K) f) : E b G (tTup (tCons (tC (.str "BadSpell")) (tCons te tNil))) (rTd K) (fun k => f fun s => k (.bad s)) :=
  e_cast (r := rTp K (rCons (rLit "BadSpell") (rOne (rSp K)))) (g := fun x => Td.bad x.2) (fun a v F h => h) (e_tup (ar_cons e_lit (ar_one h)) (Nat.le_of_ble_eq_true rfl))
theorem e_tdOk {te : TE} {f : (List Str → Prop) → Prop} (h : E b G te (rTup K rStr) f) : E b G (tTup (tCons (tC (.str "none")) (tCons te tNil))) (rTd K) (fun k => f fun s => k (.ok s)) :=
  e_cast (r := rTp K (rCons (rLit "none") (rOne (rTup K rStr)))) (g := fun x => Td.ok x.2) (fun a v F h => h) (e_tup (ar_cons e_lit (ar_one h)) (Nat.le_of_ble_eq_true rfl))
theorem e_tdAn : E b G (tTup (tCons (tC (.str "another")) (tCons (tC .non) tNil))) (rTd K) (fun k => k Td.an) :=
  e_cast (r := rTp K (rCons (rLit "another") (rOne rNon))) (g := fun _ => Td.an) (fun a v F h => h) (e_tup (ar_cons e_lit (ar_one e_non)) (Nat.le_of_ble_eq_true rfl))
theorem td_sq {t : Td} {v : V} {F : Hp} (h : (rTd K).h t v F) : ∃ p u, v = .ref p ∧ SqT K F p [.str t.tag, u] ∧ ∀ l, t = .ok l → (rTup K rStr).h l u F := by
  cases t with
  | bad s =>
    obtain ⟨p, vs, e, h1, v, ws, e2, e3, v2, e4, h2⟩ := h
    cases e3; subst e4; subst e2
    exact ⟨p, _, e, h1, fun l z => nomatch z⟩
  | ok l =>
    obtain ⟨p, vs, e, h1, v, ws, e2, e3, v2, e4, h2⟩ := h
    cases e3; subst e4; subst e2
    exact ⟨p, _, e, h1, fun l z => by cases z; exact h2⟩
  | an =>
    obtain ⟨p, vs, e, h1, v, ws, e2, e3, v2, e4, h2⟩ := h
    cases e3; subst e4; subst e2
    exact ⟨p, _, e, h1, fun l z => nomatch z⟩
theorem e_td0 {te : TE} {f : (Td → Prop) → Prop} (h : E b G te (rTd K) f) : E b G (tOp (rIxT K) te (tC (.int 0))) rStr (fun k => f fun t => k (Td.tag t)) := fun _ _ _ _ k V q w => by
  refine h _ V q ?_
  intro t v F' H' q' A V' r
  obtain ⟨p, u, rfl, hp, _⟩ := td_sq r
  exact ⟨p, _, _, _, rfl, rfl, _root_.Evl.ex_t V'.fh hp, atI_nat (j := 0) rfl, w _ _ F' H' q' A V' rfl⟩
theorem e_td1 {te : TE} {f : (Td → Prop) → Prop} (h : E b G te (rTd K) f) : E b G (tOp (rIxT K) te (tC (.int 1))) (rTup K rStr) (fun k => f fun t => ∃ l, t = .ok l ∧ k l) := fun _ _ _ _ k V q w => by
  refine h _ V q ?_
  rintro t v F' H' ⟨l, e, q'⟩ A V' r
  obtain ⟨p, u, rfl, hp, hl⟩ := td_sq r
  exact ⟨p, _, _, _, rfl, rfl, _root_.Evl.ex_t V'.fh hp, atI_nat (j := 1) rfl, w _ _ F' H' q' A V' (hl l e)⟩
def dTd : Td → PyData
  | .bad s => .tuple [.str "BadSpell", .tuple [.int s.1, .int s.2.1, .str s.2.2]]
  | .ok l => .tuple [.str "none", .tuple (l.map .str)]
  | .an => .tuple [.str "another", .none]
theorem swTd : Sw K (rTd K) dTd := fun {t v F} h => by
  cases t with
  | bad s =>
    obtain ⟨p, vs, e, h1, v, ws, e2, e3, v2, e4, p2, vs2, e5, h2, v3, ws3, e6, h3, v4, ws4, e7, h4, v5, e8, h5⟩ := h
    subst e; cases e3; subst e4; subst e2; subst e5; subst e8; subst e7; subst e6
    cases h3; cases h4; cases h5
    exact .tup h1 (.cons (.str _) (.cons (.tup h2 (.cons (.int _) (.cons (.int _) (.cons (.str _) .nil)))) .nil))
  | ok l =>
    obtain ⟨p, vs, e, h1, v, ws, e2, e3, v2, e4, h2⟩ := h
    cases e3; subst e4; subst e2; subst e
    exact .tup h1 (.cons (.str _) (.cons (swTup (f := dStr) swStr h2) .nil))
  | an =>
    obtain ⟨p, vs, e, h1, v, ws, e2, e3, v2, e4, h2⟩ := h
    cases e3; subst e4; subst e2; subst e; cases h2
    exact .tup h1 (.cons (.str _) (.cons .non .nil))
theorem ir_td : IsRef (rTd K) := fun h => by obtain ⟨p, u, e, _⟩ := td_sq h; exact ⟨p, e⟩
end
end Mi
/-! EnumT -/
set_option Elab.async false
set_option linter.all false
set_option maxRecDepth 100000
set_option maxHeartbeats 4000000
/-! enumerate of a tuple -/
namespace L2
open PySem PySem.Spec PyProof.Rows
open Sem (wp)
open AutoSeq1 (wpAny_loadPart')
theorem meets_enumB1 {v : Value} {o : Obj} {H : Heap → Prop} (B : Begins v o H) :
    Meets (Builtin.«enumerate.__new__» ⟨[.type "enumerate", v], []⟩) (fun _ R s => H s.heap ∧
      R (.ok (.ret (.ref (s.heap.push o).objs.size))) { s with heap := (s.heap.push o).push { cls := .type "enumerate", data := .fields #[.none, .bool false, .ref s.heap.objs.size, rawInt 0, .none, .none] } }) :=
  .of_wp fun prog w A R s h => by
    obtain ⟨hp, g, d, tk, os⟩ := s; obtain ⟨h1, h⟩ := h
    have hsub := sub_enumerate
    have q1 : ∀ {A' : Around} {E : Value → Shared → Prop} {Q : Value → Shared → Prop}, Q (.ref hp.objs.size) ⟨hp.push o, g, d, tk, os⟩ → wpAny (model prog w) A' (pyIter v) Q E ⟨hp, g, d, tk, os⟩ :=
      fun q => B.iter prog w _ _ ⟨hp, g, d, tk, os⟩ _ h1 q
    wp_walk using q1
    refine wpAny_stack_any fun st => wpAny_pure ?_
    split
    · rename_i c _ _ _ _ _
      cases (c == Value.type "enumerate")
      · wp_walk using q1
        exact ⟨_, rfl, h⟩
      · wp_walk using q1
        exact ⟨_, rfl, h⟩
    · wp_walk using q1
      exact ⟨_, rfl, h⟩
section
variable {prog : Program} {w : World} {A : Around} {E : Value → Shared → Prop} {s : Shared}
theorem enum_begins1 {v : Value} {o : Obj} {H : Heap → Prop} {Q : Value → Shared → Prop} (B : Begins v o H) (h1 : H s.heap)
    (h : ∀ h', IsEnum h' (s.heap.objs.size + 1) s.heap.objs.size 0 .none → h'.get? s.heap.objs.size = some o → h'.objs.size = s.heap.objs.size + 2 →
      (∀ b o, s.heap.get? b = some o → h'.get? b = some o) → Q (.ref (s.heap.objs.size + 1)) { s with heap := h' }) :
    wpAny (model prog w) A (call (.type "enumerate") [v]) Q E s := by
  refine callType_new F.called_enumerate (by decide) (F.typeCall_enumerate_1 _) (F.newCall_enumerate_1 _) (fun obj => F.args_object_init_2 obj _) F.entry_enumerate_new (meets_enumB1 B) ⟨h1, ?_⟩
  have hz : (s.heap.push o).objs.size = s.heap.objs.size + 1 := Heap.size_push ..
  show _ ∧ _
  rw [hz]
  have he : IsEnum ((s.heap.push o).push { cls := .type "enumerate", data := .fields #[.none, .bool false, .ref s.heap.objs.size, rawInt 0, .none, .none] }) (s.heap.objs.size + 1) s.heap.objs.size 0 .none := by
    have := Heap.get?_push_size (s.heap.push o) (o := { cls := .type "enumerate", data := .fields #[.none, .bool false, .ref s.heap.objs.size, rawInt 0, .none, .none] }) rfl
    rw [hz] at this; exact this
  exact ⟨⟨_, he, rfl⟩, h _ he (Heap.get?_push_of_some _ (Heap.get?_push_size _ B.free)) (by rw [Heap.size_push, hz]) fun b o x => Heap.get?_push_of_some _ (Heap.get?_push_of_some _ x)⟩
end
/-- the tuple at a, each item in a new pair -/
def IteT (K : PySem.W.Frag) (a : Addr) : It :=
  ⟨fun i H => ∃ (xs : List V) (x : V), SqT K H a xs ∧ xs[i]? = some x, fun i H v H' => ∃ T x, v = .ref T ∧ H T = none ∧ H' = upd H T (.tup [.int (i : Nat), x]) ∧ ∀ xs, SqT K H a xs → xs[i]? = some x, fun i H => ∃ xs : List V, SqT K H a xs ∧ xs.length ≤ i⟩
theorem turn_enumT {P : Program} {w : World} {K : PySem.W.Frag} {elts : List Expr} {kk : Nat} {tpos : Pos} (a e it : Addr) :
    Turn P w K (.Tuple elts kk tpos) (IteT K a) [e, it] e (fun i h => (∃ old, IsEnum h e it ((i : Nat) : Int) old) ∧ h.IsTupleIter it a i ∧ e ≠ it ∧ a ≠ it ∧ e ≠ a) where
  mem := by simp
  obj := fun i h st b hb => by
    obtain ⟨⟨old, he⟩, ⟨o, ho, hc, hd⟩, _⟩ := st
    have e' : b = e ∨ b = it := by simpa using hb
    rcases e' with z | z
    · rw [z]; exact ⟨_, he, fun v q => nomatch q⟩
    · rw [z]; exact ⟨o, ho, fun v q => by rw [hd] at q; cases q⟩
  keep := fun i h h' st k => let ⟨⟨old, he⟩, hi, hne⟩ := st; ⟨⟨old, k e (by simp) _ he⟩, hi.at fun o q => k it (by simp) o q, hne⟩
  item := by
    intro X hP hw hK hc i pins s σ H E I hf st hg
    subst hP hw hK
    obtain ⟨⟨old, he⟩, hit, hne, hat, hea⟩ := st
    obtain ⟨xs, x, hq, hx⟩ := hg
    obtain ⟨its, rv, p, hz⟩ := I.tuple hq
    obtain ⟨u, hu, ru⟩ := rv.get hx
    have hel : e < s.heap.objs.size := Heap.lt_size he
    have hil : it < s.heap.objs.size := by obtain ⟨_, q, _⟩ := hit; exact Heap.lt_size q
    have hhd : X.A.in1.handled = none := I.ok.hd hc
    have hlt : i < its.toArray.size := by
      have := (List.getElem?_eq_some_iff.mp hx).1
      have := rv.length
      simp; omega
    refine wpAny_pyNext_enum_itemD (Draws.tuple hhd it a hat its.toArray) he ⟨hit, p⟩ hlt hne (by simp [hne, hea]) fun x1 h' tk hx1 ho st1 hT hsz hk => ?_
    have ex : u = x1 := by
      have h1 : its[i]? = some x1 := by simpa using hx1
      rw [hu] at h1; exact Option.some.inj h1
    subst ex
    refine ⟨_, rfl, wpAny_letOwnedTupleGo_enum (s := { s with heap := h', toks := tk + 1 }) ho fun h'' he' sb => ?_⟩
    have hT2 : h''.get? s.heap.objs.size = some { cls := .type "tuple", data := .seq #[.int i tk, u] } := (sb.2 _ (Nat.ne_of_gt hel)).trans hT
    have new : ObjOk X.prog X.w (upd H s.heap.objs.size (.tup [.int (i : Nat), x])) h'' s.heap.objs.size (.tup [.int (i : Nat), x]) :=
      ⟨by show 2 ≤ sizeLine; decide, [.int i tk, u], .cons ⟨_, rfl⟩ (.cons ru .nil), ⟨_, hT2, rfl, _, rfl⟩⟩
    have I1 : Inv X pins σ (upd H s.heap.objs.size (.tup [.int (i : Nat), x])) { s with heap := h'', toks := tk + 1 } :=
      I.turnedNew (ch := [e, it]) (fun b ob hb q => (sb.2 b (fun z => hb (by simp [z]))).trans (hk b ob (fun z => hb (by simp [z])) (fun z => hb (by simp [z])) q)) hf (Nat.le_refl _) new
    refine ⟨.ref s.heap.objs.size, _, I1, rfl, ⟨_, x, rfl, I.hok.fresh (Nat.le_refl _), rfl, fun ys hy => by rw [I.tuple_inj hy hq]; exact hx⟩, ⟨⟨u, ?_⟩, st1.1.at fun o q => (sb.2 it (Ne.symm hne)).trans q, hne, hat, hea⟩, fun b hb => ?_⟩
    · have e1 : ((i + 1 : Nat) : Int) = (i : Int) + 1 := by omega
      rw [e1]; exact he'
    · have hb' : b < s.heap.objs.size := by
        have e' : b = e ∨ b = it := by simpa using hb
        rcases e' with z | z
        · rw [z]; exact hel
        · rw [z]; exact hil
      rw [upd_ne (Nat.ne_of_lt hb')]
      exact (hf b hb).1
  done := by
    intro X hP hw hK hc i pins s σ H E I hf st hg
    subst hP hw hK
    obtain ⟨⟨old, he⟩, hit, hne, hat, hea⟩ := st
    obtain ⟨xs, hq, hx⟩ := hg
    obtain ⟨its, rv, p, hz⟩ := I.tuple hq
    obtain ⟨f0, f1, f2, f3, f4, f5⟩ := hf it (by simp)
    have hl := rv.length
    have hT : s.TypeIs (.ref e) "enumerate" := ⟨_, he, rfl⟩
    unfold pyNext
    refine wpAny_bind (wpAny_attempt (wpAny_callSpecial?_slot (name := Str.ofString "__next__") hT F.slot_enumerate_next
      (wpAny_call_entry F.slot_enumerate_next hT F.entry_enumerate_next ?_ (F.args_enumerate_next_1 _))))
    show wpAny _ _ (field (.ref e) 2 >>= _) _ _ _
    refine wpAny_bind (wpAny_field he rfl (x := .ref it) rfl ?_)
    refine wpAny_bind (wpAny_nextOf_tuple_end (I.ok.hd hc) hit p (by simp; omega) fun h' x eb hx' => ?_)
    obtain ⟨o, ho, hc'⟩ := hx'
    refine wpAny_bind (wpAny_isInstance (T := "StopIteration") (b := true) ⟨o, ho, hc'⟩ isSubtype_stop ?_)
    exact wpAny_pure ⟨rfl, I.turned (t' := s.toks) (fun b o hb q => eb b o hb q) f0 f1 f3 f4 f5⟩
  self := fun A i s Q E st h => let ⟨⟨_, he⟩, _⟩ := st; wpAny_pyIter_enum he h
def iEnumT (K : PySem.W.Frag) (ta : TA) : TI := fun σ H R => ta σ H fun vs H1 => ∃ a xs, vs = [.ref a] ∧ SqT K H1 a xs ∧ R (IteT K a) H1
theorem pi_enumT {X : Cx} {e : Expr} {ta : TA} {p pos tpos : Pos} {elts : List Expr} {kk : Nat} (hg : Gl X "enumerate") (hm : X.mg "enumerate" = none) (ha : PA X [e] ta) (hs : starEach [e] X.env = [(false, eval e X.env)] := by rfl) :
    PI X (.Tuple elts kk tpos) (.Call (.Name "enumerate" p) [e] [] pos) (iEnumT X.K ta) := by
  refine ⟨fun pins s σ H R I h => ?_⟩
  refine Call_ (ld_blt I hg hm boot_enumerate (PyProof.Rows.callWith_type1 (thn (ha.run pos pins s σ H _ I h) fun us s1 ⟨vs, H1, I1, r1, q1⟩ => ?_) hs rfl))
  obtain ⟨a, xs, ex, hq, q⟩ := q1
  subst ex
  cases r1 with
  | cons r rr =>
    cases rr
    cases r
    obtain ⟨its, rv, p', hz⟩ := I1.tuple hq
    have hal : a < s1.heap.objs.size := by obtain ⟨_, q, _⟩ := p'; exact Heap.lt_size q
    refine enum_begins1 (begins_tuple a its.toArray) p' fun h' he hit hsz hk => wpAny_pyIter_enum he ?_
    have I2 : Inv X pins σ H1 { s1 with heap := h' } := I1.kept (t' := s1.toks) hk
    refine ⟨s1.heap.objs.size + 1, [s1.heap.objs.size + 1, s1.heap.objs.size], _, _, H1, rfl, I2, turn_enumT a (s1.heap.objs.size + 1) s1.heap.objs.size, ⟨⟨.none, he⟩, ⟨_, hit, rfl, rfl⟩, Nat.succ_ne_self _, Nat.ne_of_lt hal, Nat.ne_of_gt (Nat.lt_succ_of_lt hal)⟩, fun b hb => ?_, q⟩
    have e' : b = s1.heap.objs.size + 1 ∨ b = s1.heap.objs.size := by simpa using hb
    have hle : s1.heap.objs.size ≤ b := by
      rcases e' with z | z
      · rw [z]; exact Nat.le_add_right _ _
      · rw [z]; exact Nat.le_refl _
    exact I1.fpOk hle (I1.hok.fresh hle)
theorem walk_enumT {K : PySem.W.Frag} {a : Addr} {xs : List V} : Walk (IteT K a) xs.length (fun H => SqT K H a xs) (YPair (fun i => some (.int (i : Nat))) (fun i => xs[i]?)) := by
  refine ⟨fun i _ hi q => ⟨xs, xs[i], q, by simp [hi]⟩, fun _ q => ⟨xs, q, Nat.le_refl _⟩, fun i H v H' _ q y => ?_⟩
  obtain ⟨T, x, h1, h2, h3, h4⟩ := y
  exact ⟨T, .int (i : Nat), x, h1, h2, h3, rfl, h4 xs q⟩
end L2
namespace Mi
open PySem PySem.Spec L2 Dh
open _root_.Evl (Ex)
section
variable {K : PySem.W.Frag} {b : Bs} {G : List Sl} {α : Type}
theorem wk_enumT {ta : TA} {r : R α} {f : (List α → Prop) → Prop} (h : Ar b G ta (rOne (rTup K r)) f) : Wk b G (iEnumT K ta) (rTp K (rCons rInt (rOne r))) (fun k => f fun xs => k (enumL xs)) := fun _ _ _ _ k V q w => by
  refine h _ V q ?_
  rintro xs ws F1 H1 q1 A1 V1 ⟨v, e, p, vs, e2, hp, A⟩
  subst e2
  subst e
  refine ⟨p, vs, rfl, _root_.Evl.ex_t V1.fh hp, w _ _ F1 H1 q1 A1 V1 (wkOk walk_enumT (A.len.trans enumL_len.symm) (fun H2 e => _root_.Evl.ex_t e hp) fun i v F2 H2 H3 hi e1 e2 ⟨T, x, y, y1, y2, y3, y4, y5⟩ => ?_)⟩
  subst y1 y3
  cases y4
  obtain ⟨a, ha, hr⟩ := A.of_get y5
  obtain ⟨B, hB⟩ := pair_new (K := K) (ra := rInt) (rb := r) (a := (i : Int)) e2 y2 rfl (r.ex e1 hr)
  exact ⟨_, _, enumL_get ha, B, hB⟩
end
end Mi
/-! TryMix -/
set_option Elab.async false
set_option linter.all false
set_option maxRecDepth 100000
set_option maxHeartbeats 4000000
/-! a try with several clauses, each with a name or without one -/
namespace L2N
open PySem PySem.Spec PyProof.Rows L2
/-- a clause: the class, the slot of its name, the suite -/
abbrev Clause := Value × Option Nat × (Addr → Value → Option Addr → TS)
def runCl (o : Option Nat) (t : TS) (a : Addr) : TS := fun D σ H => match o with
  | none => t D σ H
  | some i => t { nx := fun σ' H' => D.nx (σ'.set i none) H', rt := D.rt, bk := fun σ' H' => D.bk (σ'.set i none) H', ct := fun σ' H' => D.ct (σ'.set i none) H' } (σ.set i (some (.ref a))) H
def wMix (K : PySem.W.Frag) (Wout : WX) (D : Ends) : List Clause → WX
  | [] => Wout
  | (c, o, ts) :: r => fun cls d σ H => ∃ b, PySem.W.exmOne K cls c = some b ∧ (b = true → ∀ a, H a = none → runCl o (ts a cls d) a D σ H) ∧ (b = false → wMix K Wout D r cls d σ H)
inductive ClsOk (X : Cx) : List ExceptHandler → List Clause → Prop
  | nil : ClsOk X [] []
  | bare {x : Str} {c : Value} {ts : Addr → Value → Option Addr → TS} {b₀ : Stmt} {suite : List Stmt} {np pos' : Pos} {hds : List ExceptHandler} {l : List Clause} (hc : Names X x c)
      (hsu : ∀ (a : Addr) (oe : Obj) (cls : Value) (d : Option Addr) (pn : List (Addr × Obj)), Zn cls d oe → (∃ vs, oe.data = .fields vs) → PSs (X.suite a ((a, oe) :: pn)) (b₀ :: suite) (ts a cls d)) (r : ClsOk X hds l) :
      ClsOk X (.ExceptHandler (some (.Name x np)) none (b₀ :: suite) pos' :: hds) ((c, none, ts) :: l)
  | named {x n : Str} {c : Value} {i : Nat} {ts : Addr → Value → Option Addr → TS} {b₀ : Stmt} {suite : List Stmt} {np pos' : Pos} {hds : List ExceptHandler} {l : List Clause} (hi : X.N[i]? = some n) (hln : X.env.kindOf n = some .local) (hc : Names X x c)
      (hsu : ∀ (a : Addr) (oe : Obj) (cls : Value) (d : Option Addr) (pn : List (Addr × Obj)), Zn cls d oe → (∃ vs, oe.data = .fields vs) → PSs (X.suite a ((a, oe) :: pn)) (b₀ :: suite) (ts a cls d)) (r : ClsOk X hds l) :
      ClsOk X (.ExceptHandler (some (.Name x np)) (some n) (b₀ :: suite) pos' :: hds) ((c, some i, ts) :: l)
section
variable {X : Cx} {body : List Stmt} {h₀ : ExceptHandler} {hds : List ExceptHandler} {l : List Clause} {pos : Pos} {tb : WX → TS} {Wout : WX}
theorem ps_try_mix (hs : X.stack = X.env :: X.outer) (hf : X.env.frame = some X.env.locals) (hN : X.N.Nodup) (tk : Takes X Wout)
    (hb : ∀ (W : WX) (pn : List (Addr × Obj)) (xe : Value → Shared → Prop), Takes (X.tr pn xe) W → PassesOwn (model X.prog X.w) X.A X.env xe → PSs (X.tr pn xe) body (tb W))
    (hh : ClsOk X (h₀ :: hds) l) : PS X (.Try body (h₀ :: hds) [] [] pos) (fun D σ H => tb (wMix X.K Wout D l) D σ H) := by
  refine ⟨fun pins s σ H D I h => ?_⟩
  have ok := I.ok
  have hfr : X.A.frames = some (X.env :: X.outer) := by rw [ok.frames, hs]
  refine wpAny_Try_except ?_
  refine wpAny_mono ((hb (wMix X.K Wout D l) (X.pn ++ pins) (fun e s₁ => wpAny (model X.prog X.w) X.A (noteFrame e X.env) (fun _ s₂ => wpAny (model X.prog X.w) X.A (setFlight e none) (fun _ s₃ =>
    wpAny (model X.prog X.w) X.A (handleBy e X.env (h₀ :: hds)) (SP X pins D) X.xe s₃) X.xe s₂) X.xe s₁) (fun u s' xx => ?_) PassesOwn.looking).run [] s σ H D (I.toTry _) h) (fun f s1 hsp => ?_) (fun e s1 he => he)
  · obtain ⟨a, B, sI, pins', σ', H', cls, d, rfl, J', nb, up, sky, na, os, ag, w⟩ := xx
    have J : Inv X pins σ' H' sI := J'.ofTry ok
    rw [hs] at sky
    show wpAny (model X.prog X.w) X.A (noteFrame (.ref a) X.env) _ _ _
    refine Sky.land Zn.steady hfr hf sky fun h3 fl3 up3 => ?_
    have J3 : Inv X pins σ' H' { s' with heap := h3 } := J.landed nb fl3.1 (up.trans up3) os ag
    obtain ⟨oe3, vs3, he3, hz3, hd3⟩ := fl3.there
    have nfr : a ∉ frs (X.env :: X.outer) := fun hm => by
      obtain ⟨_, o', e', hnf⟩ := fl3.2.2.1.mem hm
      rw [he3] at e'; cases e'
      exact hnf _ hd3
    have nL : a ≠ X.env.locals := fun z => nfr (List.mem_filterMap.mpr ⟨X.env, List.mem_cons_self, by rw [hf, z]⟩)
    have nF : a ∉ X.fs := fun hm => by
      obtain ⟨e, he, q⟩ := List.mem_filterMap.mp hm
      exact nfr (List.mem_filterMap.mpr ⟨e, List.mem_cons_of_mem _ he, q⟩)
    have S3 := J3.suite he3 hd3 na nL nF
    have LT : PySem.W.Looks (model X.prog X.w) h3 (typeOf (.ref a)) cls := fun A Q E s k q => wpAny_typeOf_ref (k _ _ he3) (by rw [hz3.1]; exact q)
    have test : ∀ {x : Str} {c : Value} {np : Pos} {b : Bool} {P : Bool → Shared → Prop} {E : Value → Shared → Prop}, Names X x c → PySem.W.exmOne X.K cls c = some b →
        (∀ {Q : Value → Shared → Prop}, Q c { s' with heap := h3 } → wpAny (model X.prog X.w) (X.A.mark (some (.ref a))) (eval (.Name x np) X.env) Q E { s' with heap := h3 }) := fun {x c np b P E} hc _ {Q} q => by
      obtain ⟨hg, hdbg, hm | ⟨hm, hv, hnn⟩⟩ := hc
      · exact ld_glob (X := X.suite a ((a, oe3) :: (X.pn ++ pins))) S3 hg hm q hdbg
      · exact ld_blt (X := X.suite a ((a, oe3) :: (X.pn ++ pins))) S3 hg hm hv q hnn hdbg
    have go : ∀ {hds' : List ExceptHandler} {l' : List Clause}, ClsOk X hds' l' → wMix X.K Wout D l' cls d σ' H' → wpAny (model X.prog X.w) X.A (handleBy (.ref a) X.env hds') (SP X pins D) X.xe { s' with heap := h3 } := by
      intro hds' l' hk
      induction hk with
      | nil =>
        intro w
        refine wpAny_handleBy_nil ?_
        obtain ⟨k1, k2, k3, oe, vs, T, oT, ts', he, hz, hd, h1, hr⟩ := id fl3
        unfold PySem.passOn
        refine wpAny_bind (wpAny_field he hd h1 ?_)
        rw [if_neg (show ¬ ((Value.ref T == Value.none) = true) from by simp)]
        have fin : wpAny (model X.prog X.w) X.A (setFlight (.ref a) X.env.frame) (fun _ s4 => wpAny (model X.prog X.w) X.A (throw (.ref a) : Sem Flow) (SP X pins D) X.xe s4) X.xe { s' with heap := h3 } := by
          rw [hf]
          refine HandSPX.setFlight_upZ fl3 fun h4 hh4 up4 => wpAny_throw (tk _ _ ?_)
          exact ⟨a, B, sI, pins, σ', H', cls, d, rfl, J, nb, (up.trans up3).trans up4, .inr (.inr (by rw [hs]; exact hh4)), na, os, ag, w⟩
        first
          | exact wpAny_bind (wpAny_pure (wpAny_bind fin))
          | exact wpAny_bind fin
      | @bare x c ts b₀ suite np pos' hds2 l2 hc hsu r ih =>
        rintro ⟨b, hb1, hyes, hno⟩
        refine wpAny_handleBy_cons (codeAny_handlers_test ?_) (by intro q; cases q)
        refine test (b := b) (P := fun _ _ => True) hc hb1 ((PySem.W.exm_one (M := model X.prog X.w) (J3.kIn) LT hb1).here ?_)
        cases b with
        | true =>
          refine codeAny_handlers_suite (HandSPX.lands_againZ fl3 fun h4 fl4 up4 => ?_)
          obtain ⟨oe4, vs4, he4, hz4, hd4⟩ := fl4.there
          have S4 := (show Inv X pins σ' H' { s' with heap := h4 } from J.landed nb fl4.1 ((up.trans up3).trans up4) os ag).suite he4 hd4 na nL nF
          refine wpAny_mono ((hsu a oe4 cls d (X.pn ++ pins) hz4 ⟨_, hd4⟩).run [] _ _ H' _ S4 (hyes rfl a na)) (fun f s6 hsp => ?_) (fun _ _ z => False.elim z)
          cases f with
          | ret u => obtain ⟨v6, σ6, H6, S6, r6, q6⟩ := hsp; exact ⟨_, _, _, S6.unsuite ok, r6, q6⟩
          | next => obtain ⟨σ6, H6, S6, q6⟩ := hsp; exact ⟨_, _, S6.unsuite ok, q6⟩
          | brk => obtain ⟨σ6, H6, S6, q6⟩ := hsp; exact ⟨_, _, S6.unsuite ok, q6⟩
          | cont => obtain ⟨σ6, H6, S6, q6⟩ := hsp; exact ⟨_, _, S6.unsuite ok, q6⟩
        | false => exact ih (hno rfl)
      | @named x n c i ts b₀ suite np pos' hds2 l2 hi hln hc hsu r ih =>
        rintro ⟨b, hb1, hyes, hno⟩
        refine wpAny_handleBy_cons (codeAny_handlers_test ?_) (by intro q; cases q)
        refine test (b := b) (P := fun _ _ => True) hc hb1 ((PySem.W.exm_one (M := model X.prog X.w) (J3.kIn) LT hb1).here ?_)
        cases b with
        | true =>
          refine codeAny_handlers_suite_as (HandSPX.lands_againZ fl3 fun h4 fl4 up4 => ?_)
          obtain ⟨oe4, vs4, he4, hz4, hd4⟩ := fl4.there
          have S4 := (show Inv X pins σ' H' { s' with heap := h4 } from J.landed nb fl4.1 ((up.trans up3).trans up4) os ag).suite he4 hd4 na nL nF
          refine store_ok (X := X.suite a ((a, oe4) :: (X.pn ++ pins))) (v := .ref a) S4 hN hi (.inl hln) rfl (fun s5 S5 => ?_) (.inr hln)
          refine wpAny_mono ((hsu a oe4 cls d (X.pn ++ pins) hz4 ⟨_, hd4⟩).run [] s5 _ H' _ S5 (hyes rfl a na)) (fun f s6 hsp => ?_) (fun _ _ z => False.elim z)
          cases f with
          | ret u => obtain ⟨v6, σ6, H6, S6, r6, q6⟩ := hsp; exact gone_ok (S6.unsuite ok) hN hi hln fun s7 J7 => ⟨_, _, _, J7, r6, q6⟩
          | next => obtain ⟨σ6, H6, S6, q6⟩ := hsp; exact gone_ok (S6.unsuite ok) hN hi hln fun s7 J7 => ⟨_, _, J7, q6⟩
          | brk => obtain ⟨σ6, H6, S6, q6⟩ := hsp; exact gone_ok (S6.unsuite ok) hN hi hln fun s7 J7 => ⟨_, _, J7, q6⟩
          | cont => obtain ⟨σ6, H6, S6, q6⟩ := hsp; exact gone_ok (S6.unsuite ok) hN hi hln fun s7 J7 => ⟨_, _, J7, q6⟩
        | false => exact ih (hno rfl)
    exact go hh w
  · cases f with
    | next => obtain ⟨σ', H', J', q⟩ := hsp; exact wpAny_execs_nil ⟨σ', H', J'.ofTry ok, q⟩
    | brk => obtain ⟨σ', H', J', q⟩ := hsp; exact ⟨σ', H', J'.ofTry ok, q⟩
    | cont => obtain ⟨σ', H', J', q⟩ := hsp; exact ⟨σ', H', J'.ofTry ok, q⟩
    | ret u => obtain ⟨v, σ', H', J', r, q⟩ := hsp; exact ⟨v, σ', H', J'.ofTry ok, r, q⟩
end
end L2N
/-! Mir12 -/
set_option Elab.async false
set_option linter.all false
set_option maxRecDepth 100000
set_option maxHeartbeats 4000000
/-! tries of several clauses; an own thing lent to a call; dicts that are copied; None, a text or a new dict -/
namespace Mi
open PySem PySem.Spec L2 Dh
open _root_.Evl (Ex)
section
variable {K : PySem.W.Frag} {b : Bs} {G Gx : List Sl} {α β γ δ τ τ' ρ ε ε' θ : Type} {Gn : τ → List Sl} {Gs : τ' → List Sl} {Gl : θ → List Sl} {ro : ρ → V → Hp → Hp → Prop} {σ : L2.St} {F H F' H' : Hp}
def tTryM (K : PySem.W.Frag) (l : List L2N.Clause) (tb : WX → TS) (Wout : WX) : TS := fun D σ H => tb (L2N.wMix K Wout D l) D σ H
theorem ps_tryM {X : Cx} {body : List Stmt} {h₀ : ExceptHandler} {hds : List ExceptHandler} {l : List L2N.Clause} {pos : Pos} {tb : WX → TS} {Wout : WX} (hs : X.stack = X.env :: X.outer) (hf : X.env.frame = some X.env.locals) (hN : X.N.Nodup) (tk : L2N.Takes X Wout)
    (hb : ∀ (W : WX) (pn : List (Addr × Obj)) (xe : Value → Shared → Prop), L2N.Takes (X.tr pn xe) W → PassesOwn (model X.prog X.w) X.A X.env xe → PSs (X.tr pn xe) body (tb W))
    (hh : L2N.ClsOk X (h₀ :: hds) l) : PS X (.Try body (h₀ :: hds) [] [] pos) (tTryM X.K l tb Wout) := L2N.ps_try_mix hs hf hN tk hb hh
/-- what the clauses make of an error -/
def Cls' (K : PySem.W.Frag) (b : Bs) (Gx : List Sl) (x : Xp ε) (Wout : WX) (Gn : τ → List Sl) (Gl : θ → List Sl) (ro : ρ → V → Hp → Hp → Prop) (l : List L2N.Clause) (fs : ε → Pd τ θ ρ → Prop) : Prop :=
  ∀ ⦃e : ε⦄ ⦃cls : Value⦄ ⦃dd : Option Addr⦄ ⦃σ : L2.St⦄ ⦃F H : Hp⦄ ⦃D : Ends⦄ (d : Pd τ θ ρ), Env b Gx σ F H → x.h e cls dd F → fs e d → (∀ y σ' F' H', d.nx y → Ex F F' → Env b (Gn y) σ' F' H' → D.nx σ' H') →
    (∀ y σ' F' H', d.ct y → Ex F F' → Env b (Gl y) σ' F' H' → D.ct σ' H') → (∀ y σ' F' H', d.bk y → Ex F F' → Env b (Gl y) σ' F' H' → D.bk σ' H') → (∀ y v F' H', d.rt y → After b.F b.H b.M F' H' → ro y v F' H' → D.rt v H') →
    L2N.wMix K Wout D l cls dd σ H
theorem cl_nil {x : Xp ε} {Wout : WX} : Cls' K b Gx x Wout Gn Gl ro [] (fun _ _ => False) := fun _ _ _ _ _ _ _ _ _ _ h => h.elim
theorem cl_out {x : Xp ε} {gx : List Sl → Prop} {x0 : Xp δ} {k0 : δ → Prop} {Wout : WX} {j0 : ε → δ} (O : Out b gx x0 k0 Wout) (hg : gx Gx) (hj : XSub x x0 j0) : Cls' K b Gx x Wout Gn Gl ro [] (fun e _ => k0 (j0 e)) := fun _ _ _ _ _ _ _ _ V hx q _ _ _ _ => O hg q V (hj _ _ _ _ hx)
theorem cl_named {x : Xp ε} {c : Value} {i : Nat} {is : ε → Bool} {ts : Addr → Value → Option Addr → TS} {Wout : WX} {l : List L2N.Clause} {fs : ε → Pd τ' θ ρ → Prop} {fr : ε → Pd τ θ ρ → Prop} {jn : τ' → τ} (hm : XCa K x c is)
    (hs : ∀ e a cls d, is e = true → S b (Gx.set i (val (rErr x a cls d) e)) (ts a cls d) Gs Gl ro (fs e)) (hw : ∀ y, Sub ((Gs y).set i any) (Gn (jn y))) (hl : ∀ y, Sub ((Gl y).set i any) (Gl y)) (hr : Cls' K b Gx x Wout Gn Gl ro l fr) :
    Cls' K b Gx x Wout Gn Gl ro ((c, some i, ts) :: l) (fun e d => (is e = true → fs e ⟨fun y => d.nx (jn y), d.ct, d.bk, d.rt⟩) ∧ (is e = false → fr e d)) := fun e cls dd σ F H D d V hx q w1 w2 w3 w4 => by
  refine ⟨is e, hm e cls dd F hx, fun hi a ha => ?_, fun hi => hr d V hx (q.2 hi) w1 w2 w3 w4⟩
  refine hs e a cls dd hi ⟨fun y => d.nx (jn y), d.ct, d.bk, d.rt⟩ (V.set (s := val (rErr x a cls dd) e) (o := some (.ref a)) ⟨_, rfl, rfl, hx⟩ rfl) (q.1 hi) ?_ ?_ ?_ w4
  · exact fun y σ2 F2 H2 q2 e2 V3 => w1 (jn y) _ F2 H2 q2 e2 ((V3.set (i := i) (s := any) (o := none) trivial rfl).sub (hw y))
  · exact fun y σ2 F2 H2 q2 e2 V3 => w2 y _ F2 H2 q2 e2 ((V3.set (i := i) (s := any) (o := none) trivial rfl).sub (hl y))
  · exact fun y σ2 F2 H2 q2 e2 V3 => w3 y _ F2 H2 q2 e2 ((V3.set (i := i) (s := any) (o := none) trivial rfl).sub (hl y))
theorem cl_bare {x : Xp ε} {c : Value} {is : ε → Bool} {ts : Addr → Value → Option Addr → TS} {Wout : WX} {l : List L2N.Clause} {fs : ε → Pd τ θ ρ → Prop} {fr : ε → Pd τ θ ρ → Prop} (hm : XCa K x c is)
    (hs : ∀ e a cls d, is e = true → S b Gx (ts a cls d) Gn Gl ro (fs e)) (hr : Cls' K b Gx x Wout Gn Gl ro l fr) :
    Cls' K b Gx x Wout Gn Gl ro ((c, none, ts) :: l) (fun e d => (is e = true → fs e d) ∧ (is e = false → fr e d)) := fun e cls dd σ F H D d V hx q w1 w2 w3 w4 =>
  ⟨is e, hm e cls dd F hx, fun hi a _ => hs e a cls dd hi d V (q.1 hi) w1 w2 w3 w4, fun hi => hr d V hx (q.2 hi) w1 w2 w3 w4⟩
theorem s_tryM {x : Xp ε} {tb : WX → TS} {l : List L2N.Clause} {Wout : WX} {fb : (ε → Prop) → Pd τ θ ρ → Prop} {fs : ε → Pd τ θ ρ → Prop}
    (hb : ∀ b' : Bs, b'.M = b.M → ∀ (W : WX) (kx : ε → Prop), Out b' (fun G' => Sub G' Gx) x kx W → S b' G (tb W) Gn Gl ro (fb kx)) (hc : Cls' K b Gx x Wout Gn Gl ro l fs) :
    S b G (tTryM K l tb Wout) Gn Gl ro (fun d => fb (fun e => fs e d) d) := fun σ F H D d V q w1 w2 w3 w4 => by
  have hO : Out (b.at_ F) (fun G' => Sub G' Gx) x (fun e => fs e d) (L2N.wMix K Wout D l) := fun G' e cls dd σ' F1 H1 hsub ke V1 hx => by
    have V2 : Env b Gx σ' F1 H1 := (V.unb V1).sub hsub
    have e1 : Ex F F1 := V1.ff
    exact hc d V2 hx ke (fun y σ2 F2 H2 q2 e2 => w1 y σ2 F2 H2 q2 (e1.trans e2)) (fun y σ2 F2 H2 q2 e2 => w2 y σ2 F2 H2 q2 (e1.trans e2)) (fun y σ2 F2 H2 q2 e2 => w3 y σ2 F2 H2 q2 (e1.trans e2)) w4
  exact hb (b.at_ F) rfl _ _ hO d V.reb q (fun y σ2 F2 H2 q2 e2 V3 => w1 y σ2 F2 H2 q2 e2 (V.unb V3)) (fun y σ2 F2 H2 q2 e2 V3 => w2 y σ2 F2 H2 q2 e2 (V.unb V3)) (fun y σ2 F2 H2 q2 e2 V3 => w3 y σ2 F2 H2 q2 e2 (V.unb V3)) (fun y v F2 H2 q2 A r => w4 y v F2 H2 q2 (A.unb (F0 := F) V) r)
/-- a test that is known to fail -/
theorem s_if0 {c : TT} {t u : TS} {f : Pd τ θ ρ → Prop} (hc : Tt b G c (fun k => k false)) (hu : S b G u Gn Gl ro f) : S b G (tIfS c t u) Gn Gl ro f := fun σ F H D d V q w1 w2 w3 w4 => by
  refine hc (fun z => z = false) V rfl fun z F1 H1 q1 A1 V1 => ?_
  subst q1
  exact iteF (hu d V1 q (fun y σ2 F2 H2 q2 e2 => w1 y σ2 F2 H2 q2 (A1.ff.trans e2)) (fun y σ2 F2 H2 q2 e2 => w2 y σ2 F2 H2 q2 (A1.ff.trans e2)) (fun y σ2 F2 H2 q2 e2 => w3 y σ2 F2 H2 q2 (A1.ff.trans e2)) w4)
end
end Mi
/-! Mir13 -/
set_option Elab.async false
set_option linter.all false
set_option maxRecDepth 100000
set_option maxHeartbeats 4000000
/-! own things lent, dicts copied, unions with a new dict, a def with a bag and an own list inside a statement -/
namespace Mi
open PySem PySem.Spec L2 Dh
open _root_.Evl (Ex)
section
variable {K : PySem.W.Frag} {b : Bs} {G Gx : List Sl} {α β γ γ' δ τ τ' ρ ε ε' θ : Type} {Gn : τ → List Sl} {Gl : θ → List Sl} {ro : ρ → V → Hp → Hp → Prop} {σ : L2.St} {F H F' H' : Hp}
/-! ### an own thing lent to a call whose answer does not lean on it -/
def Free (r : R α) : Prop := ∀ {a v F F'}, r.h a v F → r.h a v F'
theorem free_bl : Free rBl := fun h => h
theorem free_int : Free rInt := fun h => h
theorem free_str : Free rStr := fun h => h
theorem e_lend {i : Nat} {p : Addr} {c : C γ} {r : R γ'} {y : γ} {wv : γ → γ'} {s : RI α} {rr : R β} (sc : Free rr) {g : γ' × α → (β → Prop) → Prop} {Ek : XK} {ta : TA} {f : (α → Prop) → Prop} (hi : G[i]? = some (own p c y)) (hr : ∀ u F, c.h y u F → F p = some u → r.h (wv y) (.ref p) F)
    (h : Ar b G ta s f) : E b G (tCall (spP (rCons r s) rr g) [] Ek (tCons (tVar i) ta)) rr (fun k => f fun x => g (wv y, x) k) := fun σ F H Q k V q w => by
  obtain ⟨o, h1, rfl, _⟩ := V.hold.at_ hi
  refine ⟨.ref p, h1, ?_⟩
  refine h _ V q ?_
  intro x vs F1 H1 q1 A1 V1 r1
  show spP (rCons r s) rr g ((.ref p :: vs) ++ []) H1 _ _
  rw [List.append_nil]
  obtain ⟨fp, u, hu, hc⟩ := V1.cAt hi
  have e1 : Ex F1 (upd F1 p u) := Ex.new fp
  have e2 : Ex (upd F1 p u) H1 := fun z o hz => by
    by_cases q : z = p
    · subst q; rw [upd_same] at hz; cases hz; exact hu
    · rw [upd_ne q] at hz; exact V1.fh _ _ hz
  refine ⟨(wv y, x), upd F1 p u, k, e2, ⟨.ref p, vs, rfl, hr u _ (c.ex e1 hc) upd_same, s.ex e1 r1⟩, q1, fun z v F2 H2 q2 A2 r2 => ?_⟩
  have B : After F1 H1 [] F1 H2 := ⟨Ex.refl _, (e1.trans A2.ff).trans A2.fh, A2.hh, A2.kp, fun _ h _ => h⟩
  exact w z v F1 H2 q2 (A1.trans (B.mono fun _ h => nomatch h)) (V1.step B) (sc r2)
/-! ### dicts -/
section
variable {κ : Type} {ke : κ → Key} {rk : R κ}
def rListD : List V → Hp → VK → Prop := fun xs H Q => ∃ (a : Addr) (kvs : List (Key × V)), xs = [.ref a] ∧ Rd H a (.dK kvs) ∧ ∀ p, H p = none → Q (.ref p) (upd H p (.lst (kvs.map fun kv => kV kv.1)))
def rDictD : List V → Hp → VK → Prop := fun xs H Q => ∃ (a : Addr) (kvs : List (Key × V)), xs = [.ref a] ∧ Rd H a (.dK kvs) ∧ ∀ p, H p = none → Q (.ref p) (upd H p (.dK kvs))
theorem cl_listD {X : Cx} (hc : X.calm = true) : CallR X (.type "list") rListD := call_listD hc
theorem cl_dictD {X : Cx} : CallR X (.type "dict") rDictD := call_dictD
/-- keys as they stand -/
structure KeyS (ke : κ → Key) (rk : R κ) : Prop where
  kv : ∀ {a F}, rk.h a (kV (ke a)) F
theorem ks_int : KeyS (Sum.inl : Int → Key) rInt := ⟨rfl⟩
theorem ks_str : KeyS (Sum.inr : Str → Key) rStr := ⟨rfl⟩
theorem kv_keys {r : R α} (R : KeyS ke rk) {F : Hp} {ps : List (κ × α)} {kvs : List (Key × V)} (h : KV' ke r F ps kvs) : All rk F (ps.map Prod.fst) (kvs.map fun kv => kV kv.1) := by
  induction h with
  | nil => exact .nil
  | cons h t ih => exact .cons (by show rk.h _ (kV _) F; rw [h.1]; exact R.kv) ih
theorem en_listD {te : TE} {r : R α} {f : (List (κ × α) → Prop) → Prop} (R : KeyS ke rk) (h : DV b G te ke r f) : EN b G (tCB rListD (tCons te tNil)) rk (fun k => f fun ps => k (ps.map Prod.fst)) := fun _ _ _ _ k V q w => by
  refine h _ V q ?_
  intro ps p F1 H1 q1 A1 V1 z
  obtain ⟨kvs, h1, h2⟩ := z F1 H1 (Ex.refl _) V1
  exact ⟨p, kvs, rfl, Rd.of h1, fun l hl => en_lay A1 V1 q1 (kv_keys R h2) w hl⟩
theorem enc_dictD {te : TE} {r : R α} {f : (List (κ × α) → Prop) → Prop} (h : DV b G te ke r f) : ENc b G (tCB rDictD (tCons te tNil)) (cDct ke r) f := fun σ F H Q k V q w => by
  refine h _ V q ?_
  intro ps p F1 H1 q1 A1 V1 z
  obtain ⟨kvs, h1, h2⟩ := z F1 H1 (Ex.refl _) V1
  refine ⟨p, kvs, rfl, Rd.of h1, fun l hl => ?_⟩
  have B := After.fresh (o := .dK kvs) V1.fh hl
  refine w ps l _ F1 _ q1 (A1.trans (B _)) (V1.step (B _)) ?_ (ex_none V1.fh hl) upd_same ⟨kvs, rfl, h2⟩
  cases e : H l with
  | none => rfl
  | some u => exact absurd hl (A1.kp l (by rw [e]; exact fun z => nomatch z))
theorem e_isiD {te : TE} {r : R α} {f : (List (κ × α) → Prop) → Prop} {c : String} {res : Bool} (hk : kitB "dict" c = some res) (h : DV b G te ke r f) : E b G (tCB (rIsi K) (tCons te (tCons (tC (.ty c)) tNil))) rBl (fun k => f fun _ => k res) := fun _ _ _ _ k V q w => by
  refine h _ V q ?_
  intro x p F1 H1 q1 A1 V1 z
  obtain ⟨kvs, k1, k2⟩ := z F1 H1 (Ex.refl _) V1
  exact ⟨_, _, _, _, res, rfl, .ty _, .base (.dK k1), kit_ty hk, w _ _ F1 H1 q1 A1 V1 rfl⟩
theorem ty_non : Ty1 K rNon "NoneType" := ⟨fun h _ => by cases h; exact .base .non⟩
end
/-- d[k] op= n, whole numbers -/
theorem s_daug {κ : Type} [DecidableEq κ] {ke : κ → Key} {rk : R κ} {i : Nat} {p : Addr} {tv tk : TE} {op : Int → Int → Int} {xs : List (κ × Int)} {f : (Int → Prop) → Prop} {g : (κ → Prop) → Prop} (R : KeyR ke rk) (hi : G[i]? = some (own p (cDct ke rInt) xs)) (hv : E b G tv rInt f) (hk : E b G tk rk g) :
    S b G (sDAug (tVar i) tk tv (ipI op)) (fun y : κ × Int => G.set i (own p (cDct ke rInt) (dPut xs y.1 y.2))) Gl ro (fun d => g fun x => ∃ a, dGet xs x = some a ∧ f fun n => xs.length < sizeLine ∧ d.nx (x, op a n)) := fun σ F H D d V q w1 _ _ _ => by
  obtain ⟨o, h1, rfl, _⟩ := V.hold.at_ hi
  refine ⟨.ref p, h1, ?_⟩
  refine hk _ V q ?_
  rintro x y F1 H1 ⟨a, ha, q1⟩ A1 V1 e
  cases R.kv e
  obtain ⟨_, _, _, u, h2, kvs, rfl, h3⟩ := V1.hold.at_ hi
  rcases h3.get R.inj (k := x) with ⟨e1, _⟩ | ⟨a', v, e1, e2, hr⟩
  · rw [ha] at e1; cases e1
  rw [ha] at e1; cases e1
  cases hr
  refine ⟨p, _, rfl, by rw [← e2]; exact DGet.k h2, ?_⟩
  refine hv _ V1 q1 ?_
  rintro n z F2 H2 ⟨l, q2⟩ A2 V2 e
  cases e
  obtain ⟨_, _, _, u, h2', kvs', rfl, h3'⟩ := V2.hold.at_ hi
  have hl : kvs'.length = xs.length := (Paired.length h3').symm
  refine ⟨_, _, rfl, rfl, _, DPut.k (k := ke x) h2' (by rw [hl]; exact l), w1 (x, op a n) _ F2 _ q2 (A1.ff.trans A2.ff) ?_⟩
  exact V2.cell hi ⟨_, rfl, h3'.put R.inj rfl⟩
/-! ### defs that give a new own thing, or an error -/
def RNh (H0 : Hp) (c : C β) (y : β) (v : V) (F H : Hp) : Prop := ∃ p u, v = .ref p ∧ H0 p = none ∧ F p = none ∧ H p = some u ∧ c.h y u F
def spXO (s : RI α) (c : C β) (x : Xp ε) (g : α → (β → Prop) → (ε → Prop) → Prop) : Sp := fun vs H Q E => ∃ (a : α) (F : Hp) (k : β → Prop) (kx : ε → Prop), Ex F H ∧ s.h a vs F ∧ g a k kx ∧
  (∀ y v F' H', k y → After F H [] F' H' → RNh H c y v F' H' → Q v H') ∧ (∀ e cls d F' H', kx e → After F H [] F' H' → x.h e cls d F' → E cls d H')
theorem spXO_len {s : RI α} {c : C β} {x : Xp ε} {g : α → (β → Prop) → (ε → Prop) → Prop} {vs : List V} {Q : VK} {Ek : XK} (h : spXO s c x g vs H Q Ek) : vs.length = s.n := by
  obtain ⟨a, F, k, kx, _, hs, _⟩ := h; exact s.ln hs
theorem enc_callXO {s : RI α} {c : C β} {gx : List Sl → Prop} {x : Xp ε} {kx : ε → Prop} {W : WX} {x' : Xp ε'} {j : ε' → ε} {g : α → (β → Prop) → (ε' → Prop) → Prop} {ta : TA} {f : (α → Prop) → Prop} (O : Out b gx x kx W) (hg : gx G) (hj : XSub x' x j) (h : Ar b G ta s f) :
    ENc b G (tCallS (spXO s c x' g) (WE W) ta) c (fun k => f fun a => g a k fun e => kx (j e)) := fun σ F H Q k V q w => by
  refine h _ V q ?_
  intro a vs F1 H1 q1 A1 V1 r1
  refine ⟨a, F1, k, fun e => kx (j e), V1.fh, r1, q1, fun y v F2 H2 q2 A2 ⟨p, u, e, h0, fp, hp, hc⟩ => ?_, fun e cls d F2 H2 q2 A2 hx => O hg q2 (V1.step A2) (hj _ _ _ _ hx)⟩
  subst e
  refine w y p u F2 H2 q2 (A1.trans (A2.mono fun _ h => nomatch h)) (V1.step A2) ?_ fp hp hc
  cases e : H p with
  | none => rfl
  | some z => exact absurd h0 (A1.kp p (by rw [e]; exact fun z => nomatch z))
theorem s_newcP {te : TE} {c : C γ} {i : Nat} {f : (γ → Prop) → Prop} {g : Addr → γ → Pd τ θ ρ → Prop} {t : TS} (h : ENc b G te c f) (ht : ∀ p a, p ∉ b.M → S b (G.set i (own p c a)) t Gn Gl ro (g p a)) :
    S b G (tSeq (tAsg te (gName i)) t) Gn Gl ro (fun d => f fun a => ∀ p, g p a d) := fun σ F H D d V q w1 w2 w3 w4 => by
  refine h _ V q ?_
  intro a p u F1 H1 q1 A1 V1 hp fp hp1 hA
  have hb : b.H p = none := by
    cases e : b.H p with
    | none => rfl
    | some u => exact absurd hp (V.kp p (by rw [e]; exact fun z => nomatch z))
  have nO : p ∉ owns G := fun z => V.hold.live p z hp
  have nM : p ∉ b.M := fun z => b.ml p z hb
  have e1 := A1.ff
  refine ht p a nM d ?_ (q1 p) (fun y σ2 F2 H2 q2 e2 => w1 y σ2 F2 H2 q2 (e1.trans e2)) (fun y σ2 F2 H2 q2 e2 => w2 y σ2 F2 H2 q2 (e1.trans e2)) (fun y σ2 F2 H2 q2 e2 => w3 y σ2 F2 H2 q2 (e1.trans e2)) w4
  obtain ⟨o1, o2⟩ := owns_setN (s := own p c a) (G := G) (i := i) rfl nO V1.nd
  refine ⟨V1.ff, V1.fh, V1.hh, V1.kp, V1.nf, V1.hold.set (s := own p c a) (show _ ∧ _ from ⟨rfl, _, hp1, hA⟩), o2, fun q hq => ?_⟩
  rcases o1 q hq with z | z
  · subst z; exact ⟨fp, .inr hb⟩
  · exact V1.on q z
end
end Mi
/-! Mir14 -/
set_option Elab.async false
set_option linter.all false
set_option maxRecDepth 100000
set_option maxHeartbeats 4000000
namespace Mi
open PySem PySem.Spec L2 Dh
open _root_.Evl (Ex)
section
variable {K : PySem.W.Frag} {b : Bs} {G Gx : List Sl} {α β γ γ' δ τ τ' ρ ε ε' θ : Type} {Gn : τ → List Sl} {Gl : θ → List Sl} {ro : ρ → V → Hp → Hp → Prop} {σ : L2.St} {F H F' H' : Hp}
theorem start_env {s : RI α} {N : List Str} {m : Nat} {vs : List V} {x : α} (e : Ex F H) (hs : s.h x vs F) (hN : N.length = s.n + m) : Env ⟨F, H, [], fun _ h => nomatch h⟩ (s.sl x ++ List.replicate m any) (L2.start N vs) F H := by
  have hl := s.ln hs
  have ow : owns (s.sl x ++ List.replicate m any) = [] := by rw [owns_app, s.no, owns_any]; rfl
  refine ⟨Ex.refl _, e, fun _ _ _ h => h, fun _ h => h, fun _ h _ => h, ?_, by rw [ow]; exact List.nodup_nil, fun p hp => by rw [ow] at hp; nomatch hp⟩
  unfold L2.start
  have : N.length - vs.length = m := by omega
  rw [this]
  exact paired_app' (s.hs hs) holds_any
theorem run_XO {s : RI α} {c : C β} {x : Xp ε} {g : α → (β → Prop) → (ε → Prop) → Prop} {N : List Str} {m : Nat} {t : TS} {vs : List V} {Q : VK} {Ek : XK} {Gn : Bs → α → τ → List Sl} {f : α → (ε → Prop) → Pd τ Unit β → Prop} (h : spXO s c x g vs H Q Ek) (hN : N.length = s.n + m)
    (hS : ∀ b a kx, b.M = [] → Out b (fun _ => True) x kx (fun cls d _ H => Ek cls d H) → S b (s.sl a ++ List.replicate m any) t (Gn b a) (fun _ : Unit => []) (RN b c) (f a kx)) (hg : ∀ a k kx, g a k kx → f a kx ⟨fun _ => False, fun _ => False, fun _ => False, k⟩) :
    t { nx := fun _ H' => Q .non H', rt := Q } (L2.start N vs) H := by
  obtain ⟨a, F, k, kx, e, hs, q, w, wx⟩ := h
  exact S.go (hS ⟨F, H, [], fun _ h => nomatch h⟩ a kx rfl (fun G e cls d σ F' H' _ q' V' hx => wx e cls d F' H' q' V'.after hx)) (L2.start N vs) F H _ ⟨fun _ => False, fun _ => False, fun _ => False, k⟩ (start_env e hs hN) (hg a k kx q) (fun _ _ _ _ h => h.elim) (fun _ _ _ _ h => h.elim) (fun _ _ _ _ h => h.elim) (fun y v F' H' hk A hr => w y v F' H' hk A hr)
/-! ### None, a text or a dict -/
abbrev Dt := List (Str × Int)
inductive Tu where
  | n
  | s (x : Str)
  | d (m : Dt)
abbrev kS : Str → Key := Sum.inr
def Tu.isS : Tu → Bool
  | .s _ => true
  | _ => false
def Tu.isD : Tu → Bool
  | .d _ => true
  | _ => false
def rTu : R Tu := ⟨fun t v F => match t with
  | .n => v = .non
  | .s x => v = .str x
  | .d m => (rDct kS rInt).h m v F, fun {t _ _ _} e h => by
    cases t with
    | n => exact h
    | s x => exact h
    | d m => exact (rDct kS rInt).ex e h⟩
theorem e_tuN {te : TE} {f : (Unit → Prop) → Prop} (h : E b G te rNon f) : E b G te rTu (fun k => f fun _ => k .n) := e_cast (r' := rTu) (g := fun _ => Tu.n) (fun _ _ _ h => h) h
theorem e_tuS {te : TE} {f : (Str → Prop) → Prop} (h : E b G te rStr f) : E b G te rTu (fun k => f fun x => k (.s x)) := e_cast (r' := rTu) (g := Tu.s) (fun _ _ _ h => h) h
theorem e_tuD {te : TE} {f : (Dt → Prop) → Prop} (h : E b G te (rDct kS rInt) f) : E b G te rTu (fun k => f fun x => k (.d x)) := e_cast (r' := rTu) (g := Tu.d) (fun _ _ _ h => h) h
theorem e_tuGetS {te : TE} {f : (Tu → Prop) → Prop} (h : E b G te rTu f) : E b G te rStr (fun k => f fun t => ∃ x, t = .s x ∧ k x) := fun _ _ _ _ k V q w => h _ V q fun t v F1 H1 ⟨x, e, q1⟩ A1 V1 r1 => by subst e; exact w x v F1 H1 q1 A1 V1 r1
theorem e_tuGetD {te : TE} {f : (Tu → Prop) → Prop} (h : E b G te rTu f) : E b G te (rDct kS rInt) (fun k => f fun t => ∃ x, t = .d x ∧ k x) := fun _ _ _ _ k V q w => h _ V q fun t v F1 H1 ⟨x, e, q1⟩ A1 V1 r1 => by subst e; exact w x v F1 H1 q1 A1 V1 r1
theorem frz_tu {m : Dt} {p : Addr} : ∀ u F, (cDct kS rInt).h m u F → F p = some u → rTu.h (.d m) (.ref p) F := fun u F h e => frz_dct u F h e
theorem e_isS {te : TE} {f : (Tu → Prop) → Prop} (h : E b G te rTu f) : E b G (tCB (rIsi K) (tCons te (tCons (tC (.ty "str")) tNil))) rBl (fun k => f fun t => k t.isS) := fun _ _ _ _ k V q w => by
  refine h _ V q ?_
  intro t v F1 H1 q1 A1 V1 r1
  cases t with
  | n => cases r1; exact ⟨_, _, _, _, false, rfl, .ty _, .base .non, kit_ty (show kitB "NoneType" "str" = some false by decide +kernel), w _ _ F1 H1 q1 A1 V1 rfl⟩
  | s x => cases r1; exact ⟨_, _, _, _, true, rfl, .ty _, .base (.str _), kit_ty (show kitB "str" "str" = some true by decide +kernel), w _ _ F1 H1 q1 A1 V1 rfl⟩
  | d m => obtain ⟨p, kvs, e, hp, _⟩ := r1; subst e; exact ⟨_, _, _, _, false, rfl, .ty _, .base (.dK (V1.fh _ _ hp)), kit_ty (show kitB "dict" "str" = some false by decide +kernel), w _ _ F1 H1 q1 A1 V1 rfl⟩
theorem e_isD {te : TE} {f : (Tu → Prop) → Prop} (h : E b G te rTu f) : E b G (tCB (rIsi K) (tCons te (tCons (tC (.ty "dict")) tNil))) rBl (fun k => f fun t => k t.isD) := fun _ _ _ _ k V q w => by
  refine h _ V q ?_
  intro t v F1 H1 q1 A1 V1 r1
  cases t with
  | n => cases r1; exact ⟨_, _, _, _, false, rfl, .ty _, .base .non, kit_ty (show kitB "NoneType" "dict" = some false by decide +kernel), w _ _ F1 H1 q1 A1 V1 rfl⟩
  | s x => cases r1; exact ⟨_, _, _, _, false, rfl, .ty _, .base (.str _), kit_ty (show kitB "str" "dict" = some false by decide +kernel), w _ _ F1 H1 q1 A1 V1 rfl⟩
  | d m => obtain ⟨p, kvs, e, hp, _⟩ := r1; subst e; exact ⟨_, _, _, _, true, rfl, .ty _, .base (.dK (V1.fh _ _ hp)), kit_ty (show kitB "dict" "dict" = some true by decide +kernel), w _ _ F1 H1 q1 A1 V1 rfl⟩
/-! ### a def that gives None, a text or a new dict -/
def RUh (H0 : Hp) (y : Tu) (v : V) (F H : Hp) : Prop := match y with
  | .n => v = .non
  | .s x => v = .str x
  | .d m => RNh H0 (cDct kS rInt) m v F H
def spU (s : RI α) (g : α → (Tu → Prop) → Prop) : Sp := fun vs H Q _ => ∃ (x : α) (F : Hp) (k : Tu → Prop), Ex F H ∧ s.h x vs F ∧ g x k ∧ ∀ y v F' H', k y → After F H [] F' H' → RUh H y v F' H' → Q v H'
theorem spU_len {s : RI α} {g : α → (Tu → Prop) → Prop} {vs : List V} {Q : VK} {Ek : XK} (h : spU s g vs H Q Ek) : vs.length = s.n := by
  obtain ⟨a, F, k, _, hs, _⟩ := h; exact s.ln hs
theorem run_U {s : RI α} {g : α → (Tu → Prop) → Prop} {N : List Str} {m : Nat} {t : TS} {vs : List V} {Q : VK} {Ek : XK} {Gn : Bs → α → τ → List Sl} {f : α → Pd τ Unit Tu → Prop} (h : spU s g vs H Q Ek) (hN : N.length = s.n + m)
    (hS : ∀ b x, b.M = [] → S b (s.sl x ++ List.replicate m any) t (Gn b x) (fun _ : Unit => []) (fun y v F H => RUh b.H y v F H) (f x)) (hg : ∀ x k, g x k → f x ⟨fun _ => False, fun _ => False, fun _ => False, k⟩) :
    t { nx := fun _ H' => Q .non H', rt := Q } (L2.start N vs) H := by
  obtain ⟨x, F, k, e, hs, q, w⟩ := h
  exact S.go (hS ⟨F, H, [], fun _ h => nomatch h⟩ x rfl) (L2.start N vs) F H _ ⟨fun _ => False, fun _ => False, fun _ => False, k⟩ (start_env e hs hN) (hg x k q) (fun _ _ _ _ h => h.elim) (fun _ _ _ _ h => h.elim) (fun _ _ _ _ h => h.elim) (fun y v F' H' hk A hr => w y v F' H' hk A hr)
theorem s_retUn {te : TE} {f : (Unit → Prop) → Prop} (h : E b G te rNon f) : S b G (tRet te) Gn Gl (fun y v F H => RUh b.H y v F H) (fun d => f fun _ => d.rt .n) := s_ret (g := fun _ => Tu.n) h fun a v σ F H V hr => hr
theorem s_retUs {te : TE} {f : (Str → Prop) → Prop} (h : E b G te rStr f) : S b G (tRet te) Gn Gl (fun y v F H => RUh b.H y v F H) (fun d => f fun x => d.rt (.s x)) := s_ret (g := Tu.s) h fun a v σ F H V hr => hr
theorem s_retUd {i : Nat} {p : Addr} {a : Dt} (hi : G[i]? = some (own p (cDct kS rInt) a)) (hm : b.M = []) : S b G (tRet (tVar i)) Gn Gl (fun y v F H => RUh b.H y v F H) (fun d => d.rt (.d a)) := fun σ F H D d V q _ _ _ w4 => by
  obtain ⟨o, h1, rfl, u, h2, h3⟩ := V.hold.at_ hi
  refine ⟨.ref p, h1, ?_⟩
  obtain ⟨f1, f2⟩ := V.on p (mem_owns hi List.mem_cons_self)
  exact w4 (.d a) _ F H q V.after ⟨p, u, rfl, f2.resolve_left (by rw [hm]; exact fun z => nomatch z), f1, h2, h3⟩
theorem e_ofU {s : RI α} {g : α → (Tu → Prop) → Prop} {Ek : XK} {ta : TA} {f : (α → Prop) → Prop} (h : Ar b G ta s f) : E b G (tCall (spU s g) [] Ek ta) rTu (fun k => f fun x => g x k) := fun σ F H Q k V q w => by
  refine h _ V q ?_
  intro x vs F1 H1 q1 A1 V1 r1
  show spU s g (vs ++ []) H1 _ _
  rw [List.append_nil]
  refine ⟨x, F1, k, V1.fh, r1, q1, fun y v F2 H2 q2 A2 hr => ?_⟩
  have A3 := A1.trans (A2.mono (M' := owns G) fun _ h => nomatch h)
  have V3 := V1.step A2
  cases y with
  | n => exact w .n v F2 H2 q2 A3 V3 hr
  | s x => exact w (.s x) v F2 H2 q2 A3 V3 hr
  | d m =>
    obtain ⟨p, u, e, h0, fp, hp, hc⟩ := hr
    subst e
    have h0' : H p = none := by
      cases e : H p with
      | none => rfl
      | some z => exact absurd h0 (A1.kp p (by rw [e]; exact fun z => nomatch z))
    obtain ⟨A4, V4⟩ := thaw V A3 V3 h0' fp hp
    exact w (.d m) _ _ H2 q2 A4 V4 (frz_tu u _ ((cDct kS rInt).ex (Ex.new fp) hc) upd_same)
/-- x = such a call: what follows, by what has come -/
theorem s_newU {s : RI α} {g : α → (Tu → Prop) → Prop} {Ek : XK} {ta : TA} {i : Nat} {f : (α → Prop) → Prop} {t : TS} {g0 : Pd τ θ ρ → Prop} {gs : Str → Pd τ θ ρ → Prop} {gd : Dt → Pd τ θ ρ → Prop} (h : Ar b G ta s f)
    (h0 : S b (G.set i (val rNon ())) t Gn Gl ro g0) (hs : ∀ x, S b (G.set i (val rStr x)) t Gn Gl ro (gs x)) (hd : ∀ p m, p ∉ b.M → S b (G.set i (own p (cDct kS rInt) m)) t Gn Gl ro (gd m)) :
    S b G (tSeq (tAsg (tCall (spU s g) [] Ek ta) (gName i)) t) Gn Gl ro (fun d => f fun x => g x fun y => (y = .n → g0 d) ∧ (∀ x, y = .s x → gs x d) ∧ ∀ m, y = .d m → gd m d) := fun σ F H D d V q w1 w2 w3 w4 => by
  refine h _ V q ?_
  intro x vs F1 H1 q1 A1 V1 r1
  show spU s g (vs ++ []) H1 _ _
  rw [List.append_nil]
  refine ⟨x, F1, _, V1.fh, r1, q1, fun y v F2 H2 q2 A2 hr => ?_⟩
  have e1 := A1.ff.trans A2.ff
  have V3 := V1.step A2
  have k1 : ∀ y σ2 F3 H3, d.nx y → Ex F2 F3 → Env b (Gn y) σ2 F3 H3 → D.nx σ2 H3 := fun y σ2 F3 H3 q e2 => w1 y σ2 F3 H3 q (e1.trans e2)
  have k2 : ∀ y σ2 F3 H3, d.ct y → Ex F2 F3 → Env b (Gl y) σ2 F3 H3 → D.ct σ2 H3 := fun y σ2 F3 H3 q e2 => w2 y σ2 F3 H3 q (e1.trans e2)
  have k3 : ∀ y σ2 F3 H3, d.bk y → Ex F2 F3 → Env b (Gl y) σ2 F3 H3 → D.bk σ2 H3 := fun y σ2 F3 H3 q e2 => w3 y σ2 F3 H3 q (e1.trans e2)
  cases y with
  | n => exact h0 d (V3.set (s := val rNon ()) (o := some v) ⟨_, rfl, hr⟩ rfl) (q2.1 rfl) k1 k2 k3 w4
  | s x => exact hs x d (V3.set (s := val rStr x) (o := some v) ⟨_, rfl, hr⟩ rfl) (q2.2.1 x rfl) k1 k2 k3 w4
  | d m =>
    obtain ⟨p, u, e, hp0, fp, hp, hc⟩ := hr
    subst e
    have hp1 : H p = none := by
      cases e : H p with
      | none => rfl
      | some z => exact absurd hp0 (A1.kp p (by rw [e]; exact fun z => nomatch z))
    have hb : b.H p = none := by
      cases e : b.H p with
      | none => rfl
      | some u => exact absurd hp1 (V.kp p (by rw [e]; exact fun z => nomatch z))
    have nO : p ∉ owns G := fun z => V.hold.live p z hp1
    have nM : p ∉ b.M := fun z => b.ml p z hb
    refine hd p m nM d ?_ (q2.2.2 m rfl) k1 k2 k3 w4
    obtain ⟨o1, o2⟩ := owns_setN (s := own p (cDct kS rInt) m) (G := G) (i := i) rfl nO V3.nd
    refine ⟨V3.ff, V3.fh, V3.hh, V3.kp, V3.nf, V3.hold.set (s := own p (cDct kS rInt) m) (show _ ∧ _ from ⟨rfl, _, hp, hc⟩), o2, fun q hq => ?_⟩
    rcases o1 q hq with z | z
    · subst z; exact ⟨fp, .inr hb⟩
    · exact V3.on q z
end
end Mi
/-! Mir15 -/
set_option Elab.async false
set_option linter.all false
set_option maxRecDepth 100000
set_option maxHeartbeats 4000000
namespace Mi
open PySem PySem.Spec L2 Dh
open _root_.Evl (Ex)
section
variable {K : PySem.W.Frag} {b : Bs} {G Gx : List Sl} {α β γ γ' δ τ τ' ρ ε ε' θ : Type} {Gn : τ → List Sl} {Gl : θ → List Sl} {ro : ρ → V → Hp → Hp → Prop} {σ : L2.St} {F H F' H' : Hp}
theorem i_callBL {rl : R γ} {r : R β} {g : List γ → (β × List γ → Prop) → Prop} {Ek : XK} {i j : Nat} {p q : Addr} {us : List γ} {k : β × List γ → Prop} {Q : VK} (hi : G[i]? = some (own p cBag ())) (hj : G[j]? = some (own q (cLst rl) us)) (ij : i ≠ j) (V : Env b G σ F H) (hq : g us k)
    (w : ∀ y v F' H', k y → After F H (owns G) F' H' → Env b (G.set j (own q (cLst rl) y.2)) σ F' H' → r.h y.1 v F' → Q v H') : tCall (spBL rl r g) [] Ek (tCons (tVar i) (tCons (tVar j) tNil)) σ H Q := by
  obtain ⟨o, h1, rfl, _⟩ := V.hold.at_ hi
  obtain ⟨o, h2, rfl, _⟩ := V.hold.at_ hj
  obtain ⟨fp, Bp⟩ := V.bagAt hi
  obtain ⟨fq, Bq⟩ := V.cAt hj
  have pq : p ≠ q := fun z => owns_disj hi hj ij V.nd List.mem_cons_self (by rw [z]; exact List.mem_cons_self)
  refine ⟨.ref p, h1, .ref q, h2, ?_⟩
  have hp := mem_owns hi List.mem_cons_self
  have hq' := mem_owns hj List.mem_cons_self
  refine ⟨p, q, us, F, k, rfl, pq, fp, fq, Bp, Bq, V.fh, hq, fun y v F2 H2 k2 A B1 B2 hr => w y v F2 H2 k2 (A.mono fun x hx => ?_) ?_ hr⟩
  · rcases List.mem_cons.mp hx with z | z
    · rw [z]; exact hp
    · rw [List.mem_singleton.mp z]; exact hq'
  have e : owns (G.set j (own q (cLst rl) y.2)) = owns G := owns_same hj rfl
  obtain ⟨l, b1, b2⟩ := B1
  obtain ⟨u, c1, c2⟩ := B2
  refine V.step0 A (fun x hx => ?_) (fun x hx => by rw [← e]; exact hx) (by rw [e]; exact V.nd) (Holds.of (by rw [List.length_set]; exact V.hold.len) fun m t o m1 m2 => ?_)
  · rcases List.mem_cons.mp hx with z | z
    · rw [z]; exact hp
    · rw [List.mem_singleton.mp z]; exact hq'
  · by_cases z : j = m
    · subst z
      rw [List.getElem?_set_self (List.getElem?_eq_some_iff.mp hj).1] at m1
      cases m1
      rw [h2] at m2; cases m2
      exact ⟨rfl, u, c1, c2⟩
    · rw [List.getElem?_set_ne z] at m1
      by_cases z2 : i = m
      · subst z2
        rw [hi] at m1; cases m1
        rw [h1] at m2; cases m2
        exact ⟨rfl, _, b1, l, rfl, b2⟩
      · obtain ⟨o', h3, h4⟩ := V.hold.at_ m1
        rw [m2] at h3; cases h3
        refine t.up A.ff (fun x hx u hu => A.hh x u (fun zz => ?_) hu) h4
        rcases List.mem_cons.mp zz with e1 | e1
        · subst e1; exact owns_disj hi m1 z2 V.nd List.mem_cons_self hx
        · have e1 := List.mem_singleton.mp e1
          subst e1; exact owns_disj hj m1 z V.nd List.mem_cons_self hx
/-- d[f(bag, names)] = .. -/
theorem s_dputBL {ra : R α} {rl : R γ} {g : List γ → (Str × List γ → Prop) → Prop} {Ek : XK} {i j m : Nat} {p q d0 : Addr} {us : List γ} {xs : List (Str × α)} {tv : TE} {f : (α → Prop) → Prop} (hi : G[i]? = some (own p cBag ())) (hj : G[j]? = some (own q (cLst rl) us)) (ij : i ≠ j)
    (hm : G[m]? = some (own d0 (cDct kS ra) xs)) (jm : j ≠ m) (hv : E b G tv ra f) :
    S b G (sDPut (tVar m) (tCall (spBL rl rStr g) [] Ek (tCons (tVar i) (tCons (tVar j) tNil))) tv) (fun y : α × Str × List γ => (G.set j (own q (cLst rl) y.2.2)).set m (own d0 (cDct kS ra) (dPut xs y.2.1 y.1))) Gl ro
      (fun d => f fun a => g us fun y => xs.length < sizeLine ∧ d.nx (a, y)) := fun σ F H D d V hq w1 _ _ _ => by
  refine hv _ V hq ?_
  intro a v F1 H1 q1 A1 V1 r1
  obtain ⟨o, h1, rfl, _⟩ := V1.hold.at_ hm
  refine ⟨.ref d0, h1, ?_⟩
  refine i_callBL hi hj ij V1 q1 fun y kv F2 H2 q2 A2 V2 hr => ?_
  cases hr
  have hm' : (G.set j (own q (cLst rl) y.2))[m]? = some (own d0 (cDct kS ra) xs) := by rw [List.getElem?_set_ne jm]; exact hm
  obtain ⟨_, _, _, u, h2, kvs, rfl, h3⟩ := V2.hold.at_ hm'
  have hl : kvs.length = xs.length := (Paired.length h3).symm
  refine ⟨d0, _, rfl, DPut.k (k := kS y.1) h2 (by rw [hl]; exact q2.1), w1 (a, y) _ F2 _ q2.2 (A1.ff.trans A2.ff) ?_⟩
  exact V2.cell hm' ⟨_, rfl, h3.put inr_inj (ra.ex A2.ff r1)⟩
/-- x = [f(bag, names), f(bag, names)] -/
theorem s_lstBL2 {rl : R γ} {r : R β} {g : List γ → (β × List γ → Prop) → Prop} {Ek Ek2 : XK} {i j m : Nat} {p q : Addr} {us : List γ} (hi : G[i]? = some (own p cBag ())) (hj : G[j]? = some (own q (cLst rl) us)) (ij : i ≠ j) :
    S b G (tAsg (tLst (tCons (tCall (spBL rl r g) [] Ek (tCons (tVar i) (tCons (tVar j) tNil))) (tCons (tCall (spBL rl r g) [] Ek2 (tCons (tVar i) (tCons (tVar j) tNil))) tNil))) (gName m))
      (fun y : (β × List γ) × (β × List γ) => (G.set j (own q (cLst rl) y.2.2)).set m (val (rLst r) [y.1.1, y.2.1])) Gl ro (fun d => g us fun y => g y.2 fun z => d.nx (y, z)) := fun σ F H D d V hq w1 _ _ _ => by
  refine i_callBL hi hj ij V hq fun y v F1 H1 q1 A1 V1 r1 => ?_
  have hi' : (G.set j (own q (cLst rl) y.2))[i]? = some (own p cBag ()) := by rw [List.getElem?_set_ne (Ne.symm ij)]; exact hi
  have hj' : (G.set j (own q (cLst rl) y.2))[j]? = some (own q (cLst rl) y.2) := List.getElem?_set_self (List.getElem?_eq_some_iff.mp hj).1
  refine i_callBL hi' hj' ij V1 q1 fun z u F2 H2 q2 A2 V2 r2 => ?_
  rw [List.set_set] at V2
  refine ⟨by show 2 ≤ sizeLine; decide, fun l hl => ?_⟩
  have B := After.new (o := .lst [v, u]) V2.fh hl
  refine w1 (y, z) _ _ _ q2 ((A1.ff.trans A2.ff).trans B.ff) ?_
  exact (V2.step B).set (s := val (rLst r) [y.1, z.1]) (o := some (.ref l)) ⟨_, rfl, l, [v, u], rfl, upd_same, .cons (r.ex (A2.ff.trans B.ff) r1) (.cons (r.ex B.ff r2) .nil)⟩ rfl
/-! ### {k: d[k] for k in d} -/
theorem putK_new {xs : List (Key × V)} {k : Key} {v : V} (h : k ∉ xs.map (·.1)) : putK xs k v = xs ++ [(k, v)] := by
  unfold putK
  rw [if_neg]
  intro z
  obtain ⟨y, hy, e⟩ := List.any_eq_true.mp z
  exact h (by rw [← of_decide_eq_true e]; exact List.mem_map_of_mem hy)
theorem kv_ke {κ : Type} {ke : κ → Key} {r : R α} {F : Hp} {ps : List (κ × α)} {kvs : List (Key × V)} (h : KV' ke r F ps kvs) : kvs.map (·.1) = (ps.map Prod.fst).map ke := by
  induction h with
  | nil => rfl
  | cons h t ih => rw [List.map_cons, List.map_cons, List.map_cons, ih, h.1]
theorem find_nd : ∀ {kvs : List (Key × V)} {n : Nat} {k : Key} {v : V}, (kvs.map (·.1)).Nodup → kvs[n]? = some (k, v) → valV kvs k = some v
  | [], n, k, v, _, h => by simp at h
  | (k0, v0) :: r, 0, k, v, nd, h => by
    simp at h
    obtain ⟨rfl, rfl⟩ := h
    unfold valV; simp
  | (k0, v0) :: r, n + 1, k, v, nd, h => by
    have h' : r[n]? = some (k, v) := by simpa using h
    rw [List.map_cons, List.nodup_cons] at nd
    have ne : k0 ≠ k := fun z => nd.1 (by rw [show (k0, v0).1 = k0 from rfl, z]; exact List.mem_map_of_mem (f := (·.1)) (List.mem_of_getElem? h'))
    have := find_nd nd.2 h'
    unfold valV at this ⊢
    rw [List.find?_cons, show decide ((k0, v0).1 = k) = false from decide_eq_false ne]
    exact this
theorem enc_dcopy {κ : Type} {ke : κ → Key} (inj : ∀ a c, ke a = ke c → a = c) {r : R α} {i j : Nat} {ps : List (κ × α)} (ij : i ≠ j) (hi : G[i]? = some any) (hj : G[j]? = some (val (rDct ke r) ps)) :
    ENc b G (tLockE (tDc (iKeys (tVar j)) (gName i) tYes (tVar i) (tDGet (tVar j) (tVar i)) [i])) (cDct ke r) (fun k => (ps.map Prod.fst).Nodup ∧ ps.length < sizeLine ∧ k ps) := fun σ F H Q k V ⟨nd, hlen, q⟩ w => by
  obtain ⟨o, h1, v, rfl, d, kvs, rfl, hF, hK⟩ := V.hold.at_ hj
  have hd : H d = some (.dK kvs) := V.fh _ _ hF
  have hl : kvs.length = ps.length := (Paired.length hK).symm
  have ndk : (kvs.map (·.1)).Nodup := by
    have e := kv_ke hK
    rw [e]
    exact List.Pairwise.map _ (fun a c h z => h (inj _ _ z)) nd
  refine ⟨d, .dK kvs, hd, trivial, fun od => ⟨.ref d, h1, d, od, rfl, .inl ⟨kvs, upd_same, fun D hD => ?_⟩⟩⟩
  have nD : D ≠ d := fun z => by rw [z, upd_same] at hD; cases hD
  have hD' : H D = none := by rw [upd_ne nD] at hD; exact hD
  have atd : ∀ n, upd (upd H d (.frz od (.dK kvs))) D (.dK (kvs.take n)) d = some (.frz od (.dK kvs)) := fun n => by rw [upd_ne (Ne.symm nD), upd_same]
  refine ⟨fun n m Hx => n ≤ kvs.length ∧ m = kvs.length - n ∧ Hx = upd (upd H d (.frz od (.dK kvs))) D (.dK (kvs.take n)), ⟨_, Nat.zero_le _, rfl, rfl⟩, fun n m Hx ⟨n1, n2, n3⟩ => ?_⟩
  subst n3
  by_cases hn : n < kvs.length
  · refine .inr ⟨⟨atd n, hn⟩, fun Hx => Hx = upd (upd H d (.frz od (.dK kvs))) D (.dK (kvs.take (n + 1))), fun H' e => ⟨kvs.length - (n + 1), by omega, by omega, rfl, e⟩, ?_⟩
    rintro x H' ⟨e, kk, vv, hk, ex⟩
    subst e; subst ex
    have hw : wipe σ [i] = σ.set i none := rfl
    show wipe (((wipe σ [i]).set i (some (kV kk)))) [i] = wipe σ [i] ∧ _
    refine ⟨by rw [hw]; show (((σ.set i none).set i _).set i none) = _; rw [List.set_set, List.set_set], ?_⟩
    have hil : i < σ.length := by rw [← V.hold.len]; exact (List.getElem?_eq_some_iff.mp hi).1
    have si : ((wipe σ [i]).set i (some (kV kk)))[i]? = some (some (kV kk)) := by rw [hw, List.set_set, List.getElem?_set_self hil]
    have sj : ((wipe σ [i]).set i (some (kV kk)))[j]? = some (some (.ref d)) := by rw [hw, List.set_set, List.getElem?_set_ne ij]; exact h1
    unfold tYes
    dsimp only []
    rw [if_pos rfl]
    have hnk : kk ∉ (kvs.take n).map (·.1) := fun z => by
      rw [List.map_take] at z
      obtain ⟨x, hx, ex⟩ := List.mem_iff_getElem.mp z
      rw [List.getElem_take] at ex
      have hxl : x < n := by rw [List.length_take] at hx; omega
      have e2 : (kvs.map (·.1))[n]? = some kk := by rw [List.getElem?_map, hk]; rfl
      obtain ⟨hn2, e3⟩ := List.getElem?_eq_some_iff.mp e2
      exact List.pairwise_iff_getElem.mp ndk x n (by omega) hn2 hxl (ex.trans e3.symm)
    refine ⟨kV kk, si, .ref d, sj, kV kk, si, d, vv, rfl, .inl ⟨kvs, kk, .inr ⟨od, atd n⟩, rfl, (find_nd ndk hk).symm⟩, kvs.take n, kk, rfl, upd_same, by rw [List.length_take]; omega, ?_⟩
    show upd _ D _ = _
    rw [putK_new hnk, List.take_add_one, hk]
    funext x
    by_cases z : x = D
    · subst z; rw [upd_same, upd_same]; rfl
    · rw [upd_ne z, upd_ne z, upd_ne z]
  · have e : n = kvs.length := by omega
    subst e
    refine .inl ⟨⟨atd _, Nat.le_refl _⟩, atd _, ?_⟩
    have e : upd (upd (upd H d (.frz od (.dK kvs))) D (.dK (kvs.take kvs.length))) d (.dK kvs) = upd H D (.dK kvs) := by
      funext x
      rw [List.take_length]
      by_cases z : x = d
      · subst z; rw [upd_same, upd_ne (Ne.symm nD)]; exact hd.symm
      · rw [upd_ne z]
        by_cases z2 : x = D
        · subst z2; rw [upd_same, upd_same]
        · rw [upd_ne z2, upd_ne z2, upd_ne z]
    rw [e]
    have B := After.fresh (o := .dK kvs) V.fh hD'
    exact w ps D _ F _ q (B _) (V.step (B _)) hD' (ex_none V.fh hD') upd_same ⟨kvs, rfl, hK⟩
end
end Mi
/-! DcSet -/
set_option Elab.async false
set_option linter.all false
set_option maxRecDepth 100000
set_option maxHeartbeats 4000000
namespace L2
open PySem PySem.Spec PyProof.Rows
section
variable {X : Cx}
theorem sw_trueD {kx vx : Expr} {gs : List Comprehension} {scope : Scope} {pos py : Pos} {y : Str} {l : Nat} {env : Env} (hk : env.scope.kind = .function) (hy : env.scope.names.lookup y = some .local) (hl : (py.line == pos.line) = true)
    (ha : (scope.names.any fun (n, k) => n == y && (k == .local || k == .cell)) = false) : swapsWith (.DictComp kx vx gs scope pos) (some (.Name y py)) l env = pure true := by
  have ky : env.kindOf y = some .local := hy
  have hb : env.blockKind = .function := by unfold Env.blockKind; rw [hk]; rfl
  unfold swapsWith
  simp only [hb, ky, ha, Expr.pos, hl]
  rfl
theorem ps_setDc {i : Nat} {y : Str} {py : Pos} {kx vx tg iter : Expr} {ifs : List Expr} {scope : Scope} {own : List (Str × Nat)} {pos spos : Pos} {wi : TI} {g : TG} {tt : TT} {tk tv : TE} (hc : X.calm = true) (hN : X.N.Nodup) (hy : X.N[i]? = some y) (hyl : X.env.scope.names.lookup y = some .local)
    (hsw : swapsWith (.DictComp kx vx [⟨tg, iter, ifs, 0⟩] scope pos) (some (.Name y py)) spos.line X.env = pure true) (hi : PI X tg iter wi) (ok : BlkOk X.N X.env.scope scope own)
    (hg : ∀ (s : Shared) (H : Hp) (C : Addr) (cl : List (Str × Addr)) (fp : List Addr), PG (X.blk s H scope (compEnvC scope cl C X.env) fp) tg g) (ht : ∀ (s : Shared) (H : Hp) (C : Addr) (cl : List (Str × Addr)) (fp : List Addr), PTs (X.blk s H scope (compEnvC scope cl C X.env) fp) ifs tt)
    (hk : ∀ (s : Shared) (H : Hp) (C : Addr) (cl : List (Str × Addr)) (fp : List Addr), PE (X.blk s H scope (compEnvC scope cl C X.env) fp) kx tk)
    (he : ∀ (s : Shared) (H : Hp) (C : Addr) (cl : List (Str × Addr)) (fp : List Addr), PE (X.blk s H scope (compEnvC scope cl C X.env) fp) vx tv) (hs : ∀ x, foldedSetIterable iter X.env x = pure x := by intro _; rfl) :
    PS X (.Assign [.Name y py] (.DictComp kx vx [⟨tg, iter, ifs, 0⟩] scope pos) spos) (tAsg (tLockE (tDc wi g tt tk tv (own.map (·.2)))) (gName i)) := by
  refine ps_lock (t := tAsg (tDc wi g tt tk tv (own.map (·.2))) (gName i)) ⟨fun pins s σ H D I h => ?_⟩
  rw [exec_Assign_Name_used _ _ _ _ hsw]
  refine wpAny_bind (wpAny_standAt (wpAny_bind ?_))
  rw [arm_evalThenUse_DictComp]
  have h : tDc wi g tt tk tv (own.map (·.2)) σ H (fun x H1 => gName i x σ H1 D.nx) := h
  refine wpAny_bind (thn (dc_core (Qf := fun _ s' => SP X pins D .next s') hc hN I hi ok hg ht hk he hs h fun L C s' m H' I' q hn f => ?_) fun _ s' hq => wpAny_pure (wpAny_pure hq))
  show wpAny _ _ (assign (.Name y py) X.env (.ref L)) _ _ _
  refine wpAny_assign_Name (store_ok2 (v := V.ref L) I' hN hy (.inl hyl) rfl (fun s2 I2 ⟨a, sb, ha⟩ => ?_) (.inr hyl))
  obtain ⟨f0, f1, f2, f3, f4, f5⟩ := f
  have haC : C ≠ a := by
    rcases ha with z | z
    · rw [z]; exact f1
    · exact fun e => f4 y a z e.symm
  exact ⟨m, hn.sameBut sb haC, fun h3 sb3 => ⟨_, H', I2.turned (t' := s2.toks) (fun b o hb e => (sb3.2 b hb).trans e) f0 f1 f3 f4 f5, q⟩⟩
end
end L2
/-! Mir16 -/
set_option Elab.async false
set_option linter.all false
set_option maxRecDepth 100000
set_option maxHeartbeats 4000000
/-! things of own classes: their fields, how they are made, their methods -/
namespace Mi
open PySem PySem.Spec L2 Dh
open _root_.Evl (Ex)
/-! ### fields -/
structure FK (α : Type) where
  h : α → List (Str × V) → Hp → Prop
  ex : ∀ {a v F F'}, Ex F F' → h a v F → h a v F'
  ns : List Str
  nn : ∀ {a v F}, h a v F → v.map (·.1) = ns
def fNil : FK Unit := ⟨fun _ fs _ => fs = [], fun _ h => h, [], fun h => by rw [h]; rfl⟩
def fOne {α : Type} (n : Str) (r : R α) : FK α := ⟨fun a fs F => ∃ v, fs = [(n, v)] ∧ r.h a v F, fun e ⟨v, h1, h2⟩ => ⟨v, h1, r.ex e h2⟩, [n], fun ⟨v, h, _⟩ => by rw [h]; rfl⟩
def fCons {α β : Type} (n : Str) (r : R α) (s : FK β) : FK (α × β) := ⟨fun a fs F => ∃ v ws, fs = (n, v) :: ws ∧ r.h a.1 v F ∧ s.h a.2 ws F, fun e ⟨v, ws, h1, h2, h3⟩ => ⟨v, ws, h1, r.ex e h2, s.ex e h3⟩, n :: s.ns, fun ⟨v, ws, h, _, h2⟩ => by rw [h, List.map_cons, s.nn h2]⟩
section
variable {K : PySem.W.Frag} {b : Bs} {G Gx : List Sl} {α β γ γ' δ τ τ' ρ ε ε' θ : Type} {Gn : τ → List Sl} {Gl : θ → List Sl} {ro : ρ → V → Hp → Hp → Prop} {σ : L2.St} {F H F' H' : Hp}
/-- the field n -/
def FAt (s : FK α) (n : Str) (r : R β) (g : α → β) : Prop := ∀ {a fs F}, s.h a fs F → ∃ v, fs.lookup n = some v ∧ r.h (g a) v F
theorem fa_one {n : Str} {r : R α} : FAt (fOne n r) n r (fun a => a) := fun ⟨v, e, h⟩ => ⟨v, by rw [e, List.lookup_cons, beq_self_eq_true], h⟩
theorem fa_hd {n : Str} {r : R α} {s : FK β} : FAt (fCons n r s) n r (fun a => a.1) := fun ⟨v, ws, e, h, _⟩ => ⟨v, by rw [e, List.lookup_cons, beq_self_eq_true], h⟩
theorem fa_tl {n m : Str} {r : R α} {s : FK β} {rr : R γ} {g : β → γ} (ne : (m == n) = false) (h : FAt s m rr g) : FAt (fCons n r s) m rr (fun a => g a.2) := fun ⟨v, ws, e, _, h2⟩ => by
  obtain ⟨u, h3, h4⟩ := h h2
  exact ⟨u, by rw [e, List.lookup_cons, ne]; exact h3, h4⟩
theorem fk_no {s : FK α} {m : Str} (h : m ∉ s.ns) {a : α} {fs : List (Str × V)} {F : Hp} (q : s.h a fs F) : fs.lookup m = none := by
  have e := s.nn q
  rw [← e] at h
  clear e q
  induction fs with
  | nil => rfl
  | cons x fs ih =>
    rw [List.map_cons, List.mem_cons, not_or] at h
    rw [List.lookup_cons, show (m == x.1) = false from beq_eq_false_iff_ne.mpr h.1]
    exact ih h.2
/-- s with the new field n behind it is s' -/
def Fn (s : FK α) (s' : FK δ) (n : Str) (r : R γ) (g : α → γ → δ) : Prop := n ∉ s.ns ∧ s.ns.length < 900 ∧ ∀ a x fs v F, s.h a fs F → r.h x v F → s'.h (g a x) (fs ++ [(n, v)]) F
theorem fn_nil {n : Str} {r : R γ} : Fn fNil (fOne n r) n r (fun _ x => x) := ⟨fun z => (by nomatch z), (by show 0 < 900; decide), fun a x fs v F e hr => ⟨v, by rw [show fs = [] from e]; rfl, hr⟩⟩
theorem fn_one {m n : Str} {q : R α} {r : R γ} (ne : (n == m) = false) : Fn (fOne m q) (fCons m q (fOne n r)) n r (fun a x => (a, x)) :=
  ⟨fun z => (by rw [List.mem_singleton.mp z, beq_self_eq_true] at ne; cases ne), (by show 1 < 900; decide), fun a x fs v F ⟨w, e, h⟩ hr => ⟨w, [(n, v)], by rw [e]; rfl, h, v, rfl, hr⟩⟩
theorem fn_cons {m n : Str} {q : R β} {s : FK α} {s' : FK δ} {r : R γ} {g : α → γ → δ} (ne : (n == m) = false) (h : Fn s s' n r g) (hl : s.ns.length < 800) : Fn (fCons m q s) (fCons m q s') n r (fun a x => (a.1, g a.2 x)) :=
  ⟨fun z => by
    rcases List.mem_cons.mp z with z | z
    · rw [z, beq_self_eq_true] at ne; cases ne
    · exact h.1 z, (by show s.ns.length + 1 < 900; omega), fun a x fs v F ⟨w, ws, e, h1, h2⟩ hr => ⟨w, ws ++ [(n, v)], by rw [e]; rfl, h1, h.2.2 _ _ _ _ _ h2 hr⟩⟩
theorem putF_new {f : Str} {v : V} : ∀ {fs : List (Str × V)}, f ∉ fs.map (·.1) → putF f v fs = fs ++ [(f, v)]
  | [], _ => rfl
  | (g, x) :: r, h => by
    rw [List.map_cons, List.mem_cons, not_or] at h
    show (if g = f then _ else _) = _
    rw [if_neg (fun z => h.1 z.symm), putF_new h.2]; rfl
/-- the field n set anew -/
def FUp (s : FK α) (n : Str) (r : R γ) (up : α → γ → α) : Prop := ∀ {a x fs v F}, s.h a fs F → r.h x v F → s.h (up a x) (putF n v fs) F
theorem fu_one {n : Str} {r : R α} : FUp (fOne n r) n r (fun _ x => x) := fun ⟨w, e, h⟩ hr => ⟨_, by rw [e]; show (if n = n then _ else _) = _; rw [if_pos rfl], hr⟩
theorem fu_hd {n : Str} {r : R α} {s : FK β} : FUp (fCons n r s) n r (fun a x => (x, a.2)) := fun ⟨w, ws, e, h, h2⟩ hr => ⟨_, ws, by rw [e]; show (if n = n then _ else _) = _; rw [if_pos rfl], hr, h2⟩
theorem fu_tl {n m : Str} {r : R α} {s : FK β} {rr : R γ} {up : β → γ → β} (ne : (n == m) = false) (h : FUp s m rr up) : FUp (fCons n r s) m rr (fun a x => (a.1, up a.2 x)) := fun ⟨w, ws, e, h1, h2⟩ hr => ⟨w, _, by
  rw [e]; show (if n = m then _ else _) = _; rw [if_neg (fun z => by rw [z, beq_self_eq_true] at ne; cases ne)], h1, h h2 hr⟩
/-! ### a thing: own, and as a value -/
def cIns (Cl : Addr) (s : FK α) : C α := ⟨fun a u F => ∃ dx fs, u = .ins Cl dx fs ∧ s.h a fs F, fun e ⟨dx, fs, h1, h2⟩ => ⟨dx, fs, h1, s.ex e h2⟩⟩
def rIns (C : Addr) (s : FK α) : R α := ⟨fun a v F => ∃ p dx fs, v = .ref p ∧ F p = some (.ins C dx fs) ∧ s.h a fs F, fun e ⟨p, dx, fs, h1, h2, h3⟩ => ⟨p, dx, fs, h1, e _ _ h2, s.ex e h3⟩⟩
theorem frz_ins {C : Addr} {s : FK α} {a : α} : ∀ {p : Addr} (u : HO) (F : Hp), (cIns C s).h a u F → F p = some u → (rIns C s).h a (.ref p) F := fun u F ⟨dx, fs, h1, h2⟩ h => ⟨_, dx, fs, rfl, h1 ▸ h, h2⟩
theorem nn_ins {C : Addr} {s : FK α} : NN (rIns C s) := fun ⟨p, dx, fs, h1, _⟩ => by rw [h1]; exact fun z => nomatch z
/-- e.n -/
theorem e_fldV {C : Addr} {s : FK α} {n : Str} {r : R β} {g : α → β} {te : TE} {f : (α → Prop) → Prop} (cl : Cls K C) (na : NoAttr K C n) (hn : FAt s n r g) (h : E b G te (rIns C s) f) : E b G (tFld K te n) r (fun k => f fun a => k (g a)) := fun _ _ _ _ k V q w => by
  refine h _ V q ?_
  rintro a v F1 H1 q1 A1 V1 ⟨p, dx, fs, rfl, hp, hs⟩
  obtain ⟨u, hu, hr⟩ := hn hs
  exact ⟨p, C, dx, fs, u, rfl, V1.fh _ _ hp, cl, na, hu, w _ u F1 H1 q1 A1 V1 hr⟩
theorem e_fldO {C : Addr} {s : FK α} {n : Str} {r : R β} {g : α → β} {i : Nat} {p : Addr} {y : α} (cl : Cls K C) (na : NoAttr K C n) (hn : FAt s n r g) (hi : G[i]? = some (own p (cIns C s) y)) : E b G (tFld K (tVar i) n) r (fun k => k (g y)) := fun _ _ _ _ k V q w => by
  obtain ⟨o, h1, rfl, u, hu, dx, fs, rfl, hs⟩ := V.hold.at_ hi
  obtain ⟨u, hv, hr⟩ := hn hs
  exact ⟨.ref p, h1, p, C, dx, fs, u, rfl, hu, cl, na, hv, w _ u _ _ q (.refl V.fh _) V hr⟩
/-- e.n = x, a new field -/
theorem s_fldN {C : Addr} {s : FK α} {s' : FK δ} {n : Str} {r : R γ} {g : α → γ → δ} {i : Nat} {p : Addr} {y : α} {tv : TE} {f : (γ → Prop) → Prop} (cl : Cls K C) (na : NoAttr K C n) (hn : Fn s s' n r g) (hi : G[i]? = some (own p (cIns C s) y)) (hv : E b G tv r f) :
    S b G (sFld K (tVar i) tv n) (fun x : γ => G.set i (own p (cIns C s') (g y x))) Gl ro (fun d => f d.nx) := fun σ F H D d V q w1 _ _ _ => by
  refine hv _ V q ?_
  intro x v F1 H1 q1 A1 V1 r1
  obtain ⟨o, h1, rfl, u, hu, dx, fs, rfl, hs⟩ := V1.hold.at_ hi
  have l : fs.length < 1000 := by
    have := congrArg List.length (s.nn hs)
    rw [List.length_map] at this
    have := hn.2.1; omega
  refine ⟨.ref p, h1, p, C, dx, fs, rfl, hu, cl, na, l, w1 x _ F1 _ q1 A1.ff (V1.cellT hi ⟨dx, _, rfl, ?_⟩)⟩
  rw [putF_new (by rw [s.nn hs]; exact hn.1)]
  exact hn.2.2 _ _ _ _ _ hs r1
/-- e.n = x, a field that is there -/
theorem s_fldU {C : Addr} {s : FK α} {n : Str} {r : R γ} {up : α → γ → α} {i : Nat} {p : Addr} {y : α} {tv : TE} {f : (γ → Prop) → Prop} (cl : Cls K C) (na : NoAttr K C n) (hn : FUp s n r up) (hl : s.ns.length < 900) (hi : G[i]? = some (own p (cIns C s) y)) (hv : E b G tv r f) :
    S b G (sFld K (tVar i) tv n) (fun x : γ => G.set i (own p (cIns C s) (up y x))) Gl ro (fun d => f d.nx) := fun σ F H D d V q w1 _ _ _ => by
  refine hv _ V q ?_
  intro x v F1 H1 q1 A1 V1 r1
  obtain ⟨o, h1, rfl, u, hu, dx, fs, rfl, hs⟩ := V1.hold.at_ hi
  have l : fs.length < 1000 := by
    have := congrArg List.length (s.nn hs)
    rw [List.length_map] at this
    omega
  exact ⟨.ref p, h1, p, C, dx, fs, rfl, hu, cl, na, l, w1 x _ F1 _ q1 A1.ff (V1.cellT hi ⟨dx, _, rfl, hn hs r1⟩)⟩
/-! ### methods of a value -/
theorem e_methV {Cl : Addr} {s : FK γ} {m : Str} {si : RI α} {r : R β} {g : γ × α → (β → Prop) → Prop} {Ek : XK} {te : TE} {ta : TA} {f : (γ → Prop) → Prop} {f2 : (α → Prop) → Prop} (hm : m ∉ s.ns) (he : E b G te (rIns Cl s) f) (h : Ar b G ta si f2) :
    E b G (tMeth Cl m (spP (rCons (rIns Cl s) si) r g) [] Ek te ta) r (fun k => f fun y => f2 fun x => g (y, x) k) := fun σ F H Q k V q w => by
  refine he _ V q ?_
  rintro y v F0 H0 q0 A0 V0 ⟨p, dx, fs, rfl, hp, hs⟩
  refine ⟨p, dx, fs, rfl, V0.fh _ _ hp, fk_no hm hs, ?_⟩
  refine h _ V0 q0 ?_
  intro x vs F1 H1 q1 A1 V1 r1
  show spP _ r g (.ref p :: (vs ++ [])) H1 _ _
  rw [List.append_nil]
  exact ⟨(y, x), F1, k, V1.fh, ⟨.ref p, vs, rfl, ⟨p, dx, fs, rfl, A1.ff _ _ hp, s.ex A1.ff hs⟩, r1⟩, q1, fun z v F2 H2 q2 A2 r2 => w z v F2 H2 q2 ((A0.trans A1).trans (A2.mono fun _ h => nomatch h)) (V1.step A2) r2⟩
/-! ### C(..) -/
/-- an __init__ that fills the fields, or lets an error out -/
def spI (Cl : Addr) (s : RI α) (fk : FK β) (x : Xp ε) (g : α → (β → Prop) → (ε → Prop) → Prop) : Sp := fun vs H Q E => ∃ (p dx : Addr) (ws : List V) (a : α) (F : Hp) (k : β → Prop) (kx : ε → Prop), vs = .ref p :: ws ∧ H p = some (.ins Cl dx []) ∧ F p = none ∧ Ex F H ∧ s.h a ws F ∧ g a k kx ∧
  (∀ y F' H', k y → After F H [p] F' H' → F' p = none → CAt (cIns Cl fk) y F' H' p → Q .non H') ∧ (∀ e cls d F' H', kx e → After F H [p] F' H' → x.h e cls d F' → E cls d H')
theorem spI_len {Cl : Addr} {s : RI α} {fk : FK β} {x : Xp ε} {g : α → (β → Prop) → (ε → Prop) → Prop} {vs : List V} {Q : VK} {Ek : XK} (h : spI Cl s fk x g vs H Q Ek) : vs.length = s.n + 1 := by
  obtain ⟨p, dx, ws, a, F, k, kx, rfl, _, _, _, hs, _⟩ := h; rw [List.length_cons, s.ln hs]
theorem run_I {Cl : Addr} {s : RI α} {fk : FK β} {x : Xp ε} {g : α → (β → Prop) → (ε → Prop) → Prop} {N : List Str} {m : Nat} {t : TS} {vs : List V} {Q : VK} {Ek : XK} {f : α → (ε → Prop) → Pd β Unit Unit → Prop} (h : spI Cl s fk x g vs H Q Ek) (hN : N.length = s.n + 1 + m)
    (hS : ∀ b p a kx, b.M = [p] → Out b (fun _ => True) x kx (fun cls d _ H => Ek cls d H) → S b (own p (cIns Cl fNil) () :: (s.sl a ++ List.replicate m any)) t (fun y : β => own p (cIns Cl fk) y :: List.replicate (s.n + m) any) (fun _ : Unit => []) (fun _ _ _ _ => False) (f a kx))
    (hg : ∀ a k kx, g a k kx → f a kx ⟨k, fun _ => False, fun _ => False, fun _ => False⟩) : t { nx := fun _ H' => Q .non H', rt := Q } (L2.start N vs) H := by
  obtain ⟨p, dx, ws, a, F, k, kx, rfl, hp, fp, e, hs, q, w, wx⟩ := h
  have hl := s.ln hs
  refine S.go (hS ⟨F, H, [p], fun q hq => by rw [List.mem_singleton.mp hq, hp]; exact fun z => nomatch z⟩ p a kx rfl (fun G e cls d σ F' H' _ q' V' hx => wx e cls d F' H' q' V'.after hx)) (L2.start N (.ref p :: ws)) F H _ ⟨k, fun _ => False, fun _ => False, fun _ => False⟩ ?_ (hg a k kx q) (fun y σ' F' H' hk _ V' => ?_) (fun _ _ _ _ h => h.elim) (fun _ _ _ _ h => h.elim) (fun _ _ _ _ h => h.elim)
  · have ow : owns (own p (cIns Cl fNil) () :: (s.sl a ++ List.replicate m any)) = [p] := by
      show [p] ++ owns _ = _
      rw [owns_app, s.no, owns_any]; rfl
    refine ⟨Ex.refl _, e, fun _ _ _ h => h, fun _ h => h, fun _ h _ => h, ?_, by rw [ow]; simp, fun q hq => ?_⟩
    · unfold L2.start
      have : N.length - (V.ref p :: ws).length = m := by rw [List.length_cons]; omega
      rw [this]
      exact .cons (show _ ∧ _ from ⟨rfl, _, hp, dx, [], rfl, rfl⟩) (paired_app' (s.hs hs) holds_any)
    · rw [ow] at hq
      cases List.mem_singleton.mp hq
      exact ⟨fp, .inl List.mem_cons_self⟩
  · obtain ⟨f1, B1⟩ := V'.cAt (i := 0) (p := p) (c := cIns Cl fk) (y := y) rfl
    exact w y F' H' hk V'.after f1 B1
/-- a new thing, where no error may come -/
theorem enc_make0 {Cl : Addr} {s : RI α} {fk : FK β} {x : Xp ε} {g : α → (β → Prop) → (ε → Prop) → Prop} {Ek : XK} {ta : TA} {f : (α → Prop) → Prop} (h : Ar b G ta s f) : ENc b G (tMake Cl (spI Cl s fk x g) [] Ek ta) (cIns Cl fk) (fun k => f fun a => g a k fun _ => False) := fun σ F H Q k V q w => by
  refine h _ V q ?_
  intro a vs F1 H1 q1 A1 V1 r1 p dx hp hdx ne
  show spI Cl s fk x g (.ref p :: (vs ++ [])) _ _ _
  rw [List.append_nil]
  have fp : F1 p = none := ex_none V1.fh hp
  have fd : F1 dx = none := ex_none V1.fh hdx
  have e2 : Ex F1 (upd (upd H1 dx (.own p)) p (.ins Cl dx [])) := ex_mut fp (ex_mut fd V1.fh)
  refine ⟨p, dx, vs, a, F1, k, fun _ => False, rfl, upd_same, fp, e2, r1, q1, fun y F2 H2 q2 A2 f2 ⟨u, hu, hc⟩ => ⟨rfl, ?_⟩, fun _ _ _ _ _ h => h.elim⟩
  have old : ∀ z o, H1 z = some o → z ≠ p ∧ z ≠ dx := fun z o hz => ⟨ne_of_none hz hp, ne_of_none hz hdx⟩
  have B : After F1 H1 [] F2 H2 := ⟨A2.ff, A2.fh, fun z o _ hz => A2.hh z o (by rw [List.mem_singleton]; exact (old z o hz).1) (by rw [upd_ne (old z o hz).1, upd_ne (old z o hz).2]; exact hz), fun z hz => by
    cases e : H1 z with
    | none => exact absurd e hz
    | some o => exact A2.kp z (by rw [upd_ne (old z o e).1, upd_ne (old z o e).2, e]; exact fun z => nomatch z), fun z h1 hz => by
    cases e : H1 z with
    | none => exact absurd e hz
    | some o => exact A2.nf z h1 (by rw [upd_ne (old z o e).1, upd_ne (old z o e).2, e]; exact fun z => nomatch z)⟩
  refine w y p u F2 H2 q2 (A1.trans (B.mono fun _ h => nomatch h)) (V1.step B) ?_ f2 hu hc
  cases e : H p with
  | none => rfl
  | some z => exact absurd hp (A1.kp p (by rw [e]; exact fun z => nomatch z))
end
end Mi
/-! Mir17 -/
set_option Elab.async false
set_option linter.all false
set_option maxRecDepth 100000
set_option maxHeartbeats 4000000
/-! sum, min, max, any, all, insert, pop, xs[::-1], [x, *xs] -/
namespace Mi
open PySem PySem.Spec L2 Dh
open _root_.Evl (Ex)
section
variable {K : PySem.W.Frag} {b : Bs} {G Gx : List Sl} {α β γ γ' δ τ τ' ρ ε ε' θ : Type} {Gn : τ → List Sl} {Gl : θ → List Sl} {ro : ρ → V → Hp → Hp → Prop} {σ : L2.St} {F H F' H' : Hp}
theorem map_bl {F : Hp} : ∀ {xs : List Bool} {vs : List V}, All rBl F xs vs → vs = xs.map V.bl
  | _, _, .nil => rfl
  | _, _, .cons h t => by rw [List.map_cons, ← map_bl t, ← show _ = V.bl _ from h]
theorem e_sum {te : TE} {f : (List Int → Prop) → Prop} (h : LV b G te rInt f) : E b G (tCB (rSum K) (tCons te tNil)) rInt (fun k => f fun xs => k xs.sum) := fun _ _ _ _ k V q w => by
  refine h _ V q ?_
  intro xs p F1 H1 q1 A1 V1 z
  obtain ⟨vs, h1, h2⟩ := z F1 H1 (Ex.refl _) V1
  rw [map_int h2] at h1
  exact ⟨p, xs, rfl, SqL.of h1, w _ _ F1 H1 q1 A1 V1 rfl⟩
theorem e_maxL {te : TE} {f : (List Int → Prop) → Prop} (h : LV b G te rInt f) : E b G (tCB (rMax K) (tCons te tNil)) rInt (fun k => f fun xs => 0 < xs.length ∧ ∀ m, m ∈ xs → (∀ y ∈ xs, y ≤ m) → k m) := fun _ _ _ _ k V q w => by
  refine h _ V q ?_
  intro xs p F1 H1 q1 A1 V1 z
  obtain ⟨vs, h1, h2⟩ := z F1 H1 (Ex.refl _) V1
  rw [map_int h2] at h1
  exact ⟨p, xs, rfl, SqL.of h1, q1.1, fun m hm hy => w _ _ F1 H1 (q1.2 m hm hy) A1 V1 rfl⟩
theorem e_minL {te : TE} {f : (List Int → Prop) → Prop} (h : LV b G te rInt f) : E b G (tCB (rMin K) (tCons te tNil)) rInt (fun k => f fun xs => 0 < xs.length ∧ ∀ m, m ∈ xs → (∀ y ∈ xs, m ≤ y) → k m) := fun _ _ _ _ k V q w => by
  refine h _ V q ?_
  intro xs p F1 H1 q1 A1 V1 z
  obtain ⟨vs, h1, h2⟩ := z F1 H1 (Ex.refl _) V1
  rw [map_int h2] at h1
  exact ⟨p, xs, rfl, SqL.of h1, q1.1, fun m hm hy => w _ _ F1 H1 (q1.2 m hm hy) A1 V1 rfl⟩
theorem e_any {te : TE} {f : (List Bool → Prop) → Prop} (h : LV b G te rBl f) : E b G (tCB (rAny K) (tCons te tNil)) rBl (fun k => f fun xs => k (xs.any id)) := fun _ _ _ _ k V q w => by
  refine h _ V q ?_
  intro xs p F1 H1 q1 A1 V1 z
  obtain ⟨vs, h1, h2⟩ := z F1 H1 (Ex.refl _) V1
  rw [map_bl h2] at h1
  exact ⟨p, xs, rfl, SqL.of h1, w _ _ F1 H1 q1 A1 V1 rfl⟩
theorem e_all {te : TE} {f : (List Bool → Prop) → Prop} (h : LV b G te rBl f) : E b G (tCB (rAll K) (tCons te tNil)) rBl (fun k => f fun xs => k (xs.all id)) := fun _ _ _ _ k V q w => by
  refine h _ V q ?_
  intro xs p F1 H1 q1 A1 V1 z
  obtain ⟨vs, h1, h2⟩ := z F1 H1 (Ex.refl _) V1
  rw [map_bl h2] at h1
  exact ⟨p, xs, rfl, SqL.of h1, w _ _ F1 H1 q1 A1 V1 rfl⟩
def rMax2' : List V → Hp → VK → Prop := fun xs H Q => ∃ i j, xs = [.int i, .int j] ∧ Q (.int (if j > i then j else i)) H
theorem cr_max2 {X : Cx} (hc : X.calm = true) : CallR X (.builtin "max") rMax2' := call_max2 hc
theorem e_max2 {ta te : TE} {f g : (Int → Prop) → Prop} (h : E b G ta rInt f) (h2 : E b G te rInt g) : E b G (tCB rMax2' (tCons ta (tCons te tNil))) rInt (fun k => f fun i => g fun j => k (if j > i then j else i)) := fun _ _ _ _ k V q w => by
  refine h _ V q ?_
  intro i v F1 H1 q1 A1 V1 e
  cases e
  refine h2 _ V1 q1 ?_
  intro j u F2 H2 q2 A2 V2 e
  cases e
  exact ⟨i, j, rfl, w _ _ F2 H2 q2 (A1.trans A2) V2 rfl⟩
theorem all_rev {r : R α} {F : Hp} {xs : List α} {vs : List V} (h : All r F xs vs) : All r F xs.reverse vs.reverse := by
  induction h with
  | nil => exact .nil
  | cons h t ih => rw [List.reverse_cons, List.reverse_cons]; exact Dh.paired_app ih (.cons h .nil)
theorem en_revL {te : TE} {r : R α} {f : (List α → Prop) → Prop} (h : LV b G te r f) : EN b G (tRevL K te) r (fun k => f fun xs => k xs.reverse) := fun _ _ _ _ k V q w => by
  refine h _ V q ?_
  intro xs p F1 H1 q1 A1 V1 z
  obtain ⟨vs, h1, h2⟩ := z F1 H1 (Ex.refl _) V1
  refine ⟨p, vs, rfl, SqL.of h1, fun l hl => en_lay A1 V1 q1 (all_rev h2) w hl⟩
/-- xs.insert(i, x), i not below 0 -/
def rInsL : V → List V → Hp → VK → Prop := fun x vs H Q => ∃ (l : Addr) (xs : List V) (i : Int) (y : V), x = .ref l ∧ vs = [.int i, y] ∧ H l = some (.lst xs) ∧ xs.length < sizeLine ∧ 0 ≤ i ∧ i < 2 ^ 63 ∧ Q .non (upd H l (.lst (xs.take i.toNat ++ [y] ++ xs.drop i.toNat)))
theorem mt_insL {X : Cx} : MtR X "list.insert" rInsL := mt_insert
theorem all_take {r : R α} {F : Hp} : ∀ {xs : List α} {vs : List V} (n : Nat), All r F xs vs → All r F (xs.take n) (vs.take n)
  | _, _, _, .nil => by simp; exact .nil
  | _, _, 0, .cons _ _ => .nil
  | _, _, n + 1, .cons h t => .cons h (all_take n t)
theorem all_drop {r : R α} {F : Hp} : ∀ {xs : List α} {vs : List V} (n : Nat), All r F xs vs → All r F (xs.drop n) (vs.drop n)
  | _, _, _, .nil => by simp; exact .nil
  | _, _, 0, .cons h t => .cons h t
  | _, _, n + 1, .cons h t => all_drop n t
theorem s_ins {i : Nat} {p : Addr} {te ti : TE} {r : R α} {xs : List α} {f : (α → Prop) → Prop} {g : (Int → Prop) → Prop} (hi : G[i]? = some (own p (cLst r) xs)) (h1 : E b G ti rInt g) (h2 : E b G te r f) :
    S b G (tDrop (tBM K "list" rInsL (tVar i) (tCons ti (tCons te tNil)))) (fun y : Int × α => G.set i (own p (cLst r) (xs.take y.1.toNat ++ [y.2] ++ xs.drop y.1.toNat))) Gl ro (fun d => g fun n => f fun x => (xs.length < sizeLine ∧ 0 ≤ n ∧ n < 2 ^ 63) ∧ d.nx (n, x)) := fun σ F H D d V q w1 _ _ _ => by
  obtain ⟨o, k1, rfl, u, k2, vs, rfl, k3⟩ := V.hold.at_ hi
  refine ⟨.ref p, k1, ty_l k2, ?_⟩
  refine h1 _ V q ?_
  intro n v F1 H1 q1 A1 V1 e
  cases e
  refine h2 _ V1 q1 ?_
  intro x v F2 H2 q2 A2 V2 r2
  obtain ⟨o, k1', e, u, k2, vs, rfl, k3⟩ := V2.hold.at_ hi
  refine ⟨p, vs, n, v, rfl, rfl, k2, by rw [k3.len]; exact q2.1.1, q2.1.2.1, q2.1.2.2, w1 (n, x) _ F2 _ q2.2 (A1.ff.trans A2.ff) (V2.cellT hi ⟨_, rfl, ?_⟩)⟩
  exact Dh.paired_app (Dh.paired_app (all_take _ k3) (.cons r2 .nil)) (all_drop _ k3)
/-- [.., *xs, ..] -/
def ArS (b : Bs) (G : List Sl) (ta : TA) (r : R α) (f : (List α → Prop) → Prop) : Prop := ∀ ⦃σ : L2.St⦄ ⦃F H : Hp⦄ ⦃Q : List V → Hp → Prop⦄ (k : List α → Prop), Env b G σ F H → f k →
  (∀ xs vs F' H', k xs → After F H (owns G) F' H' → Env b G σ F' H' → All r F' xs vs → Q vs H') → ta σ H Q
theorem as_nil {r : R α} : ArS b G tNil r (fun k => k []) := fun _ _ _ _ k V q w => w [] [] _ _ q (.refl V.fh _) V .nil
theorem as_cons {te : TE} {ta : TA} {r : R α} {f : (α → Prop) → Prop} {g : (List α → Prop) → Prop} (h : E b G te r f) (h2 : ArS b G ta r g) : ArS b G (tCons te ta) r (fun k => f fun x => g fun xs => k (x :: xs)) :=
  fun _ _ _ _ k V q w => h _ V q fun x v F1 H1 q1 A1 V1 r1 => h2 _ V1 q1 fun xs vs F2 H2 q2 A2 V2 r2 => w (x :: xs) (v :: vs) F2 H2 q2 (A1.trans A2) V2 (.cons (r.ex A2.ff r1) r2)
theorem as_star {te : TE} {ta : TA} {r : R α} {f g : (List α → Prop) → Prop} (h : LV b G te r f) (h2 : ArS b G ta r g) : ArS b G (StX.tStar K te ta) r (fun k => f fun xs => g fun ys => k (xs ++ ys)) := fun _ _ _ _ k V q w => by
  refine h _ V q ?_
  intro xs p F1 H1 q1 A1 V1 z
  obtain ⟨vs, k1, k2⟩ := z F1 H1 (Ex.refl _) V1
  refine ⟨p, vs, rfl, .inr (SqL.of k1), h2 _ V1 q1 ?_⟩
  intro ys us F2 H2 q2 A2 V2 r2
  exact w (xs ++ ys) (vs ++ us) F2 H2 q2 (A1.trans A2) V2 (Dh.paired_app (k2.ex A2.ff) r2)
theorem as_starT {te : TE} {ta : TA} {r : R α} {f g : (List α → Prop) → Prop} (h : E b G te (rTup K r) f) (h2 : ArS b G ta r g) : ArS b G (StX.tStar K te ta) r (fun k => f fun xs => g fun ys => k (xs ++ ys)) := fun _ _ _ _ k V q w => by
  refine h _ V q ?_
  rintro xs v F1 H1 q1 A1 V1 ⟨p, vs, rfl, hp, k2⟩
  refine ⟨p, vs, rfl, .inl (_root_.Evl.ex_t V1.fh hp), h2 _ V1 q1 ?_⟩
  intro ys us F2 H2 q2 A2 V2 r2
  exact w (xs ++ ys) (vs ++ us) F2 H2 q2 (A1.trans A2) V2 (Dh.paired_app (k2.ex A2.ff) r2)
theorem en_lstS {ta : TA} {r : R α} {f : (List α → Prop) → Prop} (h : ArS b G ta r f) : EN b G (tLst ta) r (fun k => f fun xs => xs.length ≤ sizeLine ∧ k xs) := fun _ _ _ _ k V q w => h _ V q fun xs vs F1 H1 q1 A1 V1 r1 => ⟨by rw [r1.len]; exact q1.1, fun p hp => en_lay A1 V1 q1.2 r1 w hp⟩
theorem e_tupS {ta : TA} {r : R α} {f : (List α → Prop) → Prop} (h : ArS b G ta r f) : E b G (tTup ta) (rTup K r) (fun k => f fun xs => xs.length ≤ sizeLine ∧ k xs) := fun _ _ _ _ k V q w => h _ V q fun xs vs F1 H1 q1 A1 V1 r1 => ⟨by rw [r1.len]; exact q1.1, fun p hp => by
  have B := After.new (o := .tup vs) V1.fh hp
  exact w xs _ _ _ q1.2 (A1.trans (B.mono fun _ h => nomatch h)) (V1.step B) ⟨p, vs, rfl, SqT.of upd_same, r1.ex B.ff⟩⟩
/-! ### a call of a def with itself inside -/
end
end Mi
/-! Mir18 -/
set_option Elab.async false
set_option linter.all false
set_option maxRecDepth 100000
set_option maxHeartbeats 4000000
/-! readings that change what own things are worth: methods that change their object, defs that change their first thing -/
namespace Mi
open PySem PySem.Spec L2 Dh
open _root_.Evl (Ex)
section
variable {K : PySem.W.Frag} {b : Bs} {G Gx : List Sl} {α β γ γ' δ τ τ' ρ ε ε' θ : Type} {Gn : τ → List Sl} {Gl : θ → List Sl} {ro : ρ → V → Hp → Hp → Prop} {σ : L2.St} {F H F' H' : Hp}
/-- a reading; behind it the slots are as Gm says by the second part of the answer -/
def EM (b : Bs) (G : List Sl) (te : TE) (r : R α) (Gm : τ → List Sl) (f : (α × τ → Prop) → Prop) : Prop := ∀ ⦃σ : L2.St⦄ ⦃F H : Hp⦄ ⦃Q : VK⦄ (k : α × τ → Prop), Env b G σ F H → f k →
  (∀ a x v F' H', k (a, x) → Ex F F' → Env b (Gm x) σ F' H' → r.h a v F' → Q v H') → te σ H Q
def TM (b : Bs) (G : List Sl) (tt : TT) (Gm : τ → List Sl) (f : (Bool × τ → Prop) → Prop) : Prop := ∀ ⦃σ : L2.St⦄ ⦃F H : Hp⦄ ⦃Q : Bool → Hp → Prop⦄ (k : Bool × τ → Prop), Env b G σ F H → f k →
  (∀ a x F' H', k (a, x) → Ex F F' → Env b (Gm x) σ F' H' → Q a H') → tt σ H Q
theorem em_e {te : TE} {r : R α} {f : (α → Prop) → Prop} (h : E b G te r f) : EM b G te r (fun _ : Unit => G) (fun k => f fun a => k (a, ())) := fun _ _ _ _ k V q w => h _ V q fun a v F1 H1 q1 A1 V1 r1 => w a () v F1 H1 q1 A1.ff V1 r1
variable {Gm : τ → List Sl}
theorem em_op {r2 : R2} {ta tb : TE} {ra : R α} {rb : R β} {rc : R γ} {fa : (α × τ → Prop) → Prop} {fb : τ → (β → Prop) → Prop} {g : α → β → (γ → Prop) → Prop} (o : Op2 r2 ra rb rc g) (ha : EM b G ta ra Gm fa) (hb : ∀ x, E b (Gm x) tb rb (fb x)) :
    EM b G (tOp r2 ta tb) rc Gm (fun k => fa fun p => fb p.2 fun y => g p.1 y fun c => k (c, p.2)) := fun _ _ _ _ k V q w =>
  ha _ V q fun a x v F1 H1 q1 e1 V1 r1 => hb x _ V1 q1 fun y u F2 H2 q2 A2 V2 r2' => o _ (ra.ex A2.ff r1) r2' V2.fh q2 fun c z F3 H3 q3 A3 r3 => w c x z F3 H3 q3 ((e1.trans A2.ff).trans A3.ff) (V2.step A3) r3
/-- .. the second operand -/
theorem em_op2 {r2 : R2} {ta tb : TE} {ra : R α} {rb : R β} {rc : R γ} {fa : (α → Prop) → Prop} {fb : (β × τ → Prop) → Prop} {g : α → β → (γ → Prop) → Prop} (o : Op2 r2 ra rb rc g) (ha : E b G ta ra fa) (hb : EM b G tb rb Gm fb) :
    EM b G (tOp r2 ta tb) rc Gm (fun k => fa fun a => fb fun p => g a p.1 fun c => k (c, p.2)) := fun _ _ _ _ k V q w =>
  ha _ V q fun a v F1 H1 q1 A1 V1 r1 => hb _ V1 q1 fun y x u F2 H2 q2 e2 V2 r2' => o _ (ra.ex e2 r1) r2' V2.fh q2 fun c z F3 H3 q3 A3 r3 => w c x z F3 H3 q3 ((A1.ff.trans e2).trans A3.ff) (V2.step A3) r3
theorem em_not {ta : TE} {f : (Bool × τ → Prop) → Prop} (h : EM b G ta rBl Gm f) : EM b G (tNotV ta) rBl Gm (fun k => f fun p => k (!p.1, p.2)) := fun _ _ _ _ k V q w => by
  refine h _ V q ?_
  intro a x v F' H' q' e V' r
  exact ⟨a, r, w _ x _ F' H' q' e V' rfl⟩
theorem em_isN {ta : TE} {f : (Unit × τ → Prop) → Prop} (h : EM b G ta rNon Gm f) : EM b G (tOp (fun x y H Q => y = .non ∧ Q (.bl (decide (x = .non))) H) ta (tC .non)) rBl Gm (fun k => f fun p => k (true, p.2)) := fun _ _ _ _ k V q w => by
  refine h _ V q ?_
  intro a x v F' H' q' e V' r
  cases r
  exact ⟨rfl, w _ x _ F' H' q' e V' (by show L2.V.bl _ = L2.V.bl true; rw [decide_eq_true rfl])⟩
theorem em_some {ta : TE} {r : R α} {f : (α × τ → Prop) → Prop} (n : NN r) (h : EM b G ta r Gm f) : EM b G ta (rOpt r) Gm (fun k => f fun p => k (some p.1, p.2)) := fun _ _ _ _ k V q w => h _ V q fun a x v F' H' q' e V' hr => w (some a) x v F' H' q' e V' ⟨hr, n hr⟩
theorem tm_test {te : TE} {f : (Bool × τ → Prop) → Prop} (h : EM b G te rBl Gm f) : TM b G (tTest te) Gm f := fun _ _ _ _ k V q w => by
  refine h k V q ?_
  intro a x v F' H' q' e V' r
  exact ⟨a, r, w a x F' H' q' e V'⟩
theorem tm_B {te : TE} {f : (Bool × τ → Prop) → Prop} (h : EM b G te rBl Gm f) : TM b G (tB te) Gm f := fun _ _ _ _ k V q w => by
  refine h k V q ?_
  intro a x v F' H' q' e V' r
  exact ⟨a, r, w a x F' H' q' e V'⟩
theorem tm_t {tt : TT} {f : (Bool → Prop) → Prop} (h : Tt b G tt f) : TM b G tt (fun _ : Unit => G) (fun k => f fun a => k (a, ())) := fun _ _ _ _ k V q w => h _ V q fun a F1 H1 q1 A1 V1 => w a () F1 H1 q1 A1.ff V1
theorem tm_not {t : TT} {f : (Bool × τ → Prop) → Prop} (h : TM b G t Gm f) : TM b G (tNot t) Gm (fun k => f fun p => k (!p.1, p.2)) := fun _ _ _ _ k V q w => h _ V q fun a x F' H' q' e V' => w _ x F' H' q' e V'
/-- what follows is asked alone where it counts; both ways lead to slots of one form -/
theorem tm_or {t u : TT} {Gm2 : τ' → List Sl} {up : τ → τ'} {f : (Bool × τ → Prop) → Prop} {g : τ → (Bool × τ' → Prop) → Prop} (h : TM b G t Gm f) (h2 : ∀ x, TM b (Gm x) u Gm2 (g x)) (hu : ∀ x, Sub (Gm x) (Gm2 (up x))) :
    TM b G (tOr t u) Gm2 (fun k => f fun p => (p.1 = true → k (true, up p.2)) ∧ (p.1 = false → g p.2 k)) := fun _ _ _ _ k V q w => h _ V q fun a x F1 H1 q1 e1 V1 => by
  cases a with
  | true => exact iteT (w true (up x) F1 H1 (q1.1 rfl) e1 (V1.sub (hu x)))
  | false => exact iteF (h2 x k V1 (q1.2 rfl) fun a y F2 H2 q2 e2 V2 => w a y F2 H2 q2 (e1.trans e2) V2)
theorem tm_and {t u : TT} {Gm2 : τ' → List Sl} {up : τ → τ'} {f : (Bool × τ → Prop) → Prop} {g : τ → (Bool × τ' → Prop) → Prop} (h : TM b G t Gm f) (h2 : ∀ x, TM b (Gm x) u Gm2 (g x)) (hu : ∀ x, Sub (Gm x) (Gm2 (up x))) :
    TM b G (tAnd t u) Gm2 (fun k => f fun p => (p.1 = true → g p.2 k) ∧ (p.1 = false → k (false, up p.2))) := fun _ _ _ _ k V q w => h _ V q fun a x F1 H1 q1 e1 V1 => by
  cases a with
  | true => exact iteT (h2 x k V1 (q1.1 rfl) fun a y F2 H2 q2 e2 V2 => w a y F2 H2 q2 (e1.trans e2) V2)
  | false => exact iteF (w false (up x) F1 H1 (q1.2 rfl) e1 (V1.sub (hu x)))
/-! statements -/
theorem s_dropM {te : TE} {r : R α} {f : (α × τ → Prop) → Prop} (h : EM b G te r Gm f) : S b G (tDrop te) Gm Gl ro (fun d => f fun p => d.nx p.2) := fun _ _ _ _ d V q w1 _ _ _ => h _ V q fun a x v F' H' q' e V' _ => w1 x _ F' H' q' e V'
theorem s_asgM {te : TE} {r : R α} {i : Nat} {f : (α × τ → Prop) → Prop} (h : EM b G te r Gm f) : S b G (tAsg te (gName i)) (fun p : α × τ => (Gm p.2).set i (val r p.1)) Gl ro (fun d => f d.nx) := fun _ _ _ _ d V q w1 _ _ _ =>
  h _ V q fun a x v F' H' q' e V' hr => w1 (a, x) _ F' H' q' e (V'.set (s := val r a) (o := some v) ⟨v, rfl, hr⟩ rfl)
theorem s_ifM {c : TT} {t u : TS} {fc : (Bool × τ → Prop) → Prop} {Gk : τ' → List Sl} {f g : τ → Pd τ' θ ρ → Prop} (hc : TM b G c Gm fc) (ht : ∀ x, S b (Gm x) t Gk Gl ro (f x)) (hu : ∀ x, S b (Gm x) u Gk Gl ro (g x)) :
    S b G (tIfS c t u) Gk Gl ro (fun d => fc fun p => (p.1 = true → f p.2 d) ∧ (p.1 = false → g p.2 d)) := fun _ _ _ _ d V q w1 w2 w3 w4 => hc _ V q fun a x F' H' q' e V' => by
  have z1 : ∀ y σ' F2 H2, d.nx y → Ex F' F2 → Env b (Gk y) σ' F2 H2 → _ := fun y σ2 F2 H2 q2 e2 => w1 y σ2 F2 H2 q2 (e.trans e2)
  have z2 : ∀ y σ' F2 H2, d.ct y → Ex F' F2 → Env b (Gl y) σ' F2 H2 → _ := fun y σ2 F2 H2 q2 e2 => w2 y σ2 F2 H2 q2 (e.trans e2)
  have z3 : ∀ y σ' F2 H2, d.bk y → Ex F' F2 → Env b (Gl y) σ' F2 H2 → _ := fun y σ2 F2 H2 q2 e2 => w3 y σ2 F2 H2 q2 (e.trans e2)
  cases a with
  | true => exact iteT (ht x d V' (q'.1 rfl) z1 z2 z3 w4)
  | false => exact iteF (hu x d V' (q'.2 rfl) z1 z2 z3 w4)
theorem s_retM {te : TE} {r : R α} {g : α → τ → ρ} {f : (α × τ → Prop) → Prop} (h : EM b G te r Gm f) (hro : ∀ a x v σ F H, Env b (Gm x) σ F H → r.h a v F → ro (g a x) v F H) : S b G (tRet te) Gn Gl ro (fun d => f fun p => d.rt (g p.1 p.2)) := fun _ _ _ _ d V q _ _ _ w4 =>
  h _ V q fun a x v F' H' q' e V' hr => w4 (g a x) v F' H' q' V'.after (hro a x v _ F' H' V' hr)
/-! ### a def that changes its first thing -/
def spC (c : C γ) (s : RI α) (r : R β) (x : Xp ε) (g : γ → α → (β × γ → Prop) → (ε → Prop) → Prop) : Sp := fun vs H Q E => ∃ (p : Addr) (ws : List V) (y : γ) (a : α) (F : Hp) (k : β × γ → Prop) (kx : ε → Prop), vs = .ref p :: ws ∧ F p = none ∧ CAt c y F H p ∧ Ex F H ∧ s.h a ws F ∧ g y a k kx ∧
  (∀ z y' v F' H', k (z, y') → After F H [p] F' H' → F' p = none → CAt c y' F' H' p → r.h z v F' → Q v H') ∧ (∀ e cls d F' H', kx e → After F H [p] F' H' → F' p = none → CAt c y F' H' p → x.h e cls d F' → E cls d H')
theorem spC_len {c : C γ} {s : RI α} {r : R β} {x : Xp ε} {g : γ → α → (β × γ → Prop) → (ε → Prop) → Prop} {vs : List V} {Q : VK} {Ek : XK} (h : spC c s r x g vs H Q Ek) : vs.length = s.n + 1 := by
  obtain ⟨p, ws, y, a, F, k, kx, rfl, _, _, _, hs, _⟩ := h; rw [List.length_cons, s.ln hs]
/-- what such a def gives: answer and new worth -/
def RC (c : C γ) (r : R β) (p : Addr) (z : β × γ) (v : V) (F H : Hp) : Prop := F p = none ∧ CAt c z.2 F H p ∧ r.h z.1 v F
theorem run_C {c : C γ} {s : RI α} {r : R β} {x : Xp ε} {g : γ → α → (β × γ → Prop) → (ε → Prop) → Prop} {N : List Str} {m : Nat} {t : TS} {vs : List V} {Q : VK} {Ek : XK} {Gn : Bs → Addr → γ → α → τ → List Sl} {f : γ → α → (ε → Prop) → Pd τ Unit (β × γ) → Prop} (h : spC c s r x g vs H Q Ek) (hN : N.length = s.n + 1 + m)
    (hS : ∀ b p y a kx, b.M = [p] → Out b (fun G => G[0]? = some (own p c y)) x kx (fun cls d _ H => Ek cls d H) → S b (own p c y :: (s.sl a ++ List.replicate m any)) t (Gn b p y a) (fun _ : Unit => []) (fun z v F H => RC c r p z v F H) (f y a kx)) (hg : ∀ y a k kx, g y a k kx → f y a kx ⟨fun _ => False, fun _ => False, fun _ => False, k⟩) :
    t { nx := fun _ H' => Q .non H', rt := Q } (L2.start N vs) H := by
  obtain ⟨p, ws, y, a, F, k, kx, rfl, fp, ⟨u, hb, hbl⟩, e, hs, q, w, wx⟩ := h
  have hl := s.ln hs
  refine S.go (hS ⟨F, H, [p], fun q hq => by rw [List.mem_singleton.mp hq, hb]; exact fun z => nomatch z⟩ p y a kx rfl (fun G e cls d σ F' H' hG q' V' hx => wx e cls d F' H' q' V'.after (V'.cAt hG).1 (V'.cAt hG).2 hx)) (L2.start N (.ref p :: ws)) F H _ ⟨fun _ => False, fun _ => False, fun _ => False, k⟩ ?_ (hg y a k kx q) (fun _ _ _ _ h => h.elim) (fun _ _ _ _ h => h.elim) (fun _ _ _ _ h => h.elim) (fun z v F' H' hk A hr => w z.1 z.2 v F' H' hk A hr.1 hr.2.1 hr.2.2)
  have ow : owns (own p c y :: (s.sl a ++ List.replicate m any)) = [p] := by
    show [p] ++ owns _ = _
    rw [owns_app, s.no, owns_any]; rfl
  refine ⟨Ex.refl _, e, fun _ _ _ h => h, fun _ h => h, fun _ h _ => h, ?_, by rw [ow]; simp, fun q hq => ?_⟩
  · unfold L2.start
    have : N.length - (V.ref p :: ws).length = m := by rw [List.length_cons]; omega
    rw [this]
    exact .cons (show _ ∧ _ from ⟨rfl, _, hb, hbl⟩) (paired_app' (s.hs hs) holds_any)
  · rw [ow] at hq
    cases List.mem_singleton.mp hq
    exact ⟨fp, .inl List.mem_cons_self⟩
theorem s_retC {te : TE} {r : R α} {f : (α → Prop) → Prop} {i : Nat} {p : Addr} {c : C γ} {y : γ} (hi : G[i]? = some (own p c y)) (h : E b G te r f) : S b G (tRet te) Gn Gl (fun z v F H => RC c r p z v F H) (fun d => f fun a => d.rt (a, y)) :=
  s_ret (g := fun a => (a, y)) h fun a v σ F H V hr => ⟨(V.cAt hi).1, (V.cAt hi).2, hr⟩
/-- o.m(..), o changed; errors go where O says -/
theorem em_methC {c : C γ} {y : γ} {i : Nat} {p Cl : Addr} {m : Str} {s : RI α} {r : R β} {gx : List Sl → Prop} {x : Xp ε} {kx : ε → Prop} {W : WX} {x' : Xp ε'} {j : ε' → ε} {g : γ → α → (β × γ → Prop) → (ε' → Prop) → Prop} {ta : TA} {f : (α → Prop) → Prop} (O : Out b gx x kx W) (hgx : gx G) (hj : XSub x' x j) (hi : G[i]? = some (own p c y))
    (hc : ∀ y u F, c.h y u F → ∃ dx fs, u = .ins Cl dx fs ∧ fs.lookup m = none) (h : Ar b G ta s f) :
    EM b G (tMethS Cl m (spC c s r x' g) (WE W) (tVar i) ta) r (fun y' : γ => G.set i (own p c y')) (fun k => f fun a => g y a k fun e => kx (j e)) := fun σ F H Q k V q w => by
  obtain ⟨o, h1, rfl, u, hu, hcu⟩ := V.hold.at_ hi
  obtain ⟨dx, fs, rfl, hl⟩ := hc _ _ _ hcu
  refine ⟨.ref p, h1, p, dx, fs, rfl, hu, hl, ?_⟩
  refine h _ V q ?_
  intro a vs F1 H1 q1 A1 V1 r1
  obtain ⟨f1, B1⟩ := V1.cAt hi
  exact ⟨p, vs, y, a, F1, k, fun e => kx (j e), rfl, f1, B1, V1.fh, r1, q1, fun z y' v F2 H2 q2 A2 f2 B2 r2 => w z y' v F2 H2 q2 (A1.ff.trans A2.ff) (V1.cNew hi A2 B2) r2,
    fun e cls d F2 H2 q2 A2 f2 B2 hx => O hgx q2 (V1.back hi A2 B2) (hj _ _ _ _ hx)⟩
/-- .. where no error may come -/
theorem em_methC0 {c : C γ} {y : γ} {i : Nat} {p Cl : Addr} {m : Str} {s : RI α} {r : R β} {x' : Xp ε'} {g : γ → α → (β × γ → Prop) → (ε' → Prop) → Prop} {Ek : XK} {ta : TA} {f : (α → Prop) → Prop} (hi : G[i]? = some (own p c y))
    (hc : ∀ y u F, c.h y u F → ∃ dx fs, u = .ins Cl dx fs ∧ fs.lookup m = none) (h : Ar b G ta s f) :
    EM b G (tMeth Cl m (spC c s r x' g) [] Ek (tVar i) ta) r (fun y' : γ => G.set i (own p c y')) (fun k => f fun a => g y a k fun _ => False) := fun σ F H Q k V q w => by
  obtain ⟨o, h1, rfl, u, hu, hcu⟩ := V.hold.at_ hi
  obtain ⟨dx, fs, rfl, hl⟩ := hc _ _ _ hcu
  refine ⟨.ref p, h1, p, dx, fs, rfl, hu, hl, ?_⟩
  refine h _ V q ?_
  intro a vs F1 H1 q1 A1 V1 r1
  show spC c s r x' g (.ref p :: (vs ++ [])) H1 _ _
  rw [List.append_nil]
  obtain ⟨f1, B1⟩ := V1.cAt hi
  exact ⟨p, vs, y, a, F1, k, fun _ => False, rfl, f1, B1, V1.fh, r1, q1, fun z y' v F2 H2 q2 A2 f2 B2 r2 => w z y' v F2 H2 q2 (A1.ff.trans A2.ff) (V1.cNew hi A2 B2) r2, fun _ _ _ _ _ h => h.elim⟩
/-- f(o, ..), o changed -/
theorem em_callC0 {c : C γ} {y : γ} {i : Nat} {p : Addr} {s : RI α} {r : R β} {x' : Xp ε'} {g : γ → α → (β × γ → Prop) → (ε' → Prop) → Prop} {Ek : XK} {ta : TA} {f : (α → Prop) → Prop} (hi : G[i]? = some (own p c y)) (h : Ar b G ta s f) :
    EM b G (tCall (spC c s r x' g) [] Ek (tCons (tVar i) ta)) r (fun y' : γ => G.set i (own p c y')) (fun k => f fun a => g y a k fun _ => False) := fun σ F H Q k V q w => by
  obtain ⟨o, h1, rfl, _⟩ := V.hold.at_ hi
  refine ⟨.ref p, h1, ?_⟩
  refine h _ V q ?_
  intro a vs F1 H1 q1 A1 V1 r1
  show spC c s r x' g ((.ref p :: vs) ++ []) H1 _ _
  rw [List.append_nil]
  obtain ⟨f1, B1⟩ := V1.cAt hi
  exact ⟨p, vs, y, a, F1, k, fun _ => False, rfl, f1, B1, V1.fh, r1, q1, fun z y' v F2 H2 q2 A2 f2 B2 r2 => w z y' v F2 H2 q2 (A1.ff.trans A2.ff) (V1.cNew hi A2 B2) r2, fun _ _ _ _ _ h => h.elim⟩
theorem cins_meth {Cl : Addr} {s : FK γ} {m : Str} (hm : m ∉ s.ns) : ∀ y u F, (cIns Cl s).h y u F → ∃ dx fs, u = .ins Cl dx fs ∧ fs.lookup m = none := fun y u F ⟨dx, fs, e, h⟩ => ⟨dx, fs, e, fk_no hm h⟩
end
end Mi
/-! Mir19 -/
set_option Elab.async false
set_option linter.all false
set_option maxRecDepth 100000
set_option maxHeartbeats 4000000
/-! errors of own classes without a field: raise C() -/
namespace L2N
open PySem PySem.Spec PyProof.Rows L2
theorem pmk_own0 {X : Cx} {C : Addr} {bmB : List Value} {B newId initId : String} {x : Str} {p pos : Pos} (F : ExcBaseFacts B newId initId bmB) (q : PySem.W.excIn X.K C bmB newId = true) (gC : X.mg x = some (.ref C)) (kC : PySem.W.keepIn X.K (.ref C) = true) (r : Raises X (.ref C)) (hg : L2.Gl X x)
    (hdb : (x == ("__debug__" : Str)) = false := by decide) : PMk X (.Call (.Name x p) [] [] pos) (fun _ H Q => Q (.ref C) none H) := by
  intro pins s σ H Q I h
  refine wpAny_Call_Name_kw (ld_glob I hg gC ?_ hdb)
  refine PySem.W.callWith_K0 (first := []) I.kIn kC ?_
  show wpAny _ _ (call (.ref C) []) _ _ _
  obtain ⟨bm, N, nm, qn, bs, hdct, sn, sub, ab, col, dd, k0, k1, k2, k3, k5, mN, hC, hN, hni, T⟩ := exc_obj I.kIn q
  refine wpAny_call_exc_subT F T hC hN hni (fun h' e hm => ?_) (by show 0 ≤ sizeLine; exact Nat.zero_le _)
  exact mk_of I hm r h (I.hok.gone hm.new)
end L2N
namespace Mi
open PySem PySem.Spec L2 Dh
open _root_.Evl (Ex)
section
variable {K : PySem.W.Frag} {b : Bs} {G Gx : List Sl} {α β γ γ' δ τ τ' ρ ε ε' θ : Type} {Gn : τ → List Sl} {Gl : θ → List Sl} {ro : ρ → V → Hp → Hp → Prop} {σ : L2.St} {F H F' H' : Hp}
def x0 (C : Addr) : Xp Unit := ⟨fun _ cls d _ => cls = .ref C ∧ d = none, fun _ h => h⟩
/-- the reading of `C()` behind raise, under a name -/
def tMk0 (C : Addr) : L2.St → Hp → XK → Prop := fun _ H Q => Q (.ref C) none H
theorem pmk0 {X : Cx} {C : Addr} {x : Str} {p pos : Pos} (q : PySem.W.excIn X.K C [.type "ValueError", .type "Exception", .type "BaseException", .type "object"] "ValueError.__new__" = true) (gC : X.mg x = some (.ref C)) (kC : PySem.W.keepIn X.K (.ref C) = true) (r : Raises X (.ref C)) (hg : L2.Gl X x)
    (hdb : (x == ("__debug__" : Str)) = false := by decide) : L2N.PMk X (.Call (.Name x p) [] [] pos) (tMk0 C) := L2N.pmk_own0 PySem.F.excBase_ValueError q gC kC r hg hdb
theorem s_raise0 {gx : List Sl → Prop} {x : Xp ε} {kx : ε → Prop} {W : WX} {C : Addr} {i : Unit → ε} (O : Out b gx x kx W) (hg : gx G) (hj : XSub (x0 C) x i) : S b G (tRaise (tMk0 C) W) Gn Gl ro (fun _ => kx (i ())) := fun σ F H D d V q _ _ _ _ =>
  O hg q V (hj () _ _ _ ⟨rfl, rfl⟩)
/-- which of them isinstance takes, with a dict or without -/
def XIs2 (K : PySem.W.Frag) (x : Xp ε) (cv : Value) (is : ε → Bool) : Prop := ∀ e cls d F, x.h e cls d F → ∃ (D : Addr), ExcC K D ∧ cls = .ref D ∧ (d = none ∨ ∃ dd fs, d = some dd ∧ F dd = some (.xd fs)) ∧ PySem.W.kitOne K (.ref D) cv = some (is e)
theorem xi2_0 {C : Addr} {cv : Value} {t : Bool} (X : ExcC K C) (h : PySem.W.kitOne K (.ref C) cv = some t) : XIs2 K (x0 C) cv (fun _ => t) := fun _ _ _ _ ⟨h1, h2⟩ => ⟨C, X, h1, .inl h2, h⟩
theorem xi2_1 {C : Addr} {n : Str} {r : R α} {cv : Value} {t : Bool} (X : ExcC K C) (h : PySem.W.kitOne K (.ref C) cv = some t) : XIs2 K (x1 C n r) cv (fun _ => t) := fun _ _ _ _ ⟨h1, dd, v, h2, h3, _⟩ => ⟨C, X, h1, .inr ⟨dd, _, h2, h3⟩, h⟩
theorem xi2_or {x : Xp ε} {y : Xp δ} {cv : Value} {i : ε → Bool} {j : δ → Bool} (h1 : XIs2 K x cv i) (h2 : XIs2 K y cv j) : XIs2 K (xOr x y) cv (Sum.elim i j) := fun e cls d F h => by
  cases e with
  | inl a => exact h1 a cls d F h
  | inr c => exact h2 c cls d F h
theorem xc_0 {C : Addr} {c : Value} {t : Bool} (h : PySem.W.exmOne K (.ref C) c = some t) : XCa K (x0 C) c (fun _ => t) := fun _ _ _ _ ⟨h1, _⟩ => by rw [h1]; exact h
def rIsH (K : PySem.W.Frag) (cls : Value) (d : Option Addr) (a : Addr) : List V → Hp → VK → Prop := fun xs H Q => ∃ (D : Addr) (c : V) (cv : Value) (t : Bool), ExcC K D ∧ cls = .ref D ∧ (d = none ∨ ∃ dd fs, d = some dd ∧ H dd = some (.xd fs)) ∧ xs = [.ref a, c] ∧ (∀ u, RelV c u → u = cv) ∧ PySem.W.kitOne K (.ref D) cv = some t ∧ Q (.bl t) H
theorem call_isH {X : Cx} {a : Addr} {oe : Obj} {cls : Value} {d : Option Addr} {pn : List (Addr × Obj)} (hz : Zc cls d oe) (hf : ∃ vs, oe.data = .fields vs) : CallR (X.suite a ((a, oe) :: pn)) (.builtin "isinstance") (rIsH X.K cls d a) := by
  intro pins s σ H xs us Q I r h
  obtain ⟨D, c, cv, t, hC, ec, ed, e1, e2, e3, q⟩ := h
  rcases ed with ed | ⟨dd, fs, ed, e4⟩
  · subst ec ed
    exact call_isE hC hz hf pins s σ H xs us Q I r ⟨c, cv, t, e1, e2, e3, q⟩
  · exact call_isX (dd := dd) hC hz hf pins s σ H xs us Q I r ⟨ec, ed, c, cv, t, fs, e1, e2, e3, e4, q⟩
theorem e_isx2 {te : TE} {x : Xp ε} {f : (ε → Prop) → Prop} {a : Addr} {cls : Value} {d : Option Addr} {c : V} {cv : Value} {is : ε → Bool} (hX : XIs2 K x cv is) (hc : ∀ u, RelV c u → u = cv) (h : E b G te (rErr x a cls d) f) :
    E b G (tCB (rIsH K cls d a) (tCons te (tCons (tC c) tNil))) rBl (fun k => f fun e => k (is e)) := fun σ F H Q k V q w => by
  refine h _ V q ?_
  intro e v F1 H1 q1 A1 V1 ⟨hv, hx⟩
  subst hv
  obtain ⟨D, h1, h2, h3, h4⟩ := hX e cls d F1 hx
  exact ⟨D, c, cv, is e, h1, h2, h3.imp id fun ⟨dd, fs, z1, z2⟩ => ⟨dd, fs, z1, V1.fh _ _ z2⟩, rfl, hc, h4, w _ _ F1 H1 q1 A1 V1 rfl⟩
/-! ### more of defs with an own first thing -/
theorem e_callRX {c : C γ} {y : γ} {i : Nat} {p : Addr} {s : RI α} {r : R β} {gx : List Sl → Prop} {x : Xp ε} {kx : ε → Prop} {W : WX} {x' : Xp ε'} {j : ε' → ε} {g : γ → α → (β → Prop) → (ε' → Prop) → Prop} {ta : TA} {f : (α → Prop) → Prop} (O : Out b gx x kx W) (hg : gx G) (hj : XSub x' x j) (hi : G[i]? = some (own p c y)) (h : Ar b G ta s f) :
    E b G (tCallS (spRX c s r x' g) (WE W) (tCons (tVar i) ta)) r (fun k => f fun a => g y a k fun e => kx (j e)) := fun σ F H Q k V q w => by
  obtain ⟨o, h1, rfl, _⟩ := V.hold.at_ hi
  refine ⟨.ref p, h1, ?_⟩
  refine h _ V q ?_
  intro a vs F1 H1 q1 A1 V1 r1
  obtain ⟨f1, B1⟩ := V1.cAt hi
  have hp : p ∈ owns G := mem_owns hi List.mem_cons_self
  exact ⟨p, vs, y, a, F1, k, fun e => kx (j e), rfl, f1, B1, V1.fh, r1, q1, fun z v F2 H2 q2 A2 B2 r2 => w z v F2 H2 q2 (A1.trans (A2.mono fun q hq => by rw [List.mem_singleton.mp hq]; exact hp)) (V1.back hi A2 B2) r2,
    fun e cls d F2 H2 q2 A2 B2 hx => O hg q2 (V1.back hi A2 B2) (hj _ _ _ _ hx)⟩
theorem ownstart {c : C γ} {y : γ} {p : Addr} {u : HO} {s : RI α} {N : List Str} {m : Nat} {ws : List V} {a : α} (e : Ex F H) (fp : F p = none) (hb : H p = some u) (hbl : c.h y u F) (hs : s.h a ws F) (hN : N.length = s.n + 1 + m) (ml : ∀ q ∈ [p], H q ≠ none) :
    Env ⟨F, H, [p], ml⟩ (own p c y :: (s.sl a ++ List.replicate m any)) (L2.start N (.ref p :: ws)) F H := by
  have hl := s.ln hs
  have ow : owns (own p c y :: (s.sl a ++ List.replicate m any)) = [p] := by
    show [p] ++ owns _ = _
    rw [owns_app, s.no, owns_any]; rfl
  refine ⟨Ex.refl _, e, fun _ _ _ h => h, fun _ h => h, fun _ h _ => h, ?_, by rw [ow]; simp, fun q hq => ?_⟩
  · unfold L2.start
    have : N.length - (V.ref p :: ws).length = m := by rw [List.length_cons]; omega
    rw [this]
    exact .cons (show _ ∧ _ from ⟨rfl, _, hb, hbl⟩) (paired_app' (s.hs hs) holds_any)
  · rw [ow] at hq
    cases List.mem_singleton.mp hq
    exact ⟨fp, .inl List.mem_cons_self⟩
/-- check_..(o): nothing is given -/
theorem run_RXN {c : C γ} {s : RI α} {x : Xp ε} {g : γ → α → (Unit → Prop) → (ε → Prop) → Prop} {N : List Str} {m : Nat} {t : TS} {vs : List V} {Q : VK} {Ek : XK} {f : γ → α → (ε → Prop) → Pd τ Unit Unit → Prop} (h : spRX c s rNon x g vs H Q Ek) (hN : N.length = s.n + 1 + m)
    (hS : ∀ b p y a kx, b.M = [p] → Out b (fun G => G[0]? = some (own p c y)) x kx (fun cls d _ H => Ek cls d H) → S b (own p c y :: (s.sl a ++ List.replicate m any)) t (fun _ : τ => own p c y :: List.replicate (s.n + m) any) (fun _ : Unit => []) (fun z v F H => CAt c y F H p ∧ rNon.h z v F) (f y a kx)) (hg : ∀ y a k kx, g y a k kx → f y a kx ⟨fun _ => k (), fun _ => False, fun _ => False, k⟩) :
    t { nx := fun _ H' => Q .non H', rt := Q } (L2.start N vs) H := by
  obtain ⟨p, ws, y, a, F, k, kx, rfl, fp, ⟨u, hb, hbl⟩, e, hs, q, w, wx⟩ := h
  exact S.go (hS ⟨F, H, [p], fun q hq => by rw [List.mem_singleton.mp hq, hb]; exact fun z => nomatch z⟩ p y a kx rfl (fun G e cls d σ F' H' hG q' V' hx => wx e cls d F' H' q' V'.after (V'.cAt hG).2 hx)) (L2.start N (.ref p :: ws)) F H _ ⟨fun _ => k (), fun _ => False, fun _ => False, k⟩ (ownstart e fp hb hbl hs hN _) (hg y a k kx q)
    (fun _ σ' F' H' hk _ V' => w () .non F' H' hk V'.after (V'.cAt (i := 0) rfl).2 rfl) (fun _ _ _ _ h => h.elim) (fun _ _ _ _ h => h.elim) (fun z v F' H' hk A hr => w z v F' H' hk A hr.1 hr.2)
/-- a method that changes its object and gives nothing -/
theorem run_CN {c : C γ} {s : RI α} {x : Xp ε} {g : γ → α → (Unit × γ → Prop) → (ε → Prop) → Prop} {N : List Str} {m : Nat} {t : TS} {vs : List V} {Q : VK} {Ek : XK} {f : γ → α → (ε → Prop) → Pd γ Unit (Unit × γ) → Prop} (h : spC c s rNon x g vs H Q Ek) (hN : N.length = s.n + 1 + m)
    (hS : ∀ b p y a kx, b.M = [p] → Out b (fun G => G[0]? = some (own p c y)) x kx (fun cls d _ H => Ek cls d H) → S b (own p c y :: (s.sl a ++ List.replicate m any)) t (fun y' : γ => own p c y' :: List.replicate (s.n + m) any) (fun _ : Unit => []) (fun z v F H => RC c rNon p z v F H) (f y a kx)) (hg : ∀ y a k kx, g y a k kx → f y a kx ⟨fun y' => k ((), y'), fun _ => False, fun _ => False, k⟩) :
    t { nx := fun _ H' => Q .non H', rt := Q } (L2.start N vs) H := by
  obtain ⟨p, ws, y, a, F, k, kx, rfl, fp, ⟨u, hb, hbl⟩, e, hs, q, w, wx⟩ := h
  exact S.go (hS ⟨F, H, [p], fun q hq => by rw [List.mem_singleton.mp hq, hb]; exact fun z => nomatch z⟩ p y a kx rfl (fun G e cls d σ F' H' hG q' V' hx => wx e cls d F' H' q' V'.after (V'.cAt hG).1 (V'.cAt hG).2 hx)) (L2.start N (.ref p :: ws)) F H _ ⟨fun y' => k ((), y'), fun _ => False, fun _ => False, k⟩ (ownstart e fp hb hbl hs hN _) (hg y a k kx q)
    (fun y' σ' F' H' hk _ V' => w () y' .non F' H' hk V'.after (V'.cAt (i := 0) rfl).1 (V'.cAt (i := 0) rfl).2 rfl) (fun _ _ _ _ h => h.elim) (fun _ _ _ _ h => h.elim) (fun z v F' H' hk A hr => w z.1 z.2 v F' H' hk A hr.1 hr.2.1 hr.2.2)
theorem s_retCN {i : Nat} {p : Addr} {c : C γ} {y : γ} (hi : G[i]? = some (own p c y)) : S b G tRetN Gn Gl (fun z v F H => RC c rNon p z v F H) (fun d => d.rt ((), y)) := fun σ F H D d V q _ _ _ w4 => w4 ((), y) .non F H q V.after ⟨(V.cAt hi).1, (V.cAt hi).2, rfl⟩
end
end Mi
/-! Mir20 -/
set_option Elab.async false
set_option linter.all false
set_option maxRecDepth 100000
set_option maxHeartbeats 4000000
/-! o.m() whose errors' wish looks at the slots; C(k = v, ..) in the mirror -/
namespace Dh
open PySem PySem.Spec PyProof.Rows L2
section
variable {X : Cx} {CX : CXT} {k : Nat} {f C : Addr} {fd : FuncData} {ps : List Str} {sp : Sp} {E : L2.St → XK} {m : Str} {pos apos : Pos} {o : Expr} {ta : TE}
theorem pe_methE0 {pl : Sem Bool} (he : PE X o ta) (c : Cls X.K C) (hm : Meth X.K C m f) (F : FnOk X.prog X.w X.K X.mg X.base CX k f fd ps sp) (hr : Room k X.A) (hb : Binds X.K fd ps []) (hx : ∀ σ, PassesAt CX X σ (E σ))
    (ht : eval (.Call (.Attribute o m apos) [] [] pos) X.env = (do
      let ov ← eval o X.env
      standAt apos.atName
      let (f, first) ← holding [ov] (getMethod ov m pl)
      callWith pos f first (backTo pos (starEach [] X.env)) (backToKw pos (keywordEach [] X.env))) := by rfl) :
    PE X (.Call (.Attribute o m apos) [] [] pos) (tMethS C m sp E ta tNil) :=
  ⟨fun pins s σ H Q I h => PySem.W.methodCall_KW (pl := pl) (thn (he.run pins s σ H _ I h) fun u s1 ⟨x, H1, I1, rx, a, dx, fs, ex, ea, l, q⟩ => by
    subst ex
    cases (show u = Value.ref a from rx)
    exact getmeth_ok I1 ea c hm l (PySem.W.callWith_K0 (first := [.ref a]) I1.kIn hm.kp (run_fnS (us := [.ref a]) (vs := [.ref a]) F hr hb (hx σ) I1 (.cons rfl .nil) q))) ht⟩
end
end Dh
namespace Mi
open PySem PySem.Spec L2 Dh
open _root_.Evl (Ex)
section
variable {K : PySem.W.Frag} {b : Bs} {G Gx : List Sl} {α β γ γ' δ τ τ' ρ ε ε' θ : Type} {Gn : τ → List Sl} {Gl : θ → List Sl} {ro : ρ → V → Hp → Hp → Prop} {σ : L2.St} {F H F' H' : Hp}
/-- C(k = v, ..), all parameters told by keywords in the order of the def's (perm: what KBn's gV does of it) -/
theorem enc_makeK0 {Cl : Addr} {s : RI α} {fk : FK β} {x : Xp ε} {g : α → (β → Prop) → (ε → Prop) → Prop} {Ek : XK} {ta : TA} {n : Nat} {gV : List V → List V → List V} {f : (α → Prop) → Prop} (hn : s.n = n) (hg : ∀ (v : V) (zs : List V), zs.length = n → gV [v] zs = v :: zs) (h : Ar b G ta s f) :
    ENc b G (tMakeK Cl 0 n (spI Cl s fk x g) gV Ek tNil ta) (cIns Cl fk) (fun k => f fun a => g a k fun _ => False) := fun σ F H Q k V q w => by
  refine h _ V q ?_
  intro a vs F1 H1 q1 A1 V1 r1
  refine ⟨rfl, (s.ln r1).trans hn, fun p dx hp hdx ne => ?_⟩
  rw [hg _ _ ((s.ln r1).trans hn)]
  have fp : F1 p = none := ex_none V1.fh hp
  have fd : F1 dx = none := ex_none V1.fh hdx
  have e2 : Ex F1 (upd (upd H1 dx (.own p)) p (.ins Cl dx [])) := ex_mut fp (ex_mut fd V1.fh)
  refine ⟨p, dx, vs, a, F1, k, fun _ => False, rfl, upd_same, fp, e2, r1, q1, fun y F2 H2 q2 A2 f2 ⟨u, hu, hc⟩ => ⟨rfl, ?_⟩, fun _ _ _ _ _ h => h.elim⟩
  have old : ∀ z o, H1 z = some o → z ≠ p ∧ z ≠ dx := fun z o hz => ⟨ne_of_none hz hp, ne_of_none hz hdx⟩
  have B : After F1 H1 [] F2 H2 := ⟨A2.ff, A2.fh, fun z o _ hz => A2.hh z o (by rw [List.mem_singleton]; exact (old z o hz).1) (by rw [upd_ne (old z o hz).1, upd_ne (old z o hz).2]; exact hz), fun z hz => by
    cases e : H1 z with
    | none => exact absurd e hz
    | some o => exact A2.kp z (by rw [upd_ne (old z o e).1, upd_ne (old z o e).2, e]; exact fun z => nomatch z), fun z h1 hz => by
    cases e : H1 z with
    | none => exact absurd e hz
    | some o => exact A2.nf z h1 (by rw [upd_ne (old z o e).1, upd_ne (old z o e).2, e]; exact fun z => nomatch z)⟩
  refine w y p u F2 H2 q2 (A1.trans (B.mono fun _ h => nomatch h)) (V1.step B) ?_ f2 hu hc
  cases e : H p with
  | none => rfl
  | some z => exact absurd hp (A1.kp p (by rw [e]; exact fun z => nomatch z))
theorem s_never {f : Pd τ θ ρ → Prop} (hf : ∀ d, ¬ f d) : S b G tNever Gn Gl ro f := fun _ _ _ _ d _ q => (hf d q).elim
theorem s_never0 : S b G tNever Gn Gl ro (fun _ => False) := s_never fun _ h => h
/-- x in (.., ..) -/
theorem e_inT [DecidableEq α] {neg : Bool} {tx te : TE} {r : R α} {f : (α → Prop) → Prop} {g : (List α → Prop) → Prop} (fl : Flat r) (hx : E b G tx r f) (h : E b G te (rTup K r) g) : E b G (tOp (rIn K neg) tx te) rBl (fun k => f fun x => g fun xs => k (if neg then !decide (x ∈ xs) else decide (x ∈ xs))) := fun _ _ _ _ k V q w => by
  refine hx _ V q ?_
  intro x v F1 H1 q1 A1 V1 r1
  refine h _ V1 q1 ?_
  rintro xs u F2 H2 q2 A2 V2 ⟨p, vs, rfl, hp, k2⟩
  refine ⟨p, vs, rfl, .inr (_root_.Evl.ex_t V2.fh hp), fl.fl r1, k2.flat fl, w _ _ F2 H2 q2 (A1.trans A2) V2 ?_⟩
  rw [k2.inV fl r1]; rfl
theorem e_inTP [DecidableEq α] {tx te : TE} {r : R α} {f : (α → Prop) → Prop} {g : (List α → Prop) → Prop} (fl : Flat r) (hx : E b G tx r f) (h : E b G te (rTup K r) g) : E b G (tOp (rIn K false) tx te) rBl (fun k => f fun x => g fun xs => k (decide (x ∈ xs))) := e_inT fl hx h
theorem e_inTN [DecidableEq α] {tx te : TE} {r : R α} {f : (α → Prop) → Prop} {g : (List α → Prop) → Prop} (fl : Flat r) (hx : E b G tx r f) (h : E b G te (rTup K r) g) : E b G (tOp (rIn K true) tx te) rBl (fun k => f fun x => g fun xs => k (!decide (x ∈ xs))) := e_inT fl hx h
/-- a def that gives nothing and lets nothing out -/
theorem run_PN {s : RI α} {g : α → (Unit → Prop) → Prop} {N : List Str} {m : Nat} {t : TS} {vs : List V} {Q : VK} {Ek : XK} {Gn : Bs → α → τ → List Sl} {f : α → Pd τ Unit Unit → Prop} (h : spP s rNon g vs H Q Ek) (hN : N.length = s.n + m)
    (hS : ∀ b x, b.M = [] → S b (s.sl x ++ List.replicate m any) t (Gn b x) (fun _ : Unit => []) (fun y v F _ => rNon.h y v F) (f x)) (hg : ∀ x k, g x k → f x ⟨fun _ => k (), fun _ => False, fun _ => False, k⟩) :
    t { nx := fun _ H' => Q .non H', rt := Q } (L2.start N vs) H := by
  obtain ⟨x, F, k, e, hs, q, w⟩ := h
  exact S.go (hS ⟨F, H, [], fun _ h => nomatch h⟩ x rfl) (L2.start N vs) F H _ ⟨fun _ => k (), fun _ => False, fun _ => False, k⟩ (start_env e hs hN) (hg x k q) (fun _ σ' F' H' hk _ V' => w () .non F' H' hk V'.after rfl) (fun _ _ _ _ h => h.elim) (fun _ _ _ _ h => h.elim) (fun y v F' H' hk A hr => w y v F' H' hk A hr)
end
end Mi
/-! Mir21 -/
set_option Elab.async false
set_option linter.all false
set_option maxRecDepth 100000
set_option maxHeartbeats 4000000
/-! a list of own things -/
namespace Mi
open PySem PySem.Spec L2 Dh
open _root_.Evl (Ex)
section
variable {K : PySem.W.Frag} {b : Bs} {G Gx : List Sl} {α β γ γ' δ τ τ' ρ ε ε' θ : Type} {Gn : τ → List Sl} {Gl : θ → List Sl} {ro : ρ → V → Hp → Hp → Prop} {σ : L2.St} {F H F' H' : Hp}
abbrev OCs (c : C α) (F H : Hp) : List Addr → List α → Prop := Paired fun q y => ∃ u, H q = some u ∧ c.h y u F
theorem OCs.up {c : C α} {qs : List Addr} {ys : List α} (h : OCs c F H qs ys) (e : Ex F F') (k : ∀ q ∈ qs, ∀ u, H q = some u → H' q = some u) : OCs c F' H' qs ys := by
  induction h with
  | nil => exact .nil
  | cons r t ih =>
    obtain ⟨u, h1, h2⟩ := r
    exact .cons ⟨u, k _ List.mem_cons_self u h1, c.ex e h2⟩ (ih fun q hq => k q (List.mem_cons_of_mem _ hq))
theorem OCs.live {c : C α} {qs : List Addr} {ys : List α} (h : OCs c F H qs ys) : ∀ q ∈ qs, H q ≠ none := by
  induction h with
  | nil => intro q hq; nomatch hq
  | cons r t ih =>
    obtain ⟨u, h1, _⟩ := r
    intro q hq
    rcases List.mem_cons.mp hq with z | z
    · rw [z, h1]; exact fun z => nomatch z
    · exact ih q z
/-- a list whose things are own, too -/
def ownC (p : Addr) (qs : List Addr) (c : C α) (ys : List α) : Sl := ⟨fun o F H => o = some (.ref p) ∧ H p = some (.lst (qs.map V.ref)) ∧ OCs c F H qs ys, p :: qs,
  fun e k ⟨h1, h2, h3⟩ => ⟨h1, k p List.mem_cons_self _ h2, h3.up e fun q hq u hu => k q (List.mem_cons_of_mem _ hq) u hu⟩, fun ⟨_, h2, h3⟩ q hq => by
    rcases List.mem_cons.mp hq with z | z
    · rw [z, h2]; exact fun z => nomatch z
    · exact h3.live q z⟩
theorem OCs.at_ {c : C α} {qs : List Addr} {ys : List α} (h : OCs c F H qs ys) {n : Nat} {y : α} (e : ys[n]? = some y) : ∃ q u, qs[n]? = some q ∧ H q = some u ∧ c.h y u F := by
  induction h generalizing n with
  | nil => simp at e
  | @cons q y' qs ys r t ih =>
    cases n with
    | zero => simp at e; subst e; obtain ⟨u, h1, h2⟩ := r; exact ⟨q, u, rfl, h1, h2⟩
    | succ n => simpa using ih (by simpa using e)
theorem OCs.len {c : C α} {qs : List Addr} {ys : List α} (h : OCs c F H qs ys) : qs.length = ys.length := Paired.length h
/-- one of them changed -/
theorem OCs.put {c : C α} {qs : List Addr} {ys : List α} (h : OCs c F H qs ys) (e : Ex F F') {n : Nat} {q : Addr} {y : α} {u : HO} (hq : qs[n]? = some q) (nd : qs.Nodup) (k : ∀ a o, a ≠ q → H a = some o → H' a = some o) (hu : H' q = some u) (hc : c.h y u F') : OCs c F' H' qs (ys.set n y) := by
  induction h generalizing n with
  | nil => simp at hq
  | @cons q' y' qs ys r t ih =>
    rw [List.nodup_cons] at nd
    cases n with
    | zero =>
      simp at hq; subst hq
      exact .cons ⟨u, hu, hc⟩ (OCs.up t e fun a ha o ho => k a o (fun z => nd.1 (z ▸ ha)) ho)
    | succ n =>
      have hq : qs[n]? = some q := by simpa using hq
      obtain ⟨u', h1, h2⟩ := r
      refine .cons ⟨u', k _ _ (fun z => nd.1 (z ▸ List.mem_of_getElem? hq)) h1, c.ex e h2⟩ (ih hq nd.2)
/-- the thing at n, as an own slot's -/
theorem Env.cAtI {c : C α} {i : Nat} {p : Addr} {qs : List Addr} {ys : List α} {n : Nat} {y : α} (V : Env b G σ F H) (hi : G[i]? = some (ownC p qs c ys)) (e : ys[n]? = some y) : ∃ q, qs[n]? = some q ∧ F q = none ∧ CAt c y F H q ∧ q ∈ owns G := by
  obtain ⟨o, h1, _, h2, h3⟩ := V.hold.at_ hi
  obtain ⟨q, u, g1, g2, g3⟩ := h3.at_ e
  have hq : q ∈ owns G := mem_owns hi (List.mem_cons_of_mem _ (List.mem_of_getElem? g1))
  exact ⟨q, g1, (V.on q hq).1, ⟨u, g2, g3⟩, hq⟩
theorem Env.cNewI {c : C α} {i : Nat} {p : Addr} {qs : List Addr} {ys : List α} {n : Nat} {q : Addr} {y' : α} (V : Env b G σ F H) (hi : G[i]? = some (ownC p qs c ys)) (hq : qs[n]? = some q) (A : After F H [q] F' H') (B : CAt c y' F' H' q) : Env b (G.set i (ownC p qs c (ys.set n y'))) σ F' H' := by
  obtain ⟨o, h1, rfl, h2, h3⟩ := V.hold.at_ hi
  have hqa : q ∈ qs := List.mem_of_getElem? hq
  have hq' : q ∈ owns G := mem_owns hi (List.mem_cons_of_mem _ hqa)
  obtain ⟨u, k2, k3⟩ := B
  have nd' := List.nodup_cons.mp (owns_nd hi V.nd)
  have e : owns (G.set i (ownC p qs c (ys.set n y'))) = owns G := owns_same hi rfl
  have keep : ∀ a o, a ≠ q → H a = some o → H' a = some o := fun a o ne ho => A.hh a o (fun z => ne (List.mem_singleton.mp z)) ho
  exact V.step0 A (fun z hz => by rw [List.mem_singleton.mp hz]; exact hq') (fun z hz => by rw [← e]; exact hz) (by rw [e]; exact V.nd)
    (V.hold.mut V.nd hi h1 (List.mem_cons_of_mem _ hqa) A.ff (fun a o ne ho => keep a o ne ho) (show _ ∧ _ ∧ _ from ⟨rfl, keep _ _ (fun z => nd'.1 (z ▸ hqa)) h2, h3.put A.ff hq nd'.2 keep k2 k3⟩))
/-- xs[j].m(..), that thing changed; where no error may come -/
theorem em_methCI0 {c : C γ} {ys : List γ} {i : Nat} {p Cl : Addr} {qs : List Addr} {m : Str} {tj : TE} {s : RI α} {r : R β} {x' : Xp ε'} {g : γ → α → (β × γ → Prop) → (ε' → Prop) → Prop} {Ek : XK} {ta : TA} {f : (Int → Prop) → Prop} {f2 : (α → Prop) → Prop} (hi : G[i]? = some (ownC p qs c ys)) (hj : E b G tj rInt f)
    (hc : ∀ y u F, c.h y u F → ∃ dx fs, u = .ins Cl dx fs ∧ fs.lookup m = none) (h : Ar b G ta s f2) :
    EM b G (tMeth Cl m (spC c s r x' g) [] Ek (tOp (rIxL K) (tVar i) tj) ta) r (fun z : Nat × γ => G.set i (ownC p qs c (ys.set z.1 z.2))) (fun k => f fun j => ∃ n y, ixN ys.length j = some n ∧ ys[n]? = some y ∧ f2 fun a => g y a (fun z => k (z.1, (n, z.2))) fun _ => False) := fun σ F H Q k V q w => by
  obtain ⟨o, h1, rfl, _⟩ := V.hold.at_ hi
  refine ⟨.ref p, h1, ?_⟩
  refine hj _ V q ?_
  rintro j v F0 H0 ⟨n, y, hn, hy, q0⟩ A0 V0 e
  cases e
  obtain ⟨o, h1', e, h2, h3⟩ := V0.hold.at_ hi
  obtain ⟨qa, g1, fq, ⟨u, hu, hcu⟩, _⟩ := V0.cAtI hi hy
  refine ⟨p, _, j, .ref qa, rfl, rfl, SqL.of h2, ?_, ?_⟩
  · unfold atI
    rw [List.length_map, h3.len, hn]
    show (qs.map L2.V.ref)[n]? = _
    rw [List.getElem?_map, g1]; rfl
  obtain ⟨dx, fs, rfl, hl⟩ := hc _ _ _ hcu
  refine ⟨qa, dx, fs, rfl, hu, hl, ?_⟩
  refine h _ V0 q0 ?_
  intro a vs F1 H1 q1 A1 V1 r1
  show spC c s r x' g (.ref qa :: (vs ++ [])) H1 _ _
  rw [List.append_nil]
  obtain ⟨qb, g2, f1, B1, _⟩ := V1.cAtI hi hy
  rw [g1] at g2; cases g2
  exact ⟨qa, vs, y, a, F1, _, fun _ => False, rfl, f1, B1, V1.fh, r1, q1, fun z y' v F2 H2 q2 A2 f2 B2 r2 => w z (n, y') v F2 H2 q2 ((A0.ff.trans A1.ff).trans A2.ff) (V1.cNewI hi g1 A2 B2) r2, fun _ _ _ _ _ h => h.elim⟩
/-- x = [e1, e2], both new own things -/
theorem s_lst2C {t1 t2 : TE} {c : C γ} {i : Nat} {f1 f2 : (γ → Prop) → Prop} {g : γ → γ → Pd τ θ ρ → Prop} {t : TS} (h1 : ENc b G t1 c f1) (h2 : ENc b G t2 c f2) (ht : ∀ p qs a1 a2, (∀ q ∈ p :: qs, q ∉ b.M) → S b (G.set i (ownC p qs c [a1, a2])) t Gn Gl ro (g a1 a2)) :
    S b G (tSeq (tAsg (tLst (tCons t1 (tCons t2 tNil))) (gName i)) t) Gn Gl ro (fun d => f1 fun a1 => f2 fun a2 => g a1 a2 d) := fun σ F H D d V q w1 w2 w3 w4 => by
  refine h1 _ V q ?_
  intro a1 p1 u1 F1 H1 q1 A1 V1 e1 f1n g1 c1
  refine h2 _ V1 q1 ?_
  intro a2 p2 u2 F2 H2 q2 A2 V2 e2 f2n g2 c2
  have n1 : p1 ∉ owns G := fun z => V.hold.live p1 z e1
  have n2 : p2 ∉ owns G := fun z => V1.hold.live p2 z e2
  have g1' : H2 p1 = some u1 := A2.hh _ _ n1 g1
  have f1' : F2 p1 = none := A2.nf _ f1n (by rw [g1]; exact fun z => nomatch z)
  have ne : p1 ≠ p2 := fun z => by rw [z, e2] at g1; cases g1
  refine ⟨by show 2 ≤ sizeLine; decide, fun p hp => ?_⟩
  have B := After.fresh (o := .lst [.ref p1, .ref p2]) V2.fh hp (owns G)
  have V3 := V2.step (After.fresh (o := .lst [.ref p1, .ref p2]) V2.fh hp [])
  have np1 : p1 ≠ p := ne_of_none g1' hp
  have np2 : p2 ≠ p := ne_of_none g2 hp
  have nO : p ∉ owns G := fun z => V2.hold.live p z hp
  have fp : F2 p = none := ex_none V2.fh hp
  have hb : ∀ z, H z = none → b.H z = none := fun z hz => by
    cases e : b.H z with
    | none => rfl
    | some u => exact absurd hz (V.kp z (by rw [e]; exact fun z => nomatch z))
  have b1 := hb p1 e1
  have b2 : b.H p2 = none := by
    cases e : b.H p2 with
    | none => rfl
    | some u => exact absurd e2 (V1.kp p2 (by rw [e]; exact fun z => nomatch z))
  have b3 : b.H p = none := by
    cases e : b.H p with
    | none => rfl
    | some u => exact absurd hp (V2.kp p (by rw [e]; exact fun z => nomatch z))
  have nM : ∀ q ∈ p :: [p1, p2], q ∉ b.M := fun q hq z => by
    have hq : q = p ∨ q = p1 ∨ q = p2 := by simpa using hq
    rcases hq with e | e | e
    · rw [e] at z; exact b.ml p z b3
    · rw [e] at z; exact b.ml p1 z b1
    · rw [e] at z; exact b.ml p2 z b2
  have ex := A1.ff.trans A2.ff
  refine ht p [p1, p2] a1 a2 nM d ?_ q2 (fun y σ2 F3 H3 q3 e3 => w1 y σ2 F3 H3 q3 (ex.trans e3)) (fun y σ2 F3 H3 q3 e3 => w2 y σ2 F3 H3 q3 (ex.trans e3)) (fun y σ2 F3 H3 q3 e3 => w3 y σ2 F3 H3 q3 (ex.trans e3)) w4
  have nd : (p :: [p1, p2]).Nodup := by
    simp only [List.nodup_cons, List.mem_cons, List.not_mem_nil, or_false, not_or]
    exact ⟨⟨fun z => np1 z.symm, fun z => np2 z.symm⟩, ne, fun z => z, List.nodup_nil⟩
  obtain ⟨o1, o2⟩ := owns_setL (s := ownC p [p1, p2] c [a1, a2]) (G := G) (i := i) (fun q hq z => by
    have hq : q = p ∨ q = p1 ∨ q = p2 := by simpa [ownC] using hq
    rcases hq with e | e | e
    · rw [e] at z; exact nO z
    · rw [e] at z; exact n1 z
    · rw [e] at z; exact n2 z) nd V3.nd
  refine ⟨V3.ff, V3.fh, V3.hh, V3.kp, V3.nf, V3.hold.set (s := ownC p [p1, p2] c [a1, a2]) (o := some (.ref p)) ⟨rfl, upd_same, .cons ⟨u1, by rw [upd_ne np1]; exact g1', c.ex A2.ff c1⟩ (.cons ⟨u2, by rw [upd_ne np2]; exact g2, c2⟩ .nil)⟩, o2, fun q hq => ?_⟩
  rcases o1 q hq with z | z
  · have hq : q = p ∨ q = p1 ∨ q = p2 := by simpa [ownC] using z
    rcases hq with e | e | e
    · rw [e]; exact ⟨fp, .inr b3⟩
    · rw [e]; exact ⟨f1', .inr b1⟩
    · rw [e]; exact ⟨f2n, .inr b2⟩
  · exact V3.on q z
/-- f(xs[j], ..), that thing changed; where no error may come -/
theorem em_callCI0 {c : C γ} {ys : List γ} {i : Nat} {p : Addr} {qs : List Addr} {tj : TE} {s : RI α} {r : R β} {x' : Xp ε'} {g : γ → α → (β × γ → Prop) → (ε' → Prop) → Prop} {Ek : XK} {ta : TA} {f : (Int → Prop) → Prop} {f2 : (α → Prop) → Prop} (hi : G[i]? = some (ownC p qs c ys)) (hj : E b G tj rInt f) (h : Ar b G ta s f2) :
    EM b G (tCall (spC c s r x' g) [] Ek (tCons (tOp (rIxL K) (tVar i) tj) ta)) r (fun z : Nat × γ => G.set i (ownC p qs c (ys.set z.1 z.2))) (fun k => f fun j => ∃ n y, ixN ys.length j = some n ∧ ys[n]? = some y ∧ f2 fun a => g y a (fun z => k (z.1, (n, z.2))) fun _ => False) := fun σ F H Q k V q w => by
  obtain ⟨o, h1, rfl, _⟩ := V.hold.at_ hi
  refine ⟨.ref p, h1, ?_⟩
  refine hj _ V q ?_
  rintro j v F0 H0 ⟨n, y, hn, hy, q0⟩ A0 V0 e
  cases e
  obtain ⟨o, h1', e, h2, h3⟩ := V0.hold.at_ hi
  obtain ⟨qa, g1, fq, _, _⟩ := V0.cAtI hi hy
  refine ⟨p, _, j, .ref qa, rfl, rfl, SqL.of h2, ?_, ?_⟩
  · unfold atI
    rw [List.length_map, h3.len, hn]
    show (qs.map L2.V.ref)[n]? = _
    rw [List.getElem?_map, g1]; rfl
  refine h _ V0 q0 ?_
  intro a vs F1 H1 q1 A1 V1 r1
  show spC c s r x' g ((.ref qa :: vs) ++ []) H1 _ _
  rw [List.append_nil]
  obtain ⟨qb, g2, f1, B1, _⟩ := V1.cAtI hi hy
  rw [g1] at g2; cases g2
  exact ⟨qa, vs, y, a, F1, _, fun _ => False, rfl, f1, B1, V1.fh, r1, q1, fun z y' v F2 H2 q2 A2 f2 B2 r2 => w z (n, y') v F2 H2 q2 ((A0.ff.trans A1.ff).trans A2.ff) (V1.cNewI hi g1 A2 B2) r2, fun _ _ _ _ _ h => h.elim⟩
/-- xs[j].n -/
theorem e_fldCI {Cl : Addr} {s : FK α} {n : Str} {r : R β} {g : α → β} {i : Nat} {p : Addr} {qs : List Addr} {ys : List α} {tj : TE} {f : (Int → Prop) → Prop} (cl : Cls K Cl) (na : NoAttr K Cl n) (hn : FAt s n r g) (hi : G[i]? = some (ownC p qs (cIns Cl s) ys)) (hj : E b G tj rInt f) :
    E b G (tFld K (tOp (rIxL K) (tVar i) tj) n) r (fun k => f fun j => ∃ m y, ixN ys.length j = some m ∧ ys[m]? = some y ∧ k (g y)) := fun σ F H Q k V q w => by
  obtain ⟨o, h1, rfl, _⟩ := V.hold.at_ hi
  refine ⟨.ref p, h1, ?_⟩
  refine hj _ V q ?_
  rintro j v F0 H0 ⟨m, y, hm, hy, q0⟩ A0 V0 e
  cases e
  obtain ⟨o, h1', e, h2, h3⟩ := V0.hold.at_ hi
  obtain ⟨qa, g1, fq, ⟨u, hu, dx, fs, rfl, hs⟩, _⟩ := V0.cAtI hi hy
  refine ⟨p, _, j, .ref qa, rfl, rfl, SqL.of h2, ?_, ?_⟩
  · unfold atI
    rw [List.length_map, h3.len, hm]
    show (qs.map L2.V.ref)[m]? = _
    rw [List.getElem?_map, g1]; rfl
  obtain ⟨z, hz, hr⟩ := hn hs
  exact ⟨qa, Cl, dx, fs, z, rfl, hu, cl, na, hz, w _ z F0 H0 q0 A0 V0 hr⟩
end
end Mi
/-! Mir22 -/
set_option Elab.async false
set_option linter.all false
set_option maxRecDepth 100000
set_option maxHeartbeats 4000000
/-! own __bool__; a method that reads its own thing and gives a new one; return of a new thing; records whose items change; defs with several own things -/
namespace Dh
open PySem PySem.Spec L2
section
variable {X : Cx} {CX : CXT} {k : Nat} {f C : Addr} {fd : FuncData} {ps : List Str} {sp : Sp} {E : XK}
/-- the truth of a thing whose class has a __bool__ -/
def rOwnB (C : Addr) (sp : Sp) (E : XK) : V → Hp → (Bool → Hp → Prop) → Prop := fun x H Q => ∃ a dx fs, x = .ref a ∧ H a = some (.ins C dx fs) ∧ sp [x] H (fun v H' => ∃ k, v = .bl k ∧ Q k H') E
theorem tru_own (F : FnOk X.prog X.w X.K X.mg X.base CX k f fd ps sp) (hr : Room k X.A) (hs : PySem.W.findIn X.K (.ref C) "__bool__" = some (some (.ref f))) (hf : PySem.W.isFn X.K (.ref f) = true)
    (hb : Binds X.K fd ps []) (hx : Passes CX X E) : TruR X (rOwnB C sp E) := by
  intro pins s σ H x v Q I rx h
  obtain ⟨a, dx, fs, rfl, ha, hsp⟩ := h
  obtain rfl : v = Value.ref a := rx
  obtain ⟨mA, J, _⟩ := ins_get I.hok ha
  obtain ⟨od, J, _⟩ := J.look
  unfold truthy
  have key : wpAny (model X.prog X.w) X.A (callSpecial? (.ref a) "__bool__" []) (fun o s' => ∃ k, o = some (.bool k) ∧ TP X pins σ Q k s') X.xe s := by
    refine special_fn I.kIn J hs hf ?_
    refine wpAny_mono (run_fn (us := [.ref a]) (ds := []) (dvs := []) (vs := [.ref a]) F hr hb .nil hx I (.cons (show RelV (.ref a) (.ref a) from rfl) .nil) hsp) (fun u s' q => ?_) fun _ _ e => e
    obtain ⟨v, H', I', r, hq⟩ := q
    obtain ⟨c, e, q2⟩ := hq
    subst e
    obtain rfl : u = .bool c := r
    exact ⟨c, rfl, H', I', q2⟩
  refine wpAny_bind (wpAny_mono key (fun o s' z => ?_) fun _ _ e => e)
  obtain ⟨k, rfl, z⟩ := z
  exact wpAny_pure z
end
end Dh
namespace Mi
open PySem PySem.Spec L2 Dh
open _root_.Evl (Ex)
section
variable {K : PySem.W.Frag} {b : Bs} {G Gx : List Sl} {α β γ γ' δ δ' τ τ' ρ ε ε' θ π : Type} {Gn : τ → List Sl} {Gl : θ → List Sl} {ro : ρ → V → Hp → Hp → Prop} {σ : L2.St} {F H F' H' : Hp}
theorem t_truO {Cl : Addr} {s : FK γ} {y : γ} {i : Nat} {p : Addr} {g : γ → Unit → (Bool → Prop) → Prop} {Ek : XK} (hi : G[i]? = some (own p (cIns Cl s) y)) :
    Tt b G (fun σ H Q => tVar i σ H fun x H' => rOwnB Cl (spR (cIns Cl s) rNil rBl g) Ek x H' Q) (fun k => g y () k) := fun σ F H Q k V q w => by
  obtain ⟨o, h1, rfl, u, hu, dx, fs, rfl, hs⟩ := V.hold.at_ hi
  obtain ⟨f1, B1⟩ := V.cAt hi
  have hp : p ∈ owns G := mem_owns hi List.mem_cons_self
  refine ⟨.ref p, h1, p, dx, fs, rfl, hu, p, [], y, (), F, k, rfl, f1, B1, V.fh, rfl, q, fun z v F2 H2 q2 A2 B2 r2 => ⟨z, r2, w z F2 H2 q2 (A2.mono fun q hq => by rw [List.mem_singleton.mp hq]; exact hp) ?_⟩⟩
  have := V.cNew hi A2 B2
  rw [set_self hi] at this; exact this
/-- bool(x) of a truth -/
theorem e_boolB {te : TE} {f : (Bool → Prop) → Prop} (h : E b G te rBl f) : E b G (tCB (fun xs H Q => (∃ i, xs = [.int i] ∧ Q (.bl (i != 0)) H) ∨ ∃ k, xs = [.bl k] ∧ Q (.bl k) H) (tCons te tNil)) rBl f := fun _ _ _ _ k V q w => by
  refine h _ V q ?_
  intro a v F1 H1 q1 A1 V1 r1
  exact .inr ⟨a, by rw [show v = .bl a from r1], w a _ F1 H1 q1 A1 V1 rfl⟩
/-! ### a method that reads its own thing, its answer is a new one -/
def spRN (c : C γ) (s : RI α) (c' : C β) (g : γ → α → (β → Prop) → Prop) : Sp := fun vs H Q _ => ∃ (p : Addr) (ws : List V) (y : γ) (x : α) (F : Hp) (k : β → Prop), vs = .ref p :: ws ∧ F p = none ∧ CAt c y F H p ∧ Ex F H ∧ s.h x ws F ∧ g y x k ∧
  ∀ z q u F' H', k z → After F H [p] F' H' → CAt c y F' H' p → H q = none → F' q = none → H' q = some u → c'.h z u F' → Q (.ref q) H'
theorem spRN_len {c : C γ} {s : RI α} {c' : C β} {g : γ → α → (β → Prop) → Prop} {vs : List V} {Q : VK} {Ek : XK} (h : spRN c s c' g vs H Q Ek) : vs.length = s.n + 1 := by
  obtain ⟨p, ws, y, x, F, k, rfl, _, _, _, hs, _⟩ := h; rw [List.length_cons, s.ln hs]
theorem run_RN {c : C γ} {s : RI α} {c' : C β} {g : γ → α → (β → Prop) → Prop} {N : List Str} {m : Nat} {t : TS} {vs : List V} {Q : VK} {Ek : XK} {Gn : Bs → Addr → γ → α → τ → List Sl} {f : γ → α → Pd τ Unit β → Prop} (h : spRN c s c' g vs H Q Ek) (hN : N.length = s.n + 1 + m)
    (hS : ∀ b p y x, b.M = [p] → S b (own p c y :: (s.sl x ++ List.replicate m any)) t (Gn b p y x) (fun _ : Unit => []) (fun z v F H => CAt c y F H p ∧ RN b c' z v F H) (f y x)) (hg : ∀ y x k, g y x k → f y x ⟨fun _ => False, fun _ => False, fun _ => False, k⟩) :
    t { nx := fun _ H' => Q .non H', rt := Q } (L2.start N vs) H := by
  obtain ⟨p, ws, y, x, F, k, rfl, fp, ⟨u, hb, hbl⟩, e, hs, q, w⟩ := h
  have hl := s.ln hs
  refine S.go (hS ⟨F, H, [p], fun q hq => by rw [List.mem_singleton.mp hq, hb]; exact fun z => nomatch z⟩ p y x rfl) (L2.start N (.ref p :: ws)) F H _ ⟨fun _ => False, fun _ => False, fun _ => False, k⟩ ?_ (hg y x k q) (fun _ _ _ _ h => h.elim) (fun _ _ _ _ h => h.elim) (fun _ _ _ _ h => h.elim) (fun z v F' H' hk A hr => by
    obtain ⟨h1, q, u, e1, e2, e3, e4, e5⟩ := hr
    rw [e1]; exact w z q u F' H' hk A h1 e2 e3 e4 e5)
  have ow : owns (own p c y :: (s.sl x ++ List.replicate m any)) = [p] := by
    show [p] ++ owns _ = _
    rw [owns_app, s.no, owns_any]; rfl
  refine ⟨Ex.refl _, e, fun _ _ _ h => h, fun _ h => h, fun _ h _ => h, ?_, by rw [ow]; simp, fun q hq => ?_⟩
  · unfold L2.start
    have : N.length - (V.ref p :: ws).length = m := by rw [List.length_cons]; omega
    rw [this]
    exact .cons (show _ ∧ _ from ⟨rfl, _, hb, hbl⟩) (paired_app' (s.hs hs) holds_any)
  · rw [ow] at hq
    cases List.mem_singleton.mp hq
    exact ⟨fp, .inl List.mem_cons_self⟩
theorem Env.bnone {p : Addr} (V : Env b G σ F H) (h : H p = none) : b.H p = none := by
  cases e : b.H p with
  | none => rfl
  | some u => exact absurd h (V.kp p (by rw [e]; exact fun z => nomatch z))
/-- return of a new thing, in a def that gives one -/
theorem s_retE {te : TE} {c : C α} {f : (α → Prop) → Prop} (h : ENc b G te c f) : S b G (tRet te) Gn Gl (RN b c) (fun d => f d.rt) := fun _ _ _ _ d V q _ _ _ w4 =>
  h _ V q fun a p u F' H' q' A V' h1 h2 h3 h4 => w4 a (.ref p) F' H' q' V'.after ⟨p, u, rfl, V.bnone h1, h2, h3, h4⟩
/-- .. of a method that reads its own thing -/
theorem s_retRE {te : TE} {c : C γ} {c' : C α} {y : γ} {i : Nat} {p : Addr} {f : (α → Prop) → Prop} (hi : G[i]? = some (own p c y)) (h : ENc b G te c' f) : S b G (tRet te) Gn Gl (fun z v F H => CAt c y F H p ∧ RN b c' z v F H) (fun d => f d.rt) := fun _ _ _ _ d V q _ _ _ w4 =>
  h _ V q fun a p u F' H' q' A V' h1 h2 h3 h4 => w4 a (.ref p) F' H' q' V'.after ⟨(V'.cAt hi).2, p, u, rfl, V.bnone h1, h2, h3, h4⟩
theorem s_retRO {c : C γ} {c' : C α} {y : γ} {a : α} {i j : Nat} {p q : Addr} (hi : G[i]? = some (own p c y)) (hj : G[j]? = some (own q c' a)) (hm : q ∉ b.M) : S b G (tRet (tVar j)) Gn Gl (fun z v F H => CAt c y F H p ∧ RN b c' z v F H) (fun d => d.rt a) := fun σ F H D d V h _ _ _ w4 => by
  obtain ⟨o, h1, rfl, u, h2, h3⟩ := V.hold.at_ hj
  refine ⟨.ref q, h1, ?_⟩
  obtain ⟨f1, f2⟩ := V.on q (mem_owns hj List.mem_cons_self)
  exact w4 a _ F H h V.after ⟨(V.cAt hi).2, q, u, rfl, f2.resolve_left hm, f1, h2, h3⟩
/-- o.m(..), a new thing -/
theorem enc_methRN {c : C γ} {c' : C β} {y : γ} {i : Nat} {p Cl : Addr} {m : Str} {s : RI α} {g : γ → α → (β → Prop) → Prop} {Ek : XK} {ta : TA} {f : (α → Prop) → Prop} (hi : G[i]? = some (own p c y)) (hc : ∀ y u F, c.h y u F → ∃ dx fs, u = .ins Cl dx fs ∧ fs.lookup m = none) (h : Ar b G ta s f) :
    ENc b G (tMeth Cl m (spRN c s c' g) [] Ek (tVar i) ta) c' (fun k => f fun x => g y x k) := fun σ F H Q k V q w => by
  obtain ⟨o, h1, rfl, u, hu, hcu⟩ := V.hold.at_ hi
  obtain ⟨dx, fs, rfl, hl⟩ := hc _ _ _ hcu
  refine ⟨.ref p, h1, p, dx, fs, rfl, hu, hl, ?_⟩
  refine h _ V q ?_
  intro x vs F1 H1 q1 A1 V1 r1
  show spRN c s c' g (.ref p :: (vs ++ [])) H1 _ _
  rw [List.append_nil]
  obtain ⟨f1, B1⟩ := V1.cAt hi
  have hp : p ∈ owns G := mem_owns hi List.mem_cons_self
  refine ⟨p, vs, y, x, F1, k, rfl, f1, B1, V1.fh, r1, q1, fun z q u F2 H2 q2 A2 B2 n1 n2 n3 n4 => w z q u F2 H2 q2 (A1.trans (A2.mono fun q hq => by rw [List.mem_singleton.mp hq]; exact hp)) ?_ ?_ n2 n3 n4⟩
  · have := V1.cNew hi A2 B2
    rw [set_self hi] at this; exact this
  · cases e : H q with
    | none => rfl
    | some z => exact absurd n1 (A1.kp q (by rw [e]; exact fun z => nomatch z))
/-! ### records that are own: reading, changing -/
theorem e_recO {s : RK α} {n : Str} {r : R β} {g : α → β} {i : Nat} {p : Addr} {a : α} (hi : G[i]? = some (own p (cRec s) a)) (hn : RkAt s n r g) : E b G (tDGet (tVar i) (tC (.str n))) r (fun k => k (g a)) := fun _ _ _ _ k V q w => by
  obtain ⟨o, h1, rfl, u, h2, kvs, rfl, h3⟩ := V.hold.at_ hi
  obtain ⟨u, g1, g2⟩ := hn a kvs _ h3
  exact ⟨.ref p, h1, p, u, rfl, by rw [← g1]; exact DGet.k (k := Sum.inr n) h2, w _ u _ _ q (.refl V.fh _) V g2⟩
def putR (n : Str) (v : V) (kvs : List (Key × V)) : List (Key × V) := kvs.map fun kv => if kv.1 = (Sum.inr n : Key) then (kv.1, v) else kv
def RUp (s : RK α) (n : Str) (r : R γ) (up : α → γ → α) : Prop := n ∈ s.ks ∧ ∀ a x kvs v F, s.h a kvs F → r.h x v F → s.h (up a x) (putR n v kvs) F
theorem putR_hd {n : Str} {v w : V} {ws : List (Key × V)} : putR n v ((.inr n, w) :: ws) = (.inr n, v) :: putR n v ws := by
  unfold putR; rw [List.map_cons, if_pos rfl]
theorem putR_tl {n m : Str} {v w : V} {ws : List (Key × V)} (ne : (m == n) = false) : putR m v ((.inr n, w) :: ws) = (.inr n, w) :: putR m v ws := by
  unfold putR; rw [List.map_cons, if_neg]
  intro z
  have z : (Sum.inr n : Key) = Sum.inr m := z
  rw [Sum.inr.inj z, beq_self_eq_true] at ne; cases ne
theorem putR_no {n : Str} {v : V} {ks : List Str} {ws : List (Key × V)} (h : ws.map (·.1) = ks.map Sum.inr) (hn : n ∉ ks) : putR n v ws = ws := by
  have : ∀ kv ∈ ws, (if kv.1 = (Sum.inr n : Key) then (kv.1, v) else kv) = kv := fun kv hkv => by
    rw [if_neg]
    intro z
    have : kv.1 ∈ ws.map (·.1) := List.mem_map_of_mem hkv
    rw [h, z] at this
    obtain ⟨m, hm, e⟩ := List.mem_map.mp this
    rw [← Sum.inr.inj e] at hn
    exact hn hm
  unfold putR
  rw [List.map_congr_left this, List.map_id']
theorem ru_one {n : Str} {r : R α} : RUp (kOne n r) n r (fun _ x => x) := ⟨List.mem_cons_self, fun a x kvs v F ⟨w, e, h⟩ hr => ⟨v, by rw [e, putR_hd]; rfl, hr⟩⟩
theorem ru_hd {n : Str} {r : R α} {s : RK β} (hn : n ∉ s.ks) : RUp (kCons n r s) n r (fun a x => (x, a.2)) := ⟨List.mem_cons_self, fun a x kvs v F ⟨w, ws, e, h, h2⟩ hr => ⟨v, ws, by rw [e, putR_hd, putR_no (s.kk h2) hn], hr, h2⟩⟩
theorem ru_tl {n m : Str} {r : R α} {s : RK β} {rr : R γ} {up : β → γ → β} (ne : (m == n) = false) (h : RUp s m rr up) : RUp (kCons n r s) m rr (fun a x => (a.1, up a.2 x)) := ⟨List.mem_cons_of_mem _ h.1, fun a x kvs v F ⟨w, ws, e, h1, h2⟩ hr => ⟨w, putR m v ws, by rw [e, putR_tl ne], h1, h.2 _ _ _ _ _ h2 hr⟩⟩
/-- d[..] = e, a written key that is there -/
theorem s_rputU {i : Nat} {p : Addr} {tv : TE} {s : RK α} {n : Str} {r : R γ} {up : α → γ → α} {a : α} {f : (γ → Prop) → Prop} (S1 : RUp s n r up) (hl : s.ks.length < 900) (hi : G[i]? = some (own p (cRec s) a)) (hv : E b G tv r f) :
    S b G (sDPut (tVar i) (tC (.str n)) tv) (fun y : γ => G.set i (own p (cRec s) (up a y))) Gl ro (fun d => f d.nx) := fun σ F H D d V q w1 _ _ _ => by
  refine hv _ V q ?_
  intro x v F1 H1 q1 A1 V1 r1
  obtain ⟨o, h1, rfl, u, h2, kvs, rfl, h3⟩ := V1.hold.at_ hi
  refine ⟨.ref p, h1, p, _, rfl, DPut.k (k := Sum.inr n) h2 ?_, w1 x _ F1 _ q1 A1.ff (V1.cellT hi ⟨_, rfl, ?_⟩)⟩
  · have := congrArg List.length (s.kk h3)
    rw [List.length_map, List.length_map] at this
    exact Nat.lt_of_lt_of_le (show kvs.length < 900 by omega) (by decide)
  · unfold putK
    rw [if_pos]
    · exact S1.2 _ _ _ _ _ h3 r1
    · have hm : (Sum.inr n : Key) ∈ kvs.map (·.1) := by rw [s.kk h3]; exact List.mem_map_of_mem S1.1
      obtain ⟨y, hy, e⟩ := List.mem_map.mp hm
      exact List.any_eq_true.mpr ⟨y, hy, decide_eq_true e⟩
/-! ### defs with several own things among their parameters -/
structure PO (π γ α : Type) where
  n : Nat
  ad : π → List Addr
  sl : π → γ → α → List Sl
  hv : π → α → List V → Hp → Prop
  o : π → γ → Hp → Hp → Prop
  ln : ∀ {p a vs F}, hv p a vs F → vs.length = n
  ow : ∀ {p y a}, owns (sl p y a) = ad p
  hs : ∀ {p y a vs F H}, hv p a vs F → o p y F H → Paired (fun s o => Sl.h s o F H) (sl p y a) (vs.map some)
  lv : ∀ {p y F H}, o p y F H → ∀ q ∈ ad p, H q ≠ none
def oNil : PO Unit Unit Unit := ⟨0, fun _ => [], fun _ _ _ => [], fun _ _ vs _ => vs = [], fun _ _ _ _ => True, fun h => by rw [h]; rfl, rfl, fun h _ => by rw [h]; exact .nil, fun _ _ h => nomatch h⟩
def oVal (r : R β) (s : PO π γ α) : PO π γ (β × α) := ⟨s.n + 1, s.ad, fun p y a => val r a.1 :: s.sl p y a.2, fun p a vs F => ∃ v ws, vs = v :: ws ∧ r.h a.1 v F ∧ s.hv p a.2 ws F, s.o,
  fun ⟨v, ws, e, _, h⟩ => by rw [e, List.length_cons, s.ln h], s.ow, fun ⟨v, ws, e, h1, h2⟩ ho => by rw [e]; exact .cons ⟨v, rfl, h1⟩ (s.hs h2 ho), s.lv⟩
def oOwn (c : C δ) (s : PO π γ α) : PO (Addr × π) (δ × γ) α := ⟨s.n + 1, fun p => p.1 :: s.ad p.2, fun p y a => own p.1 c y.1 :: s.sl p.2 y.2 a, fun p a vs F => ∃ ws, vs = .ref p.1 :: ws ∧ s.hv p.2 a ws F, fun p y F H => CAt c y.1 F H p.1 ∧ s.o p.2 y.2 F H,
  fun ⟨ws, e, h⟩ => by rw [e, List.length_cons, s.ln h], fun {p y a} => by show [p.1] ++ owns _ = _; rw [s.ow]; rfl, fun ⟨ws, e, h2⟩ ho => by rw [e]; exact .cons (show _ ∧ _ from ⟨rfl, ho.1⟩) (s.hs h2 ho.2), fun ho q hq => by
    rcases List.mem_cons.mp hq with e | e
    · obtain ⟨u, hu, _⟩ := ho.1
      rw [e, hu]; exact fun z => nomatch z
    · exact s.lv ho.2 q e⟩
def spM (s : PO π γ α) (r : R β) (x : Xp ε) (g : γ → α → (β × γ → Prop) → (ε → Prop) → Prop) : Sp := fun vs H Q E => ∃ (p : π) (y : γ) (a : α) (F : Hp) (k : β × γ → Prop) (kx : ε → Prop), (s.ad p).Nodup ∧ (∀ q ∈ s.ad p, F q = none) ∧ s.hv p a vs F ∧ s.o p y F H ∧ Ex F H ∧ g y a k kx ∧
  (∀ z y' v F' H', k (z, y') → After F H (s.ad p) F' H' → (∀ q ∈ s.ad p, F' q = none) → s.o p y' F' H' → r.h z v F' → Q v H') ∧ (∀ e cls d F' H', kx e → After F H (s.ad p) F' H' → (∀ q ∈ s.ad p, F' q = none) → s.o p y F' H' → x.h e cls d F' → E cls d H')
theorem spM_len {s : PO π γ α} {r : R β} {x : Xp ε} {g : γ → α → (β × γ → Prop) → (ε → Prop) → Prop} {vs : List V} {Q : VK} {Ek : XK} (h : spM s r x g vs H Q Ek) : vs.length = s.n := by
  obtain ⟨p, y, a, F, k, kx, _, _, hv, _⟩ := h; exact s.ln hv
/-- the own parameters, in an environment -/
def OO (b : Bs) (G : List Sl) (s : PO π γ α) (p : π) (y : γ) : Prop := ∀ σ F H, Env b G σ F H → (∀ q ∈ s.ad p, F q = none) ∧ s.o p y F H
theorem oo_nil : OO b G oNil () () := fun _ _ _ _ => ⟨(fun _ h => nomatch h), trivial⟩
theorem oo_val {s : PO π γ α} {r : R β} {p : π} {y : γ} (h : OO b G s p y) : OO b G (oVal r s) p y := h
theorem oo_own {s : PO π γ α} {c : C δ} {p : π} {q : Addr} {y : γ} {z : δ} {i : Nat} (hi : G[i]? = some (own q c z)) (h : OO b G s p y) : OO b G (oOwn c s) (q, p) (z, y) := fun σ F H V => by
  obtain ⟨h1, h2⟩ := h σ F H V
  obtain ⟨f1, B1⟩ := V.cAt hi
  refine ⟨fun a ha => ?_, B1, h2⟩
  rcases List.mem_cons.mp ha with e | e
  · rw [e]; exact f1
  · exact h1 a e
def RM (s : PO π γ α) (r : R β) (p : π) (z : β × γ) (v : V) (F H : Hp) : Prop := (∀ q ∈ s.ad p, F q = none) ∧ s.o p z.2 F H ∧ r.h z.1 v F
theorem run_M {s : PO π γ α} {r : R β} {x : Xp ε} {g : γ → α → (β × γ → Prop) → (ε → Prop) → Prop} {N : List Str} {m : Nat} {t : TS} {vs : List V} {Q : VK} {Ek : XK} {Gn : Bs → π → γ → α → τ → List Sl} {f : γ → α → (ε → Prop) → Pd τ Unit (β × γ) → Prop} (h : spM s r x g vs H Q Ek) (hN : N.length = s.n + m)
    (hS : ∀ b p y a kx, b.M = s.ad p → Out b (fun G => OO b G s p y) x kx (fun cls d _ H => Ek cls d H) → S b (s.sl p y a ++ List.replicate m any) t (Gn b p y a) (fun _ : Unit => []) (fun z v F H => RM s r p z v F H) (f y a kx)) (hg : ∀ y a k kx, g y a k kx → f y a kx ⟨fun _ => False, fun _ => False, fun _ => False, k⟩) :
    t { nx := fun _ H' => Q .non H', rt := Q } (L2.start N vs) H := by
  obtain ⟨p, y, a, F, k, kx, nd, fp, hv, ho, e, q, w, wx⟩ := h
  have hl := s.ln hv
  refine S.go (hS ⟨F, H, s.ad p, s.lv ho⟩ p y a kx rfl (fun G e cls d σ F' H' hG q' V' hx => wx e cls d F' H' q' V'.after (hG _ _ _ V').1 (hG _ _ _ V').2 hx)) (L2.start N vs) F H _ ⟨fun _ => False, fun _ => False, fun _ => False, k⟩ ?_ (hg y a k kx q) (fun _ _ _ _ h => h.elim) (fun _ _ _ _ h => h.elim) (fun _ _ _ _ h => h.elim) (fun z v F' H' hk A hr => w z.1 z.2 v F' H' hk A hr.1 hr.2.1 hr.2.2)
  have ow : owns (s.sl p y a ++ List.replicate m any) = s.ad p := by rw [owns_app, s.ow, owns_any, List.append_nil]
  refine ⟨Ex.refl _, e, fun _ _ _ h => h, fun _ h => h, fun _ h _ => h, ?_, by rw [ow]; exact nd, fun q hq => ?_⟩
  · unfold L2.start
    have : N.length - vs.length = m := by omega
    rw [this]
    exact paired_app' (s.hs hv ho) holds_any
  · rw [ow] at hq
    exact ⟨fp q hq, .inl hq⟩
theorem s_retM2 {te : TE} {r : R β} {s : PO π γ α} {p : π} {y : γ} {f : (β → Prop) → Prop} (ho : OO b G s p y) (h : E b G te r f) : S b G (tRet te) Gn Gl (fun z v F H => RM s r p z v F H) (fun d => f fun a => d.rt (a, y)) :=
  s_ret (g := fun a => (a, y)) h fun a v σ F H V hr => ⟨(ho σ F H V).1, (ho σ F H V).2, hr⟩
theorem s_retMN {s : PO π γ α} {p : π} {y : γ} (ho : OO b G s p y) : S b G tRetN Gn Gl (fun z v F H => RM s rNon p z v F H) (fun d => d.rt ((), y)) := fun σ F H D d V q _ _ _ w4 => w4 ((), y) .non F H q V.after ⟨(ho _ _ _ V).1, (ho _ _ _ V).2, rfl⟩
theorem s_retMM {te : TE} {r : R α} {Gm : τ' → List Sl} {g : α → τ' → ρ} {f : (α × τ' → Prop) → Prop} (h : EM b G te r Gm f) (hro : ∀ a x v σ F H, Env b (Gm x) σ F H → r.h a v F → ro (g a x) v F H) : S b G (tRet te) Gn Gl ro (fun d => f fun p => d.rt (g p.1 p.2)) := fun _ _ _ _ d V q _ _ _ w4 =>
  h _ V q fun a x v F' H' q' e V' hr => w4 (g a x) v F' H' q' V'.after (hro a x v _ F' H' V' hr)
/-- return of a reading that changes own things -/
theorem s_retM3 {te : TE} {r : R β} {s : PO π γ α} {p : π} {Gm : τ' → List Sl} {up : τ' → γ} {f : (β × τ' → Prop) → Prop} (h : EM b G te r Gm f) (ho : ∀ x, OO b (Gm x) s p (up x)) : S b G (tRet te) Gn Gl (fun z v F H => RM s r p z v F H) (fun d => f fun q => d.rt (q.1, up q.2)) :=
  s_retMM (ro := fun z v F H => RM s r p z v F H) (g := fun a x => (a, up x)) h fun a x v σ F H V hr => ⟨(ho x σ F H V).1, (ho x σ F H V).2, hr⟩
/-- .. in a def that changes its first thing -/
theorem s_retC3 {te : TE} {r : R β} {c : C γ} {p : Addr} {Gm : τ' → List Sl} {up : τ' → γ} {i : Nat} {f : (β × τ' → Prop) → Prop} (h : EM b G te r Gm f) (ho : ∀ x, (Gm x)[i]? = some (own p c (up x))) : S b G (tRet te) Gn Gl (fun z v F H => RC c r p z v F H) (fun d => f fun q => d.rt (q.1, up q.2)) :=
  s_retMM (ro := fun z v F H => RC c r p z v F H) (g := fun a x => (a, up x)) h fun a x v σ F H V hr => ⟨(V.cAt (ho x)).1, (V.cAt (ho x)).2, hr⟩
/-- arguments, some of them own -/
def AO (b : Bs) (G : List Sl) (ta : TA) (s : PO π γ α) (p : π) (f : (α → Prop) → Prop) : Prop := ∀ ⦃σ : L2.St⦄ ⦃F H : Hp⦄ ⦃Q : List V → Hp → Prop⦄ (k : α → Prop), Env b G σ F H → f k →
  (∀ a vs F' H', k a → After F H (owns G) F' H' → Env b G σ F' H' → s.hv p a vs F' → Q vs H') → ta σ H Q
theorem ao_nil : AO b G tNil oNil () (fun k => k ()) := fun _ _ _ _ k V q w => w () [] _ _ q (.refl V.fh _) V rfl
theorem ao_val {te : TE} {ta : TA} {r : R β} {s : PO π γ α} {p : π} {f : (β → Prop) → Prop} {g : (α → Prop) → Prop} (h : E b G te r f) (t : AO b G ta s p g) : AO b G (tCons te ta) (oVal r s) p (fun k => f fun x => g fun a => k (x, a)) := fun _ _ _ _ k V q w =>
  h _ V q fun x v F1 H1 q1 A1 V1 r1 => t _ V1 q1 fun a vs F2 H2 q2 A2 V2 r2 => w (x, a) (v :: vs) F2 H2 q2 (A1.trans A2) V2 ⟨v, vs, rfl, r.ex A2.ff r1, r2⟩
theorem ao_own {ta : TA} {c : C δ} {s : PO π γ α} {p : π} {q : Addr} {y : δ} {i : Nat} {g : (α → Prop) → Prop} (hi : G[i]? = some (own q c y)) (t : AO b G ta s p g) : AO b G (tCons (tVar i) ta) (oOwn c s) (q, p) g := fun _ _ _ _ k V h w => by
  obtain ⟨o, h1, rfl, _⟩ := V.hold.at_ hi
  refine ⟨.ref q, h1, ?_⟩
  exact t _ V h fun a vs F2 H2 q2 A2 V2 r2 => w a (.ref q :: vs) F2 H2 q2 A2 V2 ⟨vs, rfl, r2⟩
/-- the own parameters changed -/
def OU (b : Bs) (G : List Sl) (s : PO π γ α) (p : π) (up : γ → List Sl) : Prop := (∀ σ F H, Env b G σ F H → (s.ad p).Nodup) ∧ ∀ σ F H F' H' y', Env b G σ F H → After F H (s.ad p) F' H' → s.o p y' F' H' → Env b (up y') σ F' H'
theorem Env.cNew2 {c1 : C δ} {c2 : C δ'} {y1 y1' : δ} {y2 y2' : δ'} {i j : Nat} {p1 p2 : Addr} (V : Env b G σ F H) (hi : G[i]? = some (own p1 c1 y1)) (hj : G[j]? = some (own p2 c2 y2)) (ij : i ≠ j) (A : After F H [p1, p2] F' H') (B1 : CAt c1 y1' F' H' p1) (B2 : CAt c2 y2' F' H' p2) : Env b ((G.set i (own p1 c1 y1')).set j (own p2 c2 y2')) σ F' H' := by
  obtain ⟨o1, h1, rfl, _⟩ := V.hold.at_ hi
  obtain ⟨o2, h2, rfl, u2, g1, g2⟩ := V.hold.at_ hj
  have m1 : p1 ∈ owns G := mem_owns hi List.mem_cons_self
  have m2 : p2 ∈ owns G := mem_owns hj List.mem_cons_self
  have ne : p1 ≠ p2 := fun z => owns_disj hi hj ij V.nd List.mem_cons_self (by rw [z]; exact List.mem_cons_self)
  have e1 : owns (G.set i (own p1 c1 y1')) = owns G := owns_same hi rfl
  have hj' : (G.set i (own p1 c1 y1'))[j]? = some (own p2 c2 y2) := by rw [List.getElem?_set_ne ij]; exact hj
  have e2 : owns ((G.set i (own p1 c1 y1')).set j (own p2 c2 y2')) = owns G := Eq.trans (owns_same (t := own p2 c2 y2') hj' rfl) e1
  obtain ⟨w1, k1, k2⟩ := B1
  obtain ⟨w2, k3, k4⟩ := B2
  let H1 : Hp := fun a => if a = p2 then H p2 else H' a
  have s1 : Holds (G.set i (own p1 c1 y1')) σ F' H1 := by
    refine V.hold.mut V.nd hi h1 List.mem_cons_self A.ff (fun q u nq hq => ?_) (show _ ∧ _ from ⟨rfl, w1, ?_, k2⟩)
    · show (if q = p2 then _ else _) = _
      by_cases z : q = p2
      · rw [if_pos z, ← z]; exact hq
      · rw [if_neg z]; exact A.hh q u (by simp [nq, z]) hq
    · show (if p1 = p2 then _ else _) = _
      rw [if_neg ne]; exact k1
  have s2 : Holds ((G.set i (own p1 c1 y1')).set j (own p2 c2 y2')) σ F' H' := by
    refine s1.mut (by rw [e1]; exact V.nd) hj' h2 List.mem_cons_self (Ex.refl _) (fun q u nq hq => ?_) (show _ ∧ _ from ⟨rfl, w2, k3, k4⟩)
    have hq : (if q = p2 then H p2 else H' q) = some u := hq
    rw [if_neg nq] at hq; exact hq
  exact V.step0 A (fun q hq => by
    rcases List.mem_cons.mp hq with z | z
    · rw [z]; exact m1
    · rw [List.mem_singleton.mp z]; exact m2) (fun q hq => by rw [← e2]; exact hq) (by rw [e2]; exact V.nd) s2
theorem ou_1 {c1 : C δ} {y1 : δ} {s : PO π (δ × Unit) α} {p : π} {i : Nat} {p1 : Addr} (hi : G[i]? = some (own p1 c1 y1)) (had : s.ad p = [p1]) (ho : ∀ y F H, s.o p y F H → CAt c1 y.1 F H p1) :
    OU b G s p (fun y => G.set i (own p1 c1 y.1)) := ⟨fun _ _ _ _ => by rw [had]; simp, fun σ F H F' H' y' V A o => V.cNew hi (by rw [← had]; exact A) (ho _ _ _ o)⟩
theorem ou_2 {c1 : C δ} {c2 : C δ'} {y1 : δ} {y2 : δ'} {s : PO π (δ × δ' × Unit) α} {p : π} {i j : Nat} {p1 p2 : Addr} (hi : G[i]? = some (own p1 c1 y1)) (hj : G[j]? = some (own p2 c2 y2)) (ij : i ≠ j) (had : s.ad p = [p1, p2]) (ho : ∀ y F H, s.o p y F H → CAt c1 y.1 F H p1 ∧ CAt c2 y.2.1 F H p2) :
    OU b G s p (fun y => (G.set i (own p1 c1 y.1)).set j (own p2 c2 y.2.1)) := ⟨fun _ _ _ V => by
      rw [had]
      have ne : p1 ≠ p2 := fun z => owns_disj hi hj ij V.nd List.mem_cons_self (by rw [z]; exact List.mem_cons_self)
      simp [ne], fun σ F H F' H' y' V A o => V.cNew2 hi hj ij (by rw [← had]; exact A) (ho _ _ _ o).1 (ho _ _ _ o).2⟩
/-- f(.., o, ..), own things among the arguments changed; where no error may come -/
theorem em_callM0 {s : PO π γ α} {r : R β} {x' : Xp ε'} {g : γ → α → (β × γ → Prop) → (ε' → Prop) → Prop} {Ek : XK} {ta : TA} {p : π} {y : γ} {up : γ → List Sl} {f : (α → Prop) → Prop} (O : OO b G s p y) (U : OU b G s p up) (h : AO b G ta s p f) :
    EM b G (tCall (spM s r x' g) [] Ek ta) r up (fun k => f fun a => g y a k fun _ => False) := fun σ F H Q k V q w => by
  refine h _ V q ?_
  intro a vs F1 H1 q1 A1 V1 r1
  show spM s r x' g (vs ++ []) H1 _ _
  rw [List.append_nil]
  obtain ⟨o1, o2⟩ := O _ _ _ V1
  exact ⟨p, y, a, F1, k, fun _ => False, U.1 _ _ _ V1, o1, r1, o2, V1.fh, q1, fun z y' v F2 H2 q2 A2 f2 B2 r2 => w z y' v F2 H2 q2 (A1.ff.trans A2.ff) (U.2 _ _ _ _ _ _ V1 A2 B2) r2, fun _ _ _ _ _ h => h.elim⟩
/-- .. errors go where O says -/
theorem em_callM {s : PO π γ α} {r : R β} {x' : Xp ε'} {gx : List Sl → Prop} {x : Xp ε} {kx : ε → Prop} {W : WX} {j : ε' → ε} {g : γ → α → (β × γ → Prop) → (ε' → Prop) → Prop} {ta : TA} {p : π} {y : γ} {up : γ → List Sl} {f : (α → Prop) → Prop} (Ou : Out b gx x kx W) (hgx : gx G) (hj : XSub x' x j) (O : OO b G s p y) (U : OU b G s p up) (hy : up y = G) (h : AO b G ta s p f) :
    EM b G (tCallS (spM s r x' g) (WE W) ta) r up (fun k => f fun a => g y a k fun e => kx (j e)) := fun σ F H Q k V q w => by
  refine h _ V q ?_
  intro a vs F1 H1 q1 A1 V1 r1
  obtain ⟨o1, o2⟩ := O _ _ _ V1
  exact ⟨p, y, a, F1, k, fun e => kx (j e), U.1 _ _ _ V1, o1, r1, o2, V1.fh, q1, fun z y' v F2 H2 q2 A2 f2 B2 r2 => w z y' v F2 H2 q2 (A1.ff.trans A2.ff) (U.2 _ _ _ _ _ _ V1 A2 B2) r2,
    fun e cls d F2 H2 q2 A2 f2 B2 hx => Ou hgx q2 (by have := U.2 _ _ _ _ _ _ V1 A2 B2; rw [hy] at this; exact this) (hj _ _ _ _ hx)⟩
end
end Mi
/-! Mir23 -/
set_option Elab.async false
set_option linter.all false
set_option maxRecDepth 100000
set_option maxHeartbeats 4000000
/-! readings that change own things, brought to one form; numbers that may be truths; an int that may be None compared -/
namespace Mi
open PySem PySem.Spec L2 Dh
open _root_.Evl (Ex)
section
variable {K : PySem.W.Frag} {b : Bs} {G Gx : List Sl} {α β γ γ' δ τ τ' ρ ε θ : Type} {Gn : τ → List Sl} {Gl : θ → List Sl} {ro : ρ → V → Hp → Hp → Prop} {σ : L2.St} {F H F' H' : Hp}
variable {Gm : τ → List Sl} {Gz : τ' → List Sl}
theorem tm_wk {t : TT} {up : τ → τ'} {f : (Bool × τ → Prop) → Prop} (h : TM b G t Gm f) (hs : ∀ x, Sub (Gm x) (Gz (up x))) : TM b G t Gz (fun k => f fun p => k (p.1, up p.2)) := fun _ _ _ _ k V q w => h _ V q fun a x F' H' q' e V' => w a _ F' H' q' e (V'.sub (hs x))
theorem tm_tz {tt : TT} {f : (Bool → Prop) → Prop} (z : τ') (h : Tt b (Gz z) tt f) : TM b (Gz z) tt Gz (fun k => f fun a => k (a, z)) := fun _ _ _ _ k V q w => h _ V q fun a F1 H1 q1 A1 V1 => w a z F1 H1 q1 A1.ff V1
theorem em_wk {t : TE} {r : R α} {up : τ → τ'} {f : (α × τ → Prop) → Prop} (h : EM b G t r Gm f) (hs : ∀ x, Sub (Gm x) (Gz (up x))) : EM b G t r Gz (fun k => f fun p => k (p.1, up p.2)) := fun _ _ _ _ k V q w => h _ V q fun a x v F' H' q' e V' r' => w a _ v F' H' q' e (V'.sub (hs x)) r'
theorem em_ez {t : TE} {r : R α} {f : (α → Prop) → Prop} (z : τ') (h : E b (Gz z) t r f) : EM b (Gz z) t r Gz (fun k => f fun a => k (a, z)) := fun _ _ _ _ k V q w => h _ V q fun a v F1 H1 q1 A1 V1 r1 => w a z v F1 H1 q1 A1.ff V1 r1
theorem em_andV {ta tb : TE} {f : (Bool × τ' → Prop) → Prop} {g : τ' → (Bool × τ' → Prop) → Prop} (h : EM b G ta rBl Gz f) (h2 : ∀ x, EM b (Gz x) tb rBl Gz (g x)) :
    EM b G (tAndV ta tb) rBl Gz (fun k => f fun p => (p.1 = true → g p.2 k) ∧ (p.1 = false → k (false, p.2))) := fun _ _ _ _ k V q w => h _ V q fun a x v F1 H1 q1 e1 V1 r1 => by
  refine ⟨a, r1, ?_⟩
  cases a with
  | true => exact iteT (h2 x k V1 (q1.1 rfl) fun c y u F2 H2 q2 e2 V2 => w c y u F2 H2 q2 (e1.trans e2) V2)
  | false => exact iteF (w false x _ F1 H1 (q1.2 rfl) e1 V1 rfl)
theorem em_orV {ta tb : TE} {f : (Bool × τ' → Prop) → Prop} {g : τ' → (Bool × τ' → Prop) → Prop} (h : EM b G ta rBl Gz f) (h2 : ∀ x, EM b (Gz x) tb rBl Gz (g x)) :
    EM b G (tOrV ta tb) rBl Gz (fun k => f fun p => (p.1 = true → k (true, p.2)) ∧ (p.1 = false → g p.2 k)) := fun _ _ _ _ k V q w => h _ V q fun a x v F1 H1 q1 e1 V1 r1 => by
  refine ⟨a, r1, ?_⟩
  cases a with
  | true => exact iteT (w true x _ F1 H1 (q1.1 rfl) e1 V1 rfl)
  | false => exact iteF (h2 x k V1 (q1.2 rfl) fun c y u F2 H2 q2 e2 V2 => w c y u F2 H2 q2 (e1.trans e2) V2)
theorem tm_orZ {t u : TT} {f : (Bool × τ' → Prop) → Prop} {g : τ' → (Bool × τ' → Prop) → Prop} (h : TM b G t Gz f) (h2 : ∀ x, TM b (Gz x) u Gz (g x)) :
    TM b G (tOr t u) Gz (fun k => f fun p => (p.1 = true → k (true, p.2)) ∧ (p.1 = false → g p.2 k)) := tm_or (up := fun x => x) h h2 fun x => Sub.refl _
theorem tm_andZ {t u : TT} {f : (Bool × τ' → Prop) → Prop} {g : τ' → (Bool × τ' → Prop) → Prop} (h : TM b G t Gz f) (h2 : ∀ x, TM b (Gz x) u Gz (g x)) :
    TM b G (tAnd t u) Gz (fun k => f fun p => (p.1 = true → g p.2 k) ∧ (p.1 = false → k (false, p.2))) := tm_and (up := fun x => x) h h2 fun x => Sub.refl _
/-! ### an int or None, compared with an int -/
theorem o_neOI : Op2 rNe (rOpt rInt) rInt rBl (fun x y k => k (!decide (x = some y))) := fun x y v w F H Q k h1 h2 e q w' => by
  cases h2
  cases x with
  | none =>
    cases h1
    refine ⟨rfl, ?_⟩
    have e1 : decide (V.non = V.int y) = false := decide_eq_false (fun z => by cases z)
    rw [e1]
    exact w' _ _ _ _ q (After.refl e _) (by show V.bl _ = V.bl _; rw [decide_eq_false (fun z => by cases z)])
  | some i =>
    obtain ⟨h1, _⟩ := h1
    cases h1
    refine i_neI (w' _ _ _ _ q (After.refl e _) ?_)
    show V.bl _ = V.bl _
    congr 2
    simp
theorem o_eqOI : Op2 rEq (rOpt rInt) rInt rBl (fun x y k => k (decide (x = some y))) := fun x y v w F H Q k h1 h2 e q w' => by
  cases h2
  cases x with
  | none =>
    cases h1
    refine ⟨rfl, ?_⟩
    have e1 : decide (V.non = V.int y) = false := decide_eq_false (fun z => by cases z)
    rw [e1]
    exact w' _ _ _ _ q (After.refl e _) (by show V.bl _ = V.bl _; rw [decide_eq_false (fun z => by cases z)])
  | some i =>
    obtain ⟨h1, _⟩ := h1
    cases h1
    refine i_eqI (w' _ _ _ _ q (After.refl e _) ?_)
    show V.bl _ = V.bl _
    congr 1
    simp
theorem o_eqBl : Op2 rEq rBl rBl rBl (fun x y k => k (decide (x = y))) := fun x y v w F H Q k h1 h2 e q w' => by
  cases h1; cases h2
  refine ⟨rfl, w' _ _ _ _ q (After.refl e _) ?_⟩
  show V.bl _ = V.bl _
  cases x <;> cases y <;> rfl
theorem o_neBl : Op2 rNe rBl rBl rBl (fun x y k => k (!decide (x = y))) := fun x y v w F H Q k h1 h2 e q w' => by
  cases h1; cases h2
  refine ⟨rfl, w' _ _ _ _ q (After.refl e _) ?_⟩
  show V.bl _ = V.bl _
  cases x <;> cases y <;> rfl
/-! ### numbers that may be True or False -/
def rIB : R (Int ⊕ Bool) := ⟨fun a v _ => v = Sum.elim V.int V.bl a, fun _ h => h⟩
theorem e_ibI {te : TE} {f : (Int → Prop) → Prop} (h : E b G te rInt f) : E b G te rIB (fun k => f fun n => k (.inl n)) := e_cast (r' := rIB) (g := Sum.inl) (fun _ _ _ h => h) h
theorem e_ibB {te : TE} {f : (Bool → Prop) → Prop} (h : E b G te rBl f) : E b G te rIB (fun k => f fun n => k (.inr n)) := e_cast (r' := rIB) (g := Sum.inr) (fun _ _ _ h => h) h
theorem e_ibGet {te : TE} {f : ((Int ⊕ Bool) → Prop) → Prop} (h : E b G te rIB f) : E b G te rInt (fun k => f fun a => ∃ n, a = .inl n ∧ k n) := fun σ F H Q k V q w => h _ V q fun a v F' H' ⟨n, e, q'⟩ A V' hr => by
  subst e
  exact w n v F' H' q' A V' hr
theorem e_ibGetB {te : TE} {f : ((Int ⊕ Bool) → Prop) → Prop} (h : E b G te rIB f) : E b G te rBl (fun k => f fun a => ∃ n, a = .inr n ∧ k n) := fun σ F H Q k V q w => h _ V q fun a v F' H' ⟨n, e, q'⟩ A V' hr => by
  subst e
  exact w n v F' H' q' A V' hr
theorem all_inl {F : Hp} : ∀ {n : List Int} {vs : List V}, All rIB F (n.map Sum.inl) vs → All rInt F n vs
  | [], _, h => by cases h; exact .nil
  | x :: n, _, h => by
    cases h with
    | cons r t => exact .cons r (all_inl t)
theorem e_ibGetL {te : TE} {f : (List (Int ⊕ Bool) → Prop) → Prop} (h : E b G te (rLst rIB) f) : E b G te (rLst rInt) (fun k => f fun a => ∃ n, a = List.map Sum.inl n ∧ k n) := fun σ F H Q k V q w => h _ V q fun a v F' H' ⟨n, e, q'⟩ A V' hr => by
  subst e
  refine w n v F' H' q' A V' ?_
  obtain ⟨p, vs, e1, e2, e3⟩ := hr
  exact ⟨p, vs, e1, e2, all_inl e3⟩
theorem t_truB {te : TE} {f : (Bool → Prop) → Prop} (h : E b G te rBl f) : Tt b G (tTru K te) f := fun _ _ _ _ k V q w => by
  refine h _ V q ?_
  intro a v F1 H1 q1 A1 V1 r1
  cases r1
  exact ⟨a, rfl, w a F1 H1 q1 A1 V1⟩
/-- steps: ("hold",), ("book", 3) -/
def rSt (K : PySem.W.Frag) : R (Str × Option Int) := ⟨fun t v F => match t.2 with
  | none => (rTp K (rOne rStr)).h t.1 v F
  | some n => (rTp K (rCons rStr (rOne rInt))).h (t.1, n) v F, fun {t _ _ _} e h => by
    obtain ⟨s, o⟩ := t
    cases o with
    | none => exact (rTp K (rOne rStr)).ex e h
    | some n => exact (rTp K (rCons rStr (rOne rInt))).ex e h⟩
theorem e_st1 {te : TE} {f : (Str → Prop) → Prop} (h : E b G te rStr f) : E b G (tTup (tCons te tNil)) (rSt K) (fun k => f fun s => k (s, none)) :=
  e_cast (r := rTp K (rOne rStr)) (g := fun x => (x, none)) (fun a v F h => h) (e_tup (ar_one h) (Nat.le_of_ble_eq_true rfl))
theorem e_st2 {te ta : TE} {f : (Str → Prop) → Prop} {g : (Int → Prop) → Prop} (h : E b G te rStr f) (h2 : E b G ta rInt g) : E b G (tTup (tCons te (tCons ta tNil))) (rSt K) (fun k => f fun s => g fun n => k (s, some n)) :=
  e_cast (r := rTp K (rCons rStr (rOne rInt))) (g := fun x => (x.1, some x.2)) (fun a v F h => h) (e_tup (ar_cons h (ar_one h2)) (Nat.le_of_ble_eq_true rfl))
theorem st_sq {t : Str × Option Int} {v : V} {F : Hp} (h : (rSt K).h t v F) : ∃ p, v = .ref p ∧ SqT K F p (V.str t.1 :: (match t.2 with | none => [] | some n => [V.int n])) := by
  obtain ⟨s, o⟩ := t
  cases o with
  | none =>
    obtain ⟨p, vs, e, h1, v, e2, e3⟩ := h
    cases e3; subst e2
    exact ⟨p, e, h1⟩
  | some n =>
    obtain ⟨p, vs, e, h1, v, ws, e2, e3, v2, e4, h2⟩ := h
    cases e3; subst e4; subst e2; cases h2
    exact ⟨p, e, h1⟩
theorem e_stW {te : TE} {f : (Str × Option Int → Prop) → Prop} (h : E b G te (rSt K) f) : E b G (tOp (rIxT K) te (tC (.int 0))) rStr (fun k => f fun t => k t.1) := fun _ _ _ _ k V q w => by
  refine h _ V q ?_
  intro t v F' H' q' A V' r
  obtain ⟨p, rfl, hp⟩ := st_sq r
  exact ⟨p, _, _, _, rfl, rfl, _root_.Evl.ex_t V'.fh hp, atI_nat (j := 0) rfl, w _ _ F' H' q' A V' rfl⟩
theorem e_stA {te : TE} {f : (Str × Option Int → Prop) → Prop} (h : E b G te (rSt K) f) : E b G (tOp (rIxT K) te (tC (.int 1))) rInt (fun k => f fun t => ∃ n, t.2 = some n ∧ k n) := fun _ _ _ _ k V q w => by
  refine h _ V q ?_
  rintro t v F' H' ⟨n, e, q'⟩ A V' r
  obtain ⟨p, rfl, hp⟩ := st_sq r
  rw [e] at hp
  exact ⟨p, _, _, _, rfl, rfl, _root_.Evl.ex_t V'.fh hp, atI_nat (j := 1) rfl, w _ _ F' H' q' A V' rfl⟩
def dSt (t : Str × Option Int) : PyData := .tuple (.str t.1 :: (match t.2 with | none => [] | some n => [.int n]))
def daSt : Da K (rSt K) := ⟨dSt, fun t => PyData.strOk t.1 = true, 1, fun {t v F} h => by
    obtain ⟨s, o⟩ := t
    cases o with
    | none =>
      obtain ⟨p, vs, e, h1, v, e2, e3⟩ := h
      cases e3; subst e2; subst e
      exact .tup h1 (.cons (.str _) .nil)
    | some n =>
      obtain ⟨p, vs, e, h1, v, ws, e2, e3, v2, e4, h2⟩ := h
      cases e3; subst e4; subst e2; cases h2; subst e
      exact .tup h1 (.cons (.str _) (.cons (.int _) .nil)), fun {t} h => by
    obtain ⟨s, o⟩ := t
    cases o with
    | none => exact (daTp (daOne (K := K) daStr)).can (a := s) h
    | some n => exact (daTp (daCons (K := K) daStr (daOne daInt))).can (a := (s, n)) ⟨h, trivial⟩, fun t => by
    obtain ⟨s, o⟩ := t
    cases o with
    | none => exact (daTp (daOne (K := K) daStr)).dep s
    | some n => exact (daTp (daCons (K := K) daStr (daOne daInt))).dep (s, n), fun a c => by
    obtain ⟨s, o⟩ := a
    obtain ⟨s2, o2⟩ := c
    cases o with
    | none =>
      cases o2 with
      | none =>
        refine ((daTp (daOne (K := K) daStr)).eq s s2).trans ?_
        simp
      | some m =>
        have : PyData.eqv (dSt (s, none)) (dSt (s2, some m)) = false := by
          simp [dSt, PyData.eqv, PyData.eqvAll]
        rw [this]; simp
    | some n =>
      cases o2 with
      | none =>
        have : PyData.eqv (dSt (s, some n)) (dSt (s2, none)) = false := by
          simp [dSt, PyData.eqv, PyData.eqvAll]
        rw [this]; simp
      | some m =>
        refine ((daTp (daCons (K := K) daStr (daOne daInt))).eq (s, n) (s2, m)).trans ?_
        simp⟩
end
end Mi
/-! Mir24 -/
set_option Elab.async false
set_option linter.all false
set_option maxRecDepth 100000
set_option maxHeartbeats 4000000
/-! bool(o), o's own __bool__; properties; own arguments that are items of lists of own things, or such lists -/
namespace L2
open PySem PySem.Spec PyProof.Rows
section
variable {X : Cx} {CF : CXT} {n : Nat} {f C : Addr} {fd : FuncData} {ps : List Str} {sp : Sp}
/-- bool(o) -/
def rBoolO (C : Addr) (sp : Sp) : List V → Hp → VK → Prop := fun xs H Q => ∃ a dx fs, xs = [.ref a] ∧ H a = some (.ins C dx fs) ∧ sp [.ref a] H (fun v H' => ∃ k, v = .bl k ∧ Q (.bl k) H') noX
theorem call_boolO (hs : PySem.W.findIn X.K (.ref C) "__bool__" = some (some (.ref f))) (hf : PySem.W.isFn X.K (.ref f) = true) (FF : FnOk X.prog X.w X.K X.mg X.base CF n f fd ps sp) (bF : Binds X.K fd ps []) (xF : NoX CF) (hr : Room (n + 3) X.A) : CallR X (.type "bool") (rBoolO C sp) := by
  intro pins s σ H xs us Q I rv h
  obtain ⟨a, dx, fs, rfl, ha, hsp⟩ := h
  obtain ⟨u, rfl, ru⟩ := rv.one
  cases ru
  obtain ⟨mA, J, _⟩ := ins_get I.hok ha
  obtain ⟨od, J, _⟩ := J.look
  have sb : Sub X n X.A.in1.in1 := Sub.mono (Sub.in1 (Sub.in1 (⟨hr, rfl⟩ : Sub X (n + 3) X.A))) (by omega)
  refine callType_codes (Bi := Builtin.«object.__init__») (Q₁ := fun obj s₁ => ∃ k, obj = .bool k ∧ EP X pins σ Q (.bool k) s₁) F.called_bool (F.typeCall_bool_1 _) F.entry_object_init ?_ ?_
  · refine codeAny_call_builtin F.called_bool.plain F.entry_bool_new (wpAny_of_eq (F.newCall_bool_1 _) ?_)
    have f1 := F.conv_sub_bool
    have key : wpAny (model X.prog X.w) X.A.in1.in1 (truthy (.ref a)) (fun k s' => EP X pins σ Q (.bool k) s') (fun _ _ => False) s := by
      unfold truthy
      have key : wpAny (model X.prog X.w) X.A.in1.in1 (callSpecial? (.ref a) "__bool__" []) (fun o s' => ∃ k, o = some (.bool k) ∧ EP X pins σ Q (.bool k) s') (fun _ _ => False) s := by
        refine special_fn I.kIn J hs hf ?_
        refine wpAny_mono (call_mine (a := a) (Ee := fun _ _ => False) sb FF bF xF I hsp) (fun u s' q => ?_) fun _ _ e => e
        obtain ⟨v, H', I', r, hq⟩ := q
        obtain ⟨c, e, q2⟩ := hq
        subst e
        obtain rfl : u = .bool c := r
        exact ⟨c, rfl, .bl c, H', I', rfl, q2⟩
      refine wpAny_bind (wpAny_mono key (fun o s' z => ?_) fun _ _ e => e)
      obtain ⟨k, rfl, z⟩ := z
      exact wpAny_pure z
    unfold Builtin.«bool.__new__»
    repeat (any_goals (first | assumption | (with_reducible refine wpAny_mono key (fun k s' z => ?_) (fun _ _ e => e.elim)) | wp_step))
    all_goals exact ⟨_, rfl, ‹_›⟩
  · rintro obj s₁ ⟨k, rfl, hq⟩
    exact ⟨rfl, F.args_object_init_2 _ _, object_init_meets (T := "bool") F.called_bool.init.lookup F.called_bool.made F.newNe_bool X.prog X.w _ _ s₁ ⟨rfl, rfl, hq⟩⟩
end
end L2
namespace Mi
open PySem PySem.Spec L2 Dh
open _root_.Evl (Ex)
section
variable {K : PySem.W.Frag} {b : Bs} {G Gx : List Sl} {α β γ γ' δ δ' τ τ' ρ ε ε' θ π : Type} {Gn : τ → List Sl} {Gl : θ → List Sl} {ro : ρ → V → Hp → Hp → Prop} {σ : L2.St} {F H F' H' : Hp}
theorem e_boolO {Cl : Addr} {s : FK γ} {y : γ} {i : Nat} {p : Addr} {g : γ → Unit → (Bool → Prop) → Prop} (hi : G[i]? = some (own p (cIns Cl s) y)) :
    E b G (tCB (rBoolO Cl (spR (cIns Cl s) rNil rBl g)) (tCons (tVar i) tNil)) rBl (fun k => g y () k) := fun σ F H Q k V q w => by
  obtain ⟨o, h1, rfl, u, hu, dx, fs, rfl, hs⟩ := V.hold.at_ hi
  obtain ⟨f1, B1⟩ := V.cAt hi
  have hp : p ∈ owns G := mem_owns hi List.mem_cons_self
  refine ⟨.ref p, h1, p, dx, fs, rfl, hu, p, [], y, (), F, k, rfl, f1, B1, V.fh, rfl, q, fun z v F2 H2 q2 A2 B2 r2 => ⟨z, r2, w z _ F2 H2 q2 (A2.mono fun q hq => by rw [List.mem_singleton.mp hq]; exact hp) ?_ rfl⟩⟩
  have := V.cNew hi A2 B2
  rw [set_self hi] at this; exact this
/-- o.f, a property -/
theorem e_propO {Cl : Addr} {s : FK γ} {y : γ} {i : Nat} {p : Addr} {r : R β} {g : γ → Unit → (β → Prop) → Prop} {Ek : XK} (hi : G[i]? = some (own p (cIns Cl s) y)) :
    E b G (tProp Cl (spR (cIns Cl s) rNil r g) [] Ek (tVar i)) r (fun k => g y () k) := fun σ F H Q k V q w => by
  obtain ⟨o, h1, rfl, u, hu, dx, fs, rfl, hs⟩ := V.hold.at_ hi
  obtain ⟨f1, B1⟩ := V.cAt hi
  have hp : p ∈ owns G := mem_owns hi List.mem_cons_self
  refine ⟨.ref p, h1, p, dx, fs, rfl, hu, p, [], y, (), F, k, rfl, f1, B1, V.fh, rfl, q, fun z v F2 H2 q2 A2 B2 r2 => w z _ F2 H2 q2 (A2.mono fun q hq => by rw [List.mem_singleton.mp hq]; exact hp) ?_ r2⟩
  have := V.cNew hi A2 B2
  rw [set_self hi] at this; exact this
/-! ### a call with many own things -/
theorem owns_ext : ∀ {G G' : List Sl}, G'.length = G.length → (∀ (i : Nat) (s s' : Sl), G[i]? = some s → G'[i]? = some s' → s'.ow = s.ow) → owns G' = owns G
  | [], [], _, _ => rfl
  | s :: G, s' :: G', l, h => by
    show s'.ow ++ owns G' = s.ow ++ owns G
    rw [h 0 s s' rfl rfl, owns_ext (by simpa using l) fun i s s' h1 h2 => h (i + 1) s s' (by simpa using h1) (by simpa using h2)]
theorem Env.many {G' : List Sl} {M : List Addr} (V : Env b G σ F H) (A : After F H M F' H') (hm : ∀ p ∈ M, p ∈ owns G) (hl : G'.length = G.length)
    (hG : ∀ (i : Nat) (s s' : Sl), G[i]? = some s → G'[i]? = some s' → s'.ow = s.ow ∧ ((s' = s ∧ ∀ p ∈ s.ow, p ∉ M) ∨ ∀ o, s.h o F H → s'.h o F' H')) : Env b G' σ F' H' := by
  have e := owns_ext hl fun i s s' h1 h2 => (hG i s s' h1 h2).1
  refine V.step0 A hm (fun p hp => by rw [← e]; exact hp) (by rw [e]; exact V.nd) (Holds.of (hl.trans V.hold.len) fun i s' o h1 h2 => ?_)
  have hi : i < G.length := by rw [← hl]; exact (List.getElem?_eq_some_iff.mp h1).1
  obtain ⟨o', h3, h4⟩ := V.hold.at_ (List.getElem?_eq_getElem hi)
  rw [h2] at h3; cases h3
  rcases (hG i _ s' (List.getElem?_eq_getElem hi) h1).2 with ⟨rfl, hd⟩ | h
  · exact Sl.up _ A.ff (fun p hp u hu => A.hh p u (hd p hp) hu) h4
  · exact h o h4
/-- a list of own things as a parameter -/
def oOwnC (c : C δ) (s : PO π γ α) : PO ((Addr × List Addr) × π) (List δ × γ) α := ⟨s.n + 1, fun p => (p.1.1 :: p.1.2) ++ s.ad p.2, fun p y a => ownC p.1.1 p.1.2 c y.1 :: s.sl p.2 y.2 a, fun p a vs F => ∃ ws, vs = .ref p.1.1 :: ws ∧ s.hv p.2 a ws F,
  fun p y F H => (H p.1.1 = some (.lst (p.1.2.map V.ref)) ∧ OCs c F H p.1.2 y.1) ∧ s.o p.2 y.2 F H,
  fun ⟨ws, e, h⟩ => by rw [e, List.length_cons, s.ln h], fun {p y a} => by show (p.1.1 :: p.1.2) ++ owns _ = _; rw [s.ow], fun ⟨ws, e, h2⟩ ho => by rw [e]; exact .cons (show _ ∧ _ ∧ _ from ⟨rfl, ho.1.1, ho.1.2⟩) (s.hs h2 ho.2), fun ho q hq => by
    rcases List.mem_append.mp hq with e | e
    · rcases List.mem_cons.mp e with e | e
      · rw [e, ho.1.1]; exact fun z => nomatch z
      · exact ho.1.2.live q e
    · exact s.lv ho.2 q e⟩
theorem oo_ownC {s : PO π γ α} {c : C δ} {p : π} {q : Addr} {qs : List Addr} {y : γ} {ys : List δ} {i : Nat} (hi : G[i]? = some (ownC q qs c ys)) (h : OO b G s p y) : OO b G (oOwnC c s) ((q, qs), p) (ys, y) := fun σ F H V => by
  obtain ⟨h1, h2⟩ := h σ F H V
  obtain ⟨o, _, _, g2, g3⟩ := V.hold.at_ hi
  refine ⟨fun a ha => ?_, ⟨g2, g3⟩, h2⟩
  rcases List.mem_append.mp ha with e | e
  · exact (V.on a (mem_owns hi e)).1
  · exact h1 a e
/-- a place where an own argument stands: the slot, the addresses that are handed over, what they are worth, the slot behind -/
def Lc (G : List Sl) (i : Nat) (ad : List Addr) (o : γ → Hp → Hp → Prop) (y : γ) (up : γ → Sl) : Prop := ∃ s, G[i]? = some s ∧ (∀ a ∈ ad, a ∈ s.ow) ∧ (s.ow.Nodup → ad.Nodup) ∧ (∀ y', (up y').ow = s.ow) ∧ (∀ x F H, s.h x F H → o y F H) ∧
  ∀ x F H F' H' y', s.ow.Nodup → s.h x F H → Ex F F' → (∀ a ∈ s.ow, a ∉ ad → ∀ u, H a = some u → H' a = some u) → o y' F' H' → (up y').h x F' H'
theorem lc_own {c : C γ} {i : Nat} {p : Addr} {y : γ} (hi : G[i]? = some (own p c y)) : Lc G i [p] (fun y F H => CAt c y F H p) y (fun y' => own p c y') :=
  ⟨_, hi, fun _ h => h, fun h => h, fun _ => rfl, fun x F H ⟨_, h⟩ => h, fun x F H F' H' y' _ ⟨h1, _⟩ _ _ h => ⟨h1, h⟩⟩
theorem OCs.put2 {c : C γ} {qs : List Addr} {ys : List γ} (h : OCs c F H qs ys) (e : Ex F F') {n : Nat} {q : Addr} {y : γ} (hq : qs[n]? = some q) (nd : qs.Nodup) (k : ∀ a ∈ qs, a ≠ q → ∀ o, H a = some o → H' a = some o) (hc : CAt c y F' H' q) : OCs c F' H' qs (ys.set n y) := by
  induction h generalizing n with
  | nil => simp at hq
  | @cons q' y' qs ys r t ih =>
    rw [List.nodup_cons] at nd
    cases n with
    | zero =>
      simp at hq; subst hq
      exact .cons hc (OCs.up t e fun a ha o ho => k a (List.mem_cons_of_mem _ ha) (fun z => nd.1 (z ▸ ha)) o ho)
    | succ n =>
      have hq : qs[n]? = some q := by simpa using hq
      obtain ⟨u', h1, h2⟩ := r
      exact .cons ⟨u', k _ List.mem_cons_self (fun z => nd.1 (z ▸ List.mem_of_getElem? hq)) u' h1, c.ex e h2⟩ (ih hq nd.2 fun a ha => k a (List.mem_cons_of_mem _ ha))
theorem lc_item {c : C γ} {i n : Nat} {p q : Addr} {qs : List Addr} {ys : List γ} {y : γ} (hi : G[i]? = some (ownC p qs c ys)) (hq : qs[n]? = some q) (hy : ys[n]? = some y) : Lc G i [q] (fun y F H => CAt c y F H q) y (fun y' => ownC p qs c (ys.set n y')) := by
  have hm : q ∈ qs := List.mem_of_getElem? hq
  refine ⟨_, hi, fun a h => by rw [List.mem_singleton.mp h]; exact List.mem_cons_of_mem _ hm, fun _ => by simp, fun _ => rfl, fun x F H ⟨_, _, h3⟩ => ?_, fun x F H F' H' y' nd ⟨h1, h2, h3⟩ e k h => ⟨h1, ?_, ?_⟩⟩
  · obtain ⟨q', u, g1, g2, g3⟩ := h3.at_ hy
    rw [hq] at g1; cases g1
    exact ⟨u, g2, g3⟩
  · have nd' : (p :: qs).Nodup := nd
    exact k p List.mem_cons_self (fun z => (List.nodup_cons.mp nd').1 (by rw [List.mem_singleton.mp z]; exact hm)) _ h2
  · have nd' : (p :: qs).Nodup := nd
    exact h3.put2 e hq (List.nodup_cons.mp nd').2 (fun a ha ne o ho => k a (List.mem_cons_of_mem _ ha) (fun z => ne (List.mem_singleton.mp z)) o ho) h
theorem lc_list {c : C γ} {i : Nat} {p : Addr} {qs : List Addr} {ys : List γ} (hi : G[i]? = some (ownC p qs c ys)) : Lc G i (p :: qs) (fun (ys : List γ) F H => H p = some (.lst (qs.map V.ref)) ∧ OCs c F H qs ys) ys (fun ys' => ownC p qs c ys') :=
  ⟨_, hi, fun _ h => h, fun h => h, fun _ => rfl, fun x F H ⟨_, h2, h3⟩ => ⟨h2, h3⟩, fun x F H F' H' y' _ ⟨h1, _⟩ _ _ h => ⟨h1, h.1, h.2⟩⟩
abbrev setAll (G : List Sl) (W : List (Nat × Sl)) : List Sl := W.foldl (fun G q => G.set q.1 q.2) G
theorem setAll_len : ∀ {W : List (Nat × Sl)} {G : List Sl}, (setAll G W).length = G.length
  | [], _ => rfl
  | q :: W, G => by show (setAll (G.set q.1 q.2) W).length = _; rw [setAll_len, List.length_set]
theorem setAll_get : ∀ {W : List (Nat × Sl)} {G : List Sl} {i : Nat} {s' : Sl}, (setAll G W)[i]? = some s' → (i, s') ∈ W ∨ (i ∉ W.map Prod.fst ∧ G[i]? = some s')
  | [], _, _, _, h => .inr ⟨(fun z => nomatch z), h⟩
  | (j, t) :: W, G, i, s', h => by
    rcases setAll_get (W := W) (G := G.set j t) h with z | ⟨z1, z2⟩
    · exact .inl (List.mem_cons_of_mem _ z)
    · by_cases e : j = i
      · subst e
        have hl : j < G.length := by
          have := (List.getElem?_eq_some_iff.mp z2).1
          rwa [List.length_set] at this
        rw [List.getElem?_set_self hl] at z2
        cases z2
        exact .inl List.mem_cons_self
      · rw [List.getElem?_set_ne e] at z2
        refine .inr ⟨fun z => ?_, z2⟩
        rcases List.mem_cons.mp z with z | z
        · exact e z.symm
        · exact z1 z
/-- the own arguments' places -/
def LS (b : Bs) (G : List Sl) (s : PO π γ α) (p : π) (y : γ) (js : List Nat) (W : γ → List (Nat × Sl)) : Prop := (∀ y', (W y').map Prod.fst = js) ∧
  (∀ σ F H, Env b G σ F H → (s.ad p).Nodup ∧ (∀ a ∈ s.ad p, ∃ j ∈ js, ∃ sl, G[j]? = some sl ∧ a ∈ sl.ow) ∧ s.o p y F H) ∧
  ∀ σ F H F' H' y', Env b G σ F H → Ex F F' → s.o p y' F' H' → ∀ j sl', (j, sl') ∈ W y' → ∃ sl : Sl, G[j]? = some sl ∧ sl'.ow = sl.ow ∧ ((∀ a ∈ sl.ow, a ∉ s.ad p → ∀ u, H a = some u → H' a = some u) → ∀ x, sl.h x F H → sl'.h x F' H')
theorem ls_nil : LS b G oNil () () [] (fun _ => []) := ⟨fun _ => rfl, fun _ _ _ _ => ⟨List.nodup_nil, (fun _ h => nomatch h), trivial⟩, fun _ _ _ _ _ _ _ _ _ _ _ h => nomatch h⟩
theorem ls_cons {s : PO π γ α} {s' : PO τ (δ × γ) β} {p : π} {p' : τ} {y : γ} {y0 : δ} {js : List Nat} {W : γ → List (Nat × Sl)} {i : Nat} {ad : List Addr} {o : δ → Hp → Hp → Prop} {up : δ → Sl} (had : s'.ad p' = ad ++ s.ad p) (ho : ∀ z w F H, s'.o p' (z, w) F H ↔ o z F H ∧ s.o p w F H)
    (L : Lc G i ad o y0 up) (h : LS b G s p y js W) (hij : i ∉ js) : LS b G s' p' (y0, y) (i :: js) (fun y' => (i, up y'.1) :: W y'.2) := by
  obtain ⟨sl, hi, h1, h2, h3, h4, h5⟩ := L
  refine ⟨fun y' => by rw [List.map_cons, h.1], fun σ F H V => ?_, fun σ F H F' H' y' V e hh j sl' hm => ?_⟩
  · obtain ⟨g1, g2, g3⟩ := h.2.1 σ F H V
    have nd := owns_nd hi V.nd
    obtain ⟨x, _, hx⟩ := V.hold.at_ hi
    rw [had]
    refine ⟨List.nodup_append.mpr ⟨h2 nd, g1, fun a ha c hc z => ?_⟩, fun a ha => ?_, (ho _ _ _ _).mpr ⟨h4 x F H hx, g3⟩⟩
    · subst z
      obtain ⟨j, hj, t, ht, hat⟩ := g2 a hc
      exact owns_disj hi ht (fun z => hij (z ▸ hj)) V.nd (h1 a ha) hat
    · rcases List.mem_append.mp ha with z | z
      · exact ⟨i, List.mem_cons_self, sl, hi, h1 a z⟩
      · obtain ⟨j, hj, t, ht, hat⟩ := g2 a z
        exact ⟨j, List.mem_cons_of_mem _ hj, t, ht, hat⟩
  · obtain ⟨y1, y2⟩ := y'
    obtain ⟨o1, o2⟩ := (ho _ _ _ _).mp hh
    obtain ⟨g1, g2, g3⟩ := h.2.1 σ F H V
    rw [had]
    rcases List.mem_cons.mp hm with z | z
    · cases z
      refine ⟨sl, hi, h3 y1, fun k x hx => h5 x F H F' H' y1 (owns_nd hi V.nd) hx e (fun a ha hn u hu => k a ha (fun z => ?_) u hu) o1⟩
      rcases List.mem_append.mp z with z | z
      · exact hn z
      · obtain ⟨j, hj, t, ht, hat⟩ := g2 a z
        exact owns_disj hi ht (fun z => hij (z ▸ hj)) V.nd ha hat
    · have hj : j ∈ js := by rw [← h.1 y2]; exact List.mem_map_of_mem (f := Prod.fst) z
      obtain ⟨t, ht, hw, hk⟩ := h.2.2 σ F H F' H' y2 V e o2 j sl' z
      refine ⟨t, ht, hw, fun k => hk fun a ha hn u hu => k a ha (fun z => ?_) u hu⟩
      rcases List.mem_append.mp z with z | z
      · exact owns_disj hi ht (fun z => hij (z ▸ hj)) V.nd (h1 a z) ha
      · exact hn z
theorem LS.oo {s : PO π γ α} {p : π} {y : γ} {js : List Nat} {W : γ → List (Nat × Sl)} (h : LS b G s p y js W) : OO b G s p y := fun σ F H V => by
  obtain ⟨g1, g2, g3⟩ := h.2.1 σ F H V
  refine ⟨fun a ha => ?_, g3⟩
  obtain ⟨j, _, t, ht, hat⟩ := g2 a ha
  exact (V.on a (mem_owns ht hat)).1
theorem LS.ou {s : PO π γ α} {p : π} {y : γ} {js : List Nat} {W : γ → List (Nat × Sl)} (h : LS b G s p y js W) : OU b G s p (fun y' => setAll G (W y')) := by
  refine ⟨fun σ F H V => (h.2.1 σ F H V).1, fun σ F H F' H' y' V A o => ?_⟩
  obtain ⟨g1, g2, g3⟩ := h.2.1 σ F H V
  refine V.many A (fun a ha => ?_) setAll_len fun i t t' h1 h2 => ?_
  · obtain ⟨j, _, t, ht, hat⟩ := g2 a ha
    exact mem_owns ht hat
  · rcases setAll_get h2 with z | ⟨z1, z2⟩
    · obtain ⟨sl, hi, hw, hk⟩ := h.2.2 σ F H F' H' y' V A.ff o i t' z
      rw [h1] at hi; cases hi
      exact ⟨hw, .inr (hk fun a ha hn u hu => A.hh a u hn hu)⟩
    · rw [h1] at z2; cases z2
      refine ⟨rfl, .inl ⟨rfl, fun a ha z => ?_⟩⟩
      obtain ⟨j, hj, u, hu, hat⟩ := g2 a z
      rw [h.1 y'] at z1
      exact owns_disj h1 hu (fun e => z1 (e ▸ hj)) V.nd ha hat
/-- arguments, some of them own things, items of lists of own things, or such lists -/
def AP (b : Bs) (G : List Sl) (ta : TA) (s : PO π γ α) (js : List Nat) (Wf : τ → List (Nat × Sl)) (f : (γ × α × (γ → τ) → Prop) → Prop) : Prop := ∀ ⦃σ : L2.St⦄ ⦃F H : Hp⦄ ⦃Q : List V → Hp → Prop⦄ (k : γ × α × (γ → τ) → Prop), Env b G σ F H → f k →
  (∀ p y a up vs F' H', k (y, a, up) → After F H (owns G) F' H' → Env b G σ F' H' → s.hv p a vs F' → LS b G s p y js (fun y' => Wf (up y')) → Q vs H') → ta σ H Q
theorem ap_nil : AP b G tNil oNil [] (fun _ : Unit => []) (fun k => k ((), (), fun _ => ())) := fun _ _ _ _ k V q w => w () () () _ [] _ _ q (.refl V.fh _) V rfl ls_nil
theorem ap_val {te : TE} {ta : TA} {r : R β} {s : PO π γ α} {js : List Nat} {Wf : τ → List (Nat × Sl)} {f : (β → Prop) → Prop} {g : (γ × α × (γ → τ) → Prop) → Prop} (h : E b G te r f) (t : AP b G ta s js Wf g) :
    AP b G (tCons te ta) (oVal r s) js Wf (fun k => f fun x => g fun q => k (q.1, (x, q.2.1), q.2.2)) := fun _ _ _ _ k V q w =>
  h _ V q fun x v F1 H1 q1 A1 V1 r1 => t _ V1 q1 fun p y a up vs F2 H2 q2 A2 V2 r2 L => w p y (x, a) up (v :: vs) F2 H2 q2 (A1.trans A2) V2 ⟨v, vs, rfl, r.ex A2.ff r1, r2⟩ L
theorem ap_own {ta : TA} {c : C δ} {s : PO π γ α} {js : List Nat} {Wf : τ → List (Nat × Sl)} {q : Addr} {y : δ} {i : Nat} {g : (γ × α × (γ → τ) → Prop) → Prop} (hi : G[i]? = some (own q c y)) (hij : i ∉ js) (t : AP b G ta s js Wf g) :
    AP b G (tCons (tVar i) ta) (oOwn c s) (i :: js) (fun z : δ × τ => (i, own q c z.1) :: Wf z.2) (fun k => g fun w => k ((y, w.1), w.2.1, fun y' => (y'.1, w.2.2 y'.2))) := fun _ _ _ _ k V h w => by
  obtain ⟨o, h1, rfl, _⟩ := V.hold.at_ hi
  refine ⟨.ref q, h1, ?_⟩
  exact t _ V h fun p y1 a up vs F2 H2 q2 A2 V2 r2 L => w (q, p) (y, y1) a _ (.ref q :: vs) F2 H2 q2 A2 V2 ⟨vs, rfl, r2⟩ (ls_cons (s' := oOwn c s) (p' := (q, p)) rfl (fun _ _ _ _ => Iff.rfl) (lc_own hi) L hij)
theorem ap_list {ta : TA} {c : C δ} {s : PO π γ α} {js : List Nat} {Wf : τ → List (Nat × Sl)} {q : Addr} {qs : List Addr} {ys : List δ} {i : Nat} {g : (γ × α × (γ → τ) → Prop) → Prop} (hi : G[i]? = some (ownC q qs c ys)) (hij : i ∉ js) (t : AP b G ta s js Wf g) :
    AP b G (tCons (tVar i) ta) (oOwnC c s) (i :: js) (fun z : List δ × τ => (i, ownC q qs c z.1) :: Wf z.2) (fun k => g fun w => k ((ys, w.1), w.2.1, fun y' => (y'.1, w.2.2 y'.2))) := fun _ _ _ _ k V h w => by
  obtain ⟨o, h1, rfl, _⟩ := V.hold.at_ hi
  refine ⟨.ref q, h1, ?_⟩
  exact t _ V h fun p y1 a up vs F2 H2 q2 A2 V2 r2 L => w ((q, qs), p) (ys, y1) a _ (.ref q :: vs) F2 H2 q2 A2 V2 ⟨vs, rfl, r2⟩ (ls_cons (s' := oOwnC c s) (p' := ((q, qs), p)) rfl (fun _ _ _ _ => Iff.rfl) (lc_list hi) L hij)
theorem ap_item {ta : TA} {tj : TE} {c : C δ} {s : PO π γ α} {js : List Nat} {Wf : τ → List (Nat × Sl)} {q : Addr} {qs : List Addr} {ys : List δ} {i : Nat} {f : (Int → Prop) → Prop} {g : (γ × α × (γ → τ) → Prop) → Prop} (hi : G[i]? = some (ownC q qs c ys)) (hij : i ∉ js) (hj : E b G tj rInt f) (t : AP b G ta s js Wf g) :
    AP b G (tCons (tOp (rIxL K) (tVar i) tj) ta) (oOwn c s) (i :: js) (fun z : (Nat × δ) × τ => (i, ownC q qs c (ys.set z.1.1 z.1.2)) :: Wf z.2) (fun k => f fun j => ∃ n y, ixN ys.length j = some n ∧ ys[n]? = some y ∧ g fun w => k ((y, w.1), w.2.1, fun y' => ((n, y'.1), w.2.2 y'.2))) := fun σ F H Q k V h w => by
  obtain ⟨o, h1, rfl, _⟩ := V.hold.at_ hi
  refine ⟨.ref q, h1, ?_⟩
  refine hj _ V h ?_
  rintro j v F0 H0 ⟨n, y, hn, hy, q0⟩ A0 V0 e
  cases e
  obtain ⟨o, h1', e, h2, h3⟩ := V0.hold.at_ hi
  obtain ⟨qa, g1, fq, _, _⟩ := V0.cAtI hi hy
  refine ⟨q, _, j, .ref qa, rfl, rfl, SqL.of h2, ?_, ?_⟩
  · unfold atI
    rw [List.length_map, h3.len, hn]
    show (qs.map L2.V.ref)[n]? = _
    rw [List.getElem?_map, g1]; rfl
  exact t _ V0 q0 fun p y1 a up vs F2 H2 q2 A2 V2 r2 L => w (qa, p) (y, y1) a _ (.ref qa :: vs) F2 H2 q2 (A0.trans A2) V2 ⟨vs, rfl, r2⟩ (ls_cons (s' := oOwn c s) (p' := (qa, p)) rfl (fun _ _ _ _ => Iff.rfl) (lc_item hi g1 hy) L hij)
/-- f(..), own things among the arguments changed; where no error may come -/
theorem em_callP0 {s : PO π γ α} {r : R β} {x' : Xp ε'} {g : γ → α → (β × γ → Prop) → (ε' → Prop) → Prop} {Ek : XK} {ta : TA} {js : List Nat} {Wf : τ → List (Nat × Sl)} {f : (γ × α × (γ → τ) → Prop) → Prop} (h : AP b G ta s js Wf f) :
    EM b G (tCall (spM s r x' g) [] Ek ta) r (fun z => setAll G (Wf z)) (fun k => f fun q => g q.1 q.2.1 (fun w => k (w.1, q.2.2 w.2)) fun _ => False) := fun σ F H Q k V q w => by
  refine h _ V q ?_
  intro p y a up vs F1 H1 q1 A1 V1 r1 L
  show spM s r x' g (vs ++ []) H1 _ _
  rw [List.append_nil]
  obtain ⟨o1, o2⟩ := L.oo _ _ _ V1
  exact ⟨p, y, a, F1, _, fun _ => False, L.ou.1 _ _ _ V1, o1, r1, o2, V1.fh, q1, fun z y' v F2 H2 q2 A2 f2 B2 r2 => w z _ v F2 H2 q2 (A1.ff.trans A2.ff) (L.ou.2 _ _ _ _ _ _ V1 A2 B2) r2, fun _ _ _ _ _ h => h.elim⟩
theorem em_opB {r2 : R2} {ta tb : TE} {ra : R α} {rb : R β} {rc : R γ} {Gm : τ → List Sl} {Gz : τ' → List Sl} {fa : (α × τ → Prop) → Prop} {fb : τ → (β × τ' → Prop) → Prop} {g : α → β → (γ → Prop) → Prop} (o : Op2 r2 ra rb rc g) (ha : EM b G ta ra Gm fa) (hb : ∀ x, EM b (Gm x) tb rb Gz (fb x)) :
    EM b G (tOp r2 ta tb) rc Gz (fun k => fa fun p => fb p.2 fun q => g p.1 q.1 fun c => k (c, q.2)) := fun _ _ _ _ k V q w =>
  ha _ V q fun a x v F1 H1 q1 e1 V1 r1 => hb x _ V1 q1 fun y z u F2 H2 q2 e2 V2 r2' => o _ (ra.ex e2 r1) r2' V2.fh q2 fun c t F3 H3 q3 A3 r3 => w c z t F3 H3 q3 ((e1.trans e2).trans A3.ff) (V2.step A3) r3
theorem noX0 : NoX CX0 := fun _ _ _ _ _ h => h.elim
end
end Mi
/-! Mir25 -/
set_option Elab.async false
set_option linter.all false
set_option maxRecDepth 100000
set_option maxHeartbeats 4000000
/-! C(..) that may let an error out; isinstance of two classes, of numbers that may be truths; one sign in a text; a tuple of a tuple -/
namespace Dh
open PySem PySem.Spec PyProof.Rows L2
section
variable {X : Cx} {CX : CXT} {k : Nat} {f C : Addr} {fd : FuncData} {ps : List Str} {sp : Sp} {E : L2.St → XK} {x : Str} {p pos : Pos} {e : Expr} {es : List Expr} {t : TA}
theorem run_makeS {pins : List (Addr × Obj)} {σ : L2.St} {H : Hp} {s : Shared} {Q : VK} {us : List Value} {vs : List V} (M : Mk X.K C f) (F : FnOk X.prog X.w X.K X.mg X.base CX k f fd ps sp) (hr : Room (k + 1) X.A) (hb : Binds X.K fd ps [])
    (hx : PassesAt CX X σ (E σ)) (I : Inv X pins σ H s) (r : Vals vs us)
    (h : ∀ x dx, H x = none → H dx = none → dx ≠ x → sp (.ref x :: vs) (upd (upd H dx (.own x)) x (.ins C dx [])) (fun v H2 => v = .non ∧ Q (.ref x) H2) (E σ)) :
    wpAny (model X.prog X.w) X.A (call (.ref C) us) (EP X pins σ Q) X.xe s := by
  have hq := h (s.heap.objs.size + 1) s.heap.objs.size (I.hok.fresh (Nat.le_succ _)) (I.hok.fresh (Nat.le_refl _)) (Nat.ne_of_lt (Nat.lt_succ_self _))
  have I2 := Inv.made (C := C) I
  have r2 : Vals (V.ref (s.heap.objs.size + 1) :: vs) (Value.ref (s.heap.objs.size + 1) :: us) := .cons rfl r
  have hl : (Value.ref (s.heap.objs.size + 1) :: us).length = ps.length := by
    have e := r2.length
    rw [F.len _ _ _ _ hq] at e
    exact e.symm
  have b := hb _ (Value.ref (s.heap.objs.size + 1) :: us) I2.kIn (by rw [List.append_nil]; exact hl)
  rw [List.append_nil] at b
  refine wpAny_call (make_map (f := f) I.kIn M.makes M.init (beq_iff_eq.mp M.fn) (codeAny_mono (F.run _ X.stack _ _ ⟨Value.ref (s.heap.objs.size + 1) :: us, []⟩ (Value.ref (s.heap.objs.size + 1) :: us) _ _ (E σ) (hr.make C us [])
    (I2.env0.make C us []) b r2 hq) fun r s' hq' => ?_))
  cases r with
  | error e => exact hx pins _ _ e s' I2 hq'
  | ok fl =>
    cases fl with
    | ret u =>
      obtain ⟨v, H', I3, rv, ev, q3⟩ := I2.after hq'
      subst ev
      exact ⟨rv, ⟨V.ref (s.heap.objs.size + 1), H', I3, rfl, q3⟩⟩
    | next => exact False.elim hq'
    | brk => exact False.elim hq'
    | cont => exact False.elim hq'
def tMakeS (C : Addr) (sp : Sp) (E : L2.St → XK) (t : TA) : TE := fun σ H Q => t σ H fun vs H1 => ∀ x dx, H1 x = none → H1 dx = none → dx ≠ x →
  sp (.ref x :: vs) (upd (upd H1 dx (.own x)) x (.ins C dx [])) (fun v H2 => v = .non ∧ Q (.ref x) H2) (E σ)
theorem pe_makeS (M : Mk X.K C f) (F : FnOk X.prog X.w X.K X.mg X.base CX k f fd ps sp) (hr : Room (k + 1) X.A) (hg : Gl X x) (hm : X.mg x = some (.ref C)) (hb : Binds X.K fd ps []) (hx : ∀ σ, PassesAt CX X σ (E σ))
    (ha : PA X (e :: es) t) (hdb : (x == ("__debug__" : Str)) = false := by decide) (he : starEach (e :: es) X.env = (false, eval e X.env) :: starEach es X.env := by rfl) (hpl : (backTo pos (starEach es X.env)).any (·.1) = false := by rfl) :
    PE X (.Call (.Name x p) (e :: es) [] pos) (tMakeS C sp E t) := by
  refine ⟨fun pins s σ H Q I h => ?_⟩
  refine wpAny_Call_Name_kw (ld_glob I hg hm ?_ hdb)
  refine PySem.W.callWith_K (h₀ := X.base) I.ok.mod.kin M.kp (thn (ha.run pos pins s σ H _ I h) fun us s1 ⟨vs, H1, I1, r, q⟩ => ⟨I1.kIn, ?_⟩) he hpl
  exact run_makeS M F hr hb (hx σ) I1 r q
end
end Dh
namespace Mi
open PySem PySem.Spec L2 Dh
open _root_.Evl (Ex)
section
variable {K : PySem.W.Frag} {b : Bs} {G Gx : List Sl} {α β γ γ' δ δ' τ τ' ρ ε ε' θ π : Type} {Gn : τ → List Sl} {Gl : θ → List Sl} {ro : ρ → V → Hp → Hp → Prop} {σ : L2.St} {F H F' H' : Hp}
/-- behind the laying of a new instance: as if nothing of the old had changed -/
theorem After.made {p dx : Addr} {Cl : Addr} (hp : H p = none) (hdx : H dx = none) (A2 : After F (upd (upd H dx (.own p)) p (.ins Cl dx [])) [p] F' H') : After F H [] F' H' := by
  have old : ∀ z o, H z = some o → z ≠ p ∧ z ≠ dx := fun z o hz => ⟨ne_of_none hz hp, ne_of_none hz hdx⟩
  exact ⟨A2.ff, A2.fh, fun z o _ hz => A2.hh z o (by rw [List.mem_singleton]; exact (old z o hz).1) (by rw [upd_ne (old z o hz).1, upd_ne (old z o hz).2]; exact hz), fun z hz => by
    cases e : H z with
    | none => exact absurd e hz
    | some o => exact A2.kp z (by rw [upd_ne (old z o e).1, upd_ne (old z o e).2, e]; exact fun z => nomatch z), fun z h1 hz => by
    cases e : H z with
    | none => exact absurd e hz
    | some o => exact A2.nf z h1 (by rw [upd_ne (old z o e).1, upd_ne (old z o e).2, e]; exact fun z => nomatch z)⟩
/-- a new thing, or an error that goes where O says -/
theorem enc_makeX {Cl : Addr} {s : RI α} {fk : FK β} {gx : List Sl → Prop} {x : Xp ε} {kx : ε → Prop} {W : WX} {x' : Xp ε'} {j : ε' → ε} {g : α → (β → Prop) → (ε' → Prop) → Prop} {ta : TA} {f : (α → Prop) → Prop} (O : Out b gx x kx W) (hgx : gx G) (hj : XSub x' x j) (h : Ar b G ta s f) :
    ENc b G (tMakeS Cl (spI Cl s fk x' g) (WE W) ta) (cIns Cl fk) (fun k => f fun a => g a k fun e => kx (j e)) := fun σ F H Q k V q w => by
  refine h _ V q ?_
  intro a vs F1 H1 q1 A1 V1 r1 p dx hp hdx ne
  have fp : F1 p = none := ex_none V1.fh hp
  have fd : F1 dx = none := ex_none V1.fh hdx
  have e2 : Ex F1 (upd (upd H1 dx (.own p)) p (.ins Cl dx [])) := ex_mut fp (ex_mut fd V1.fh)
  refine ⟨p, dx, vs, a, F1, k, fun e => kx (j e), rfl, upd_same, fp, e2, r1, q1, fun y F2 H2 q2 A2 f2 ⟨u, hu, hc⟩ => ⟨rfl, ?_⟩, fun e cls d F2 H2 q2 A2 hx => O hgx q2 (V1.step (After.made hp hdx A2)) (hj _ _ _ _ hx)⟩
  have B : After F1 H1 [] F2 H2 := After.made hp hdx A2
  refine w y p u F2 H2 q2 (A1.trans (B.mono fun _ h => nomatch h)) (V1.step B) ?_ f2 hu hc
  cases e : H p with
  | none => rfl
  | some z => exact absurd hp (A1.kp p (by rw [e]; exact fun z => nomatch z))
/-- isinstance(x, (c1, c2)) -/
def rTyV (c : String) : R Unit := ⟨fun _ v _ => v = .ty c, fun _ h => h⟩
theorem e_tyV {c : String} : E b G (tC (.ty c)) (rTyV c) (fun k => k ()) := fun _ _ _ _ k V q w => w () _ _ _ q (.refl V.fh _) V rfl
theorem e_isiT2 {te : TE} {r : R α} {f : (α → Prop) → Prop} {t c1 c2 : String} {r1 r2 : Bool} (T : Ty1 K r t) (k1 : kitB t c1 = some r1) (k2 : kitB t c2 = some r2) (h : E b G te r f) :
    E b G (tCB (rIsiT K) (tCons te (tCons (tTup (tCons (tC (.ty c1)) (tCons (tC (.ty c2)) tNil))) tNil))) rBl (fun k => f fun _ => k (r1 || r2)) := fun _ _ _ _ k V q w => by
  refine h _ V q ?_
  intro x v F1 H1 q1 A1 V1 r1'
  refine ⟨by show 2 ≤ sizeLine; decide, fun tp htp => ?_⟩
  have B := After.new (o := .tup [.ty c1, .ty c2]) V1.fh htp
  have V2 := V1.step B
  refine ⟨v, tp, _, _, [.type c1, .type c2], r1 || r2, rfl, upd_same, .cons (.ty _) (.cons (.ty _) .nil), T.of (r.ex B.ff r1') V2.fh, ?_, w _ _ _ _ q1 (A1.trans (B.mono fun _ h => nomatch h)) V2 rfl⟩
  unfold PySem.W.kitAny
  rw [kit_ty k1]
  cases r1 with
  | true => rfl
  | false =>
    unfold PySem.W.kitAny
    rw [kit_ty k2]
    cases r2 <;> rfl
theorem e_isiIB {te : TE} {f : ((Int ⊕ Bool) → Prop) → Prop} {c : String} {r1 r2 : Bool} (k1 : kitB "int" c = some r1) (k2 : kitB "bool" c = some r2) (h : E b G te rIB f) : E b G (tCB (rIsi K) (tCons te (tCons (tC (.ty c)) tNil))) rBl (fun k => f fun a => k (Sum.elim (fun _ => r1) (fun _ => r2) a)) := fun _ _ _ _ k V q w => by
  refine h _ V q ?_
  intro x v F1 H1 q1 A1 V1 r1'
  cases x with
  | inl i =>
    have e : v = .int i := r1'
    subst e
    exact ⟨_, _, _, _, r1, rfl, .ty _, .base (.int _), kit_ty k1, w _ _ F1 H1 q1 A1 V1 rfl⟩
  | inr t =>
    have e : v = .bl t := r1'
    subst e
    exact ⟨_, _, _, _, r2, rfl, .ty _, .base (.bl _), kit_ty k2, w _ _ F1 H1 q1 A1 V1 rfl⟩
/-- a sign in a text -/
theorem o_inC : Op2 rInC rStr rStr rBl (fun x y k => ∃ c, x = ⟨#[c]⟩ ∧ k (decide (c ∈ y.cps.toList))) := fun x y v w F H Q k h1 h2 e ⟨c, hx, q⟩ w' => by
  cases h1; cases h2; subst hx
  exact ⟨c, y, rfl, rfl, w' _ _ _ _ q (After.refl e _) rfl⟩
/-- tuple(a tuple) -/
theorem e_tupT {te : TE} {r : R α} {f : (List α → Prop) → Prop} (h : E b G te (rTup K r) f) : E b G (tCB (rTupQ K) (tCons te tNil)) (rTup K r) f := fun _ _ _ _ k V q w => by
  refine h _ V q ?_
  rintro xs v F1 H1 q1 A1 V1 ⟨p, vs, rfl, h1, h2⟩
  exact ⟨p, vs, rfl, .inr ⟨_root_.Evl.ex_t V1.fh h1, w xs _ F1 H1 q1 A1 V1 ⟨p, vs, rfl, h1, h2⟩⟩⟩
theorem frz_insP {C : Addr} {s : FK α} {a : α} {p : Addr} (u : HO) (F : Hp) (h1 : (cIns C s).h a u F) (h2 : F p = some u) : (rIns C s).h a (.ref p) F := frz_ins u F h1 h2
end
end Mi
/-! Mir26 -/
set_option Elab.async false
set_option linter.all false
set_option maxRecDepth 100000
set_option maxHeartbeats 4000000
/-! a comprehension whose items change own things -/
namespace Mi
open PySem PySem.Spec L2 Dh
open _root_.Evl (Ex)
section
variable {K : PySem.W.Frag} {b : Bs} {G Gx : List Sl} {α β γ γ' δ δ' τ τ' ρ ε ε' θ π : Type} {Gn : τ → List Sl} {Gl : θ → List Sl} {ro : ρ → V → Hp → Hp → Prop} {σ : L2.St} {F H F' H' : Hp}
abbrev Env.base (V : Env b G σ F H) : Bs := ⟨F, H, owns G, V.hold.live⟩
theorem Env.rebase (V : Env b G σ F H) : Env V.base G σ F H := ⟨Ex.refl _, V.fh, fun _ _ _ h => h, fun _ h => h, fun _ h _ => h, V.hold, V.nd, fun p hp => ⟨(V.on p hp).1, .inl hp⟩⟩
theorem Env.compose {G' : List Sl} {σ' : L2.St} (V : Env b G σ F H) (V' : Env V.base G' σ' F' H') : Env b G' σ' F' H' := by
  refine ⟨V.ff.trans V'.ff, V'.fh, fun a o hm ha => V'.hh a o (fun z => ?_) (V.hh a o hm ha), fun a ha => V'.kp a (V.kp a ha), fun a h1 h2 => V'.nf a (V.nf a h1 h2) (V.kp a h2), V'.hold, V'.nd, fun p hp => ⟨(V'.on p hp).1, ?_⟩⟩
  · rcases (V.on a z).2 with q | q
    · exact hm q
    · rw [ha] at q; cases q
  · rcases (V'.on p hp).2 with q | q
    · exact (V.on p q).2
    · exact .inr (V.bnone q)
/-- a new list, behind it the slots are as Gz says -/
def ENL (b : Bs) (G : List Sl) (te : TE) (r : R β) (Gz : τ → List Sl) (f : (List β × τ → Prop) → Prop) : Prop := ∀ ⦃σ : L2.St⦄ ⦃F H : Hp⦄ ⦃Q : VK⦄ (k : List β × τ → Prop), Env b G σ F H → f k →
  (∀ acc z p vs F' H', k (acc, z) → Ex F F' → Env b (Gz z) σ F' H' → b.H p = none → p ∉ owns (Gz z) → F' p = none → H' p = some (.lst vs) → All r F' acc vs → Q (.ref p) H') → te σ H Q
theorem wipe_wipe {vs : List Nat} : wipe (wipe σ vs) vs = wipe σ vs := by
  have : ∀ us : List Nat, (∀ x ∈ us, x ∈ vs) → wipe (wipe σ vs) us = wipe σ vs := by
    intro us
    induction us with
    | nil => intro _; rfl
    | cons x us ih =>
      intro hx
      show (wipe (wipe σ vs) us).set x none = _
      rw [ih fun z hz => hx z (List.mem_cons_of_mem _ hz)]
      have hx' := hx x List.mem_cons_self
      apply List.ext_getElem?
      intro j
      by_cases z : x = j
      · subst z
        have : ∀ ws : List Nat, x ∈ ws → (wipe σ ws)[x]? = none ∨ (wipe σ ws)[x]? = some none := by
          intro ws
          induction ws with
          | nil => intro h; nomatch h
          | cons y ws ih2 =>
            intro h
            show ((wipe σ ws).set y none)[x]? = none ∨ ((wipe σ ws).set y none)[x]? = some none
            by_cases zz : y = x
            · subst zz
              by_cases hh : y < (wipe σ ws).length
              · rw [List.getElem?_set_self hh]; exact .inr rfl
              · exact .inl (by rw [List.getElem?_eq_none]; rw [List.length_set]; omega)
            · rw [List.getElem?_set_ne zz]
              exact ih2 ((List.mem_cons.mp h).resolve_left (fun z => zz z.symm))
        rcases this vs hx' with e | e
        · have hh : ¬ x < (wipe σ vs).length := fun hh => by rw [List.getElem?_eq_getElem hh] at e; cases e
          rw [e, List.getElem?_eq_none]; rw [List.length_set]; omega
        · rw [e, List.getElem?_set_self (List.getElem?_eq_some_iff.mp e).1]
      · rw [List.getElem?_set_ne z]
  exact this vs fun _ h => h
theorem enl_comp {wi : TI} {g : TG} {te : TE} {vs : List Nat} {r : R α} {rb : R β} {up : α → List Sl → List Sl} {Gz : τ → List Sl} {z0 : τ} {fw : (List α → Prop) → Prop} {fe : α → τ → (β × τ → Prop) → Prop}
    (hw : Wk b G wi r fw) (hg : Tg g r up vs) (h0 : Gz z0 = G) (hG : ∀ z, wipeG (Gz z) vs = Gz z) (how : ∀ z, owns (Gz z) = owns G) (hln : ∀ z, (Gz z).length = G.length) (he : ∀ b' a z, EM b' (up a (Gz z)) te rb (fun z' => up a (Gz z')) (fe a z)) :
    ENL b G (tLc wi g tYes te vs) rb Gz (fun k => fw fun xs => xs.length ≤ sizeLine ∧ forP xs (([] : List β), z0) (fun a x n => fe a x.2 fun p => n (x.1 ++ [p.1], p.2)) k) :=
  fun σ F H Q k V q w => by
    refine hw _ V q ?_
    intro xs J F1 H1 q1 A1 V1 ⟨Gs, Y, hW, hGs, hY⟩
    obtain ⟨hl, I, i0, it, id⟩ := q1
    have hlen : G.length = σ.length := V.hold.len
    refine raw_c hW fun Dl hD => ?_
    have fD : F1 Dl = none := ex_none V1.fh hD
    have bD : b.H Dl = none := V1.bnone hD
    have nD : ∀ z, Dl ∉ owns (Gz z) := fun z m => by
      rw [how z] at m
      exact V1.hold.live Dl m hD
    have B0 := After.fresh (o := .lst []) V1.fh hD []
    refine ⟨fun i H2 => ∃ acc z ws F2, I i (acc, z) ∧ acc.length ≤ i ∧ Ex F1 F2 ∧ Env b (Gz z) σ F2 H2 ∧ F2 Dl = none ∧ H2 Dl = some (.lst ws) ∧ All rb F2 acc ws, ⟨[], z0, [], F1, i0, Nat.le_refl _, Ex.refl _, by rw [h0]; exact V1.step B0, fD, upd_same, .nil⟩,
      fun i H2 _ ⟨_, _, _, F2, _, _, e2, V2, _⟩ => hGs _ (e2.trans V2.fh), fun i v H2 H3 hi ⟨acc, z, ws, F2, hacc, hle, e2, V2, fD2, hD2, hAl⟩ y => ?_, fun H2 ⟨acc, z, ws, F2, hacc, hle, e2, V2, fD2, hD2, hAl⟩ => ?_⟩
    · obtain ⟨a, F3, ha, A3, hr⟩ := hY i v F2 H2 H3 hi e2 V2.fh y
      have V3 := V2.step A3
      have hw3 := V3.wipe vs
      rw [hG] at hw3
      have fD3 : F3 Dl = none := A3.nf _ fD2 (by rw [hD2]; exact fun z => nomatch z)
      have hD3 : H3 Dl = some (.lst ws) := A3.hh _ _ (by simp) hD2
      refine hg.2 hr hw3 fun σ3 V4 ew => ?_
      have nU : Dl ∉ owns (up a (Gz z)) := fun m => nD z ((hg.1 a (Gz z)).1 _ m)
      refine ⟨ew.trans wipe_wipe, ?_⟩
      have hn : acc.length < sizeLine := by omega
      refine t_yes (fun c => c = true) V4 rfl fun c F4 H4 q4 A4 V5 => ?_
      cases q4
      refine iteT (he V5.base a z _ V5.rebase (it i a (acc, z) ha hacc) fun y z' v5 F5 H5 q5 e5 V6 r5 => ?_)
      have V7 := V5.compose V6
      have hD4 : H4 Dl = some (.lst ws) := A4.hh _ _ nU hD3
      have fD4 : F4 Dl = none := A4.nf _ fD3 (by rw [hD3]; exact fun z => nomatch z)
      have hD5 : H5 Dl = some (.lst ws) := V6.hh _ _ nU hD4
      have fD5 : F5 Dl = none := V6.nf _ fD4 (show H4 Dl ≠ none by rw [hD4]; exact fun z => nomatch z)
      have W := V7.wipe vs
      rw [(hg.1 a (Gz z')).2, ew, wipe_wipe] at W
      have W2 := W.unwipe (by rw [hG, hln, hlen])
      rw [hG] at W2
      have hAl5 := hAl.ex (A3.ff.trans (A4.ff.trans e5))
      have lw : ws.length = acc.length := hAl.len
      exact ⟨ws, hD5, by omega, acc ++ [y], z', ws ++ [v5], F5, q5, by simp; omega, (e2.trans A3.ff).trans (A4.ff.trans e5), W2.poke (nD z') fD5 bD, fD5, upd_same, Dh.paired_app hAl5 (.cons r5 .nil)⟩
    · exact w acc z Dl ws F2 H2 (id (acc, z) hacc) (A1.ff.trans e2) V2 bD (nD z) fD2 hD2 hAl
/-- x = [..], an own list -/
theorem s_newLS {te : TE} {r : R β} {i : Nat} {Gz : τ → List Sl} {f : (List β × τ → Prop) → Prop} {g : List β → τ → Pd τ' θ ρ → Prop} {t : TS} {Gn : τ' → List Sl} (h : ENL b G te r Gz f) (ht : ∀ p acc z, p ∉ b.M → S b ((Gz z).set i (own p (cLst r) acc)) t Gn Gl ro (g acc z)) :
    S b G (tSeq (tAsg te (gName i)) t) Gn Gl ro (fun d => f fun w => g w.1 w.2 d) := fun σ F H D d V q w1 w2 w3 w4 => by
  refine h _ V q ?_
  intro acc z p vs F1 H1 q1 e1 V1 bp np fp hp hA
  have nM : p ∉ b.M := fun z => b.ml p z bp
  refine ht p acc z nM d ?_ q1 (fun y σ2 F2 H2 q2 e2 => w1 y σ2 F2 H2 q2 (e1.trans e2)) (fun y σ2 F2 H2 q2 e2 => w2 y σ2 F2 H2 q2 (e1.trans e2)) (fun y σ2 F2 H2 q2 e2 => w3 y σ2 F2 H2 q2 (e1.trans e2)) w4
  obtain ⟨o1, o2⟩ := owns_setL (s := own p (cLst r) acc) (G := Gz z) (i := i) (fun q hq => by
    have hq : q = p := List.mem_singleton.mp hq
    rw [hq]; exact np) (List.nodup_cons.mpr ⟨(fun z => nomatch z), List.nodup_nil⟩) V1.nd
  refine ⟨V1.ff, V1.fh, V1.hh, V1.kp, V1.nf, V1.hold.set (s := own p (cLst r) acc) (o := some (.ref p)) ⟨rfl, _, hp, vs, rfl, hA⟩, o2, fun q hq => ?_⟩
  rcases o1 q hq with z | z
  · have z : q = p := List.mem_singleton.mp z
    rw [z]; exact ⟨fp, .inr bp⟩
  · exact V1.on q z
/-- f(bag, xs), xs changed -/
theorem em_callBL {rl : R γ} {r : R β} {g : List γ → (β × List γ → Prop) → Prop} {Ek : XK} {i j : Nat} {p q : Addr} {us : List γ} (hi : G[i]? = some (own p cBag ())) (hj : G[j]? = some (own q (cLst rl) us)) (ij : i ≠ j) :
    EM b G (tCall (spBL rl r g) [] Ek (tCons (tVar i) (tCons (tVar j) tNil))) r (fun us' : List γ => G.set j (own q (cLst rl) us')) (fun k => g us fun y => k (y.1, y.2)) := fun σ F H Q k V hq w => by
  obtain ⟨o, h1, rfl, _⟩ := V.hold.at_ hi
  obtain ⟨o, h2, rfl, _⟩ := V.hold.at_ hj
  obtain ⟨fp, Bp⟩ := V.bagAt hi
  obtain ⟨fq, Bq⟩ := V.cAt hj
  have pq : p ≠ q := fun z => owns_disj hi hj ij V.nd List.mem_cons_self (by rw [z]; exact List.mem_cons_self)
  refine ⟨.ref p, h1, .ref q, h2, ?_⟩
  refine ⟨p, q, us, F, _, rfl, pq, fp, fq, Bp, Bq, V.fh, hq, fun y v F2 H2 k2 A B1 B2 r2 => w y.1 y.2 v F2 H2 k2 A.ff ?_ r2⟩
  have hp := mem_owns hi List.mem_cons_self
  have hq' := mem_owns hj List.mem_cons_self
  have e : owns (G.set j (own q (cLst rl) y.2)) = owns G := owns_same hj rfl
  obtain ⟨l, b1, b2⟩ := B1
  obtain ⟨u, c1, c2⟩ := B2
  refine V.step0 A (fun x hx => ?_) (fun x hx => by rw [← e]; exact hx) (by rw [e]; exact V.nd) (Holds.of (by rw [List.length_set]; exact V.hold.len) fun m t o m1 m2 => ?_)
  · rcases List.mem_cons.mp hx with z | z
    · rw [z]; exact hp
    · rw [List.mem_singleton.mp z]; exact hq'
  · by_cases z : j = m
    · subst z
      rw [List.getElem?_set_self (List.getElem?_eq_some_iff.mp hj).1] at m1
      cases m1
      rw [h2] at m2; cases m2
      exact ⟨rfl, u, c1, c2⟩
    · rw [List.getElem?_set_ne z] at m1
      by_cases z2 : i = m
      · subst z2
        rw [hi] at m1; cases m1
        rw [h1] at m2; cases m2
        exact ⟨rfl, _, b1, l, rfl, b2⟩
      · obtain ⟨o', h3, h4⟩ := V.hold.at_ m1
        rw [m2] at h3; cases h3
        refine t.up A.ff (fun x hx u hu => A.hh x u (fun zz => ?_) hu) h4
        rcases List.mem_cons.mp zz with e1 | e1
        · exact owns_disj hi m1 z2 V.nd List.mem_cons_self (e1 ▸ hx)
        · rw [List.mem_singleton.mp e1] at hx
          exact owns_disj hj m1 z V.nd List.mem_cons_self hx
/-- xs[a:b] of a tuple -/
theorem e_slT {te : TE} {tl th : TO} {r : R α} {f : (List α → Prop) → Prop} {g g2 : (Option Int → Prop) → Prop} (h : E b G te (rTup K r) f) (hl : PO' b G tl g) (hh : PO' b G th g2) : E b G (tSl (rSlA K) te tl th) (rTup K r) (fun k => f fun xs => g fun lo => g2 fun hi => k (cutL xs lo hi)) := fun _ _ _ _ k V q w => by
  refine h _ V q ?_
  rintro xs v F1 H1 q1 A1 V1 ⟨p, vs, rfl, h1, h2⟩
  refine hl _ V1 q1 ?_
  intro lo F2 H2 q2 A2 V2
  refine hh _ V2 q2 ?_
  intro hi F3 H3 q3 A3 V3
  have e := A2.ff.trans A3.ff
  have hA : All r F3 xs vs := h2.ex e
  have hc : All r F3 (cutL xs lo hi) (cutV vs lo hi) := hA.cut
  refine ⟨p, vs, rfl, _root_.Evl.ex_t V3.fh (_root_.Evl.ex_t e h1), fun ⟨z1, z2⟩ => ?_, fun _ l hl => ?_⟩
  · have e2 : cutL xs lo hi = xs := by
      unfold cutL
      rw [← hA.len, z1, z2]
      simp [hA.len]
    refine w (cutL xs lo hi) _ F3 H3 q3 ((A1.trans A2).trans A3) V3 ?_
    rw [e2]
    exact ⟨p, vs, rfl, _root_.Evl.ex_t e h1, hA⟩
  · have B := After.new (o := .tup (cutV vs lo hi)) V3.fh hl
    exact w _ _ _ _ q3 (((A1.trans A2).trans A3).trans (B.mono fun _ h => nomatch h)) (V3.step B) ⟨l, _, rfl, SqT.of upd_same, hc.ex B.ff⟩
theorem xs_or {x : Xp ε} {y : Xp δ} {z : Xp γ} {j : ε → γ} {k : δ → γ} (h1 : XSub x z j) (h2 : XSub y z k) : XSub (xOr x y) z (Sum.elim j k) := fun e cls d F h => by
  cases e with
  | inl a => exact h1 _ _ _ _ h
  | inr c => exact h2 _ _ _ _ h
end
end Mi
/-! Mir27 -/
set_option Elab.async false
set_option linter.all false
set_option maxRecDepth 100000
set_option maxHeartbeats 4000000
/-! ('BadName', x), ('BadRow', 3), ('none', None); rows of numbers that are no truths -/
namespace Mi
open PySem PySem.Spec L2 Dh
open _root_.Evl (Ex)
section
variable {K : PySem.W.Frag} {b : Bs} {G Gx : List Sl} {α β γ γ' δ δ' τ τ' ρ ε ε' θ π : Type} {Gn : τ → List Sl} {Gl : θ → List Sl} {ro : ρ → V → Hp → Hp → Prop} {σ : L2.St} {F H F' H' : Hp}
abbrev Du := Str × Option (Str ⊕ Int)
def rDu (K : PySem.W.Frag) : R Du := ⟨fun t v F => match t.2 with
  | none => (rTp K (rCons rStr (rOne rNon))).h (t.1, ()) v F
  | some (.inl s) => (rTp K (rCons rStr (rOne rStr))).h (t.1, s) v F
  | some (.inr n) => (rTp K (rCons rStr (rOne rInt))).h (t.1, n) v F, fun {t _ _ _} e h => by
    obtain ⟨s, o⟩ := t
    rcases o with _ | s | n
    · exact (rTp K (rCons rStr (rOne rNon))).ex e h
    · exact (rTp K (rCons rStr (rOne rStr))).ex e h
    · exact (rTp K (rCons rStr (rOne rInt))).ex e h⟩
theorem e_duN {te : TE} {f : (Str → Prop) → Prop} (h : E b G te rStr f) : E b G (tTup (tCons te (tCons (tC .non) tNil))) (rDu K) (fun k => f fun s => k (s, none)) :=
  e_cast (r := rTp K (rCons rStr (rOne rNon))) (r' := rDu K) (g := fun x => (x.1, none)) (fun a v F h => h) (e_tup (ar_cons h (ar_one e_non)) (Nat.le_of_ble_eq_true rfl))
theorem e_duS {te ta : TE} {f g : (Str → Prop) → Prop} (h : E b G te rStr f) (h2 : E b G ta rStr g) : E b G (tTup (tCons te (tCons ta tNil))) (rDu K) (fun k => f fun s => g fun n => k (s, some (.inl n))) :=
  e_cast (r := rTp K (rCons rStr (rOne rStr))) (r' := rDu K) (g := fun x => (x.1, some (Sum.inl x.2))) (fun a v F h => h) (e_tup (ar_cons h (ar_one h2)) (Nat.le_of_ble_eq_true rfl))
theorem e_duI {te ta : TE} {f : (Str → Prop) → Prop} {g : (Int → Prop) → Prop} (h : E b G te rStr f) (h2 : E b G ta rInt g) : E b G (tTup (tCons te (tCons ta tNil))) (rDu K) (fun k => f fun s => g fun n => k (s, some (.inr n))) :=
  e_cast (r := rTp K (rCons rStr (rOne rInt))) (r' := rDu K) (g := fun x => (x.1, some (Sum.inr x.2))) (fun a v F h => h) (e_tup (ar_cons h (ar_one h2)) (Nat.le_of_ble_eq_true rfl))
theorem nn_du : NN (rDu K) := fun {t v F} h => by
  obtain ⟨s, o⟩ := t
  rcases o with _ | s | n
  · obtain ⟨p, vs, e, _⟩ := h; rw [e]; exact fun z => nomatch z
  · obtain ⟨p, vs, e, _⟩ := h; rw [e]; exact fun z => nomatch z
  · obtain ⟨p, vs, e, _⟩ := h; rw [e]; exact fun z => nomatch z
def dDu (t : Du) : PyData := .tuple [.str t.1, match t.2 with | none => .none | some (.inl s) => .str s | some (.inr n) => .int n]
def DuOk (t : Du) : Prop := PyData.strOk t.1 = true ∧ ∀ s, t.2 = some (.inl s) → PyData.strOk s = true
theorem eqv_ss (a c : Str) : PyData.eqv (.str a) (.str c) = decide (a = c) := daStr.eq (K := default) a c
theorem eqv_ii (a c : Int) : PyData.eqv (.int a) (.int c) = decide (a = c) := daInt.eq (K := default) a c
def daDu : Da K (rDu K) := ⟨dDu, DuOk, 1, fun {t v F} h => by
    obtain ⟨s, o⟩ := t
    rcases o with _ | s | n
    · obtain ⟨p, vs, e, h1, v, ws, e2, e3, v2, e4, h2⟩ := h
      cases e3; subst e4; subst e2; cases h2; subst e
      exact .tup h1 (.cons (.str _) (.cons .non .nil))
    · obtain ⟨p, vs, e, h1, v, ws, e2, e3, v2, e4, h2⟩ := h
      cases e3; subst e4; subst e2; cases h2; subst e
      exact .tup h1 (.cons (.str _) (.cons (.str _) .nil))
    · obtain ⟨p, vs, e, h1, v, ws, e2, e3, v2, e4, h2⟩ := h
      cases e3; subst e4; subst e2; cases h2; subst e
      exact .tup h1 (.cons (.str _) (.cons (.int _) .nil)), fun {t} h => by
    obtain ⟨s, o⟩ := t
    obtain ⟨h1, h2⟩ := h
    rcases o with _ | s2 | n
    · have h1 : PyData.strOk s = true := h1
      show PyData.canLay0 (.tuple [.str s, .none]) = true
      have := (daTp (daOne (K := K) daStr)).can (a := s) h1
      simp [PyData.canLay0, PyData.canLayAll0, daTp, daOne, daStr] at this ⊢
      exact this
    · exact (daTp (daCons (K := K) daStr (daOne daStr))).can (a := (s, s2)) ⟨h1, h2 _ rfl⟩
    · exact (daTp (daCons (K := K) daStr (daOne daInt))).can (a := (s, n)) ⟨h1, trivial⟩, fun t => by
    obtain ⟨s, o⟩ := t
    rcases o with _ | s2 | n <;> simp [dDu, PyData.depth, PyData.depthAll], fun a c => by
    obtain ⟨s, o⟩ := a
    obtain ⟨s2, o2⟩ := c
    rcases o with _ | x | x <;> rcases o2 with _ | y | y <;> (try simp [dDu, PyData.eqv, PyData.eqvAll]) <;> (try simp only [Bool.beq_eq_decide_eq])⟩
/-- what shows an a by r shows i a by r' -/
def injR (rows : List (List (Int × Int))) : List (List ((Int ⊕ Bool) × (Int ⊕ Bool))) := rows.map fun row => row.map fun p => (.inl p.1, .inl p.2)
theorem all_of {r : R α} {r' : R β} {i : β → α} {F : Hp} (h : ∀ a v, r.h (i a) v F → r'.h a v F) : ∀ {xs : List β} {vs : List V}, All r F (xs.map i) vs → All r' F xs vs
  | [], _, e => by cases e; exact .nil
  | x :: xs, _, e => by
    cases e with
    | cons e1 e2 => exact .cons (h _ _ e1) (all_of h e2)
theorem e_rowsGet {te : TE} {f : (List (List ((Int ⊕ Bool) × (Int ⊕ Bool))) → Prop) → Prop} (h : E b G te (rTup K (rTup K (rTp K (rCons rIB (rOne rIB))))) f) :
    E b G te (rTup K (rTup K (rTp K (rCons rInt (rOne rInt))))) (fun k => f fun a => ∃ n, a = injR n ∧ k n) := fun σ F H Q k V q w => h _ V q fun a v F' H' ⟨n, e, q'⟩ A V' hr => by
  subst e
  refine w n v F' H' q' A V' ?_
  obtain ⟨p, vs, e1, e2, e3⟩ := hr
  refine ⟨p, vs, e1, e2, all_of (fun row u hu => ?_) e3⟩
  obtain ⟨p2, vs2, g1, g2, g3⟩ := hu
  refine ⟨p2, vs2, g1, g2, all_of (fun pr u hu => ?_) g3⟩
  obtain ⟨p3, vs3, k1, k2, v1, ws, k3, k4, v2, k5, k6⟩ := hu
  exact ⟨p3, vs3, k1, k2, v1, ws, k3, k4, v2, k5, k6⟩
end
end Mi
/-! Mir28 -/
set_option Elab.async false
set_option linter.all false
set_option maxRecDepth 100000
set_option maxHeartbeats 4000000
/-! o(..), o[..], len(o) of a frozen own thing; t.index(x) -/
namespace Dh
open PySem PySem.Spec PyProof.Rows L2
section
variable {X : Cx} {CX : CXT} {k : Nat} {f C : Addr} {fd : FuncData} {ps : List Str} {sp : Sp} {E : L2.St → XK} {pos : Pos} {e fe a i : Expr} {es : List Expr} {ta tb tf : TE} {t : TA}
/-- one of our defs is called at a place within -/
theorem run_fnAc {A1 : Around} {pins : List (Addr × Obj)} {σ : L2.St} {H : Hp} {s : Shared} {Q : VK} {us : List Value} {vs : List V} {E : XK} (sb : Sub X k A1) (F : FnOk X.prog X.w X.K X.mg X.base CX k f fd ps sp) (hb : Binds X.K fd ps []) (hx : PassesAt CX X σ E)
    (I : Inv X pins σ H s) (r : Vals vs us) (h : sp vs H Q E) : codeAny (model X.prog X.w) A1 (.call (.ref f) ⟨us, []⟩) (fun r s' => match r with | .ok (.ret v) => EP X pins σ Q v s' | .ok _ => False | .error e => X.xe e s') s := by
  have e0 : Env0 X.prog X.w X.K X.mg X.base A1 X.stack s H := by
    have e := I.env0
    exact ⟨by rw [sb.fr]; exact e.frames, e.mod, e.bs, e.bsz, e.funs, e.frf, e.hok, e.bare⟩
  have hl : us.length = ps.length := by rw [← r.length]; exact F.len _ _ _ _ h
  have b := hb s us I.kIn (by rw [List.append_nil]; exact hl)
  rw [List.append_nil] at b
  refine codeAny_mono (F.run A1 X.stack s H ⟨us, []⟩ us vs Q E sb.room e0 b r h) fun r s' hq => ?_
  cases r with
  | error e => exact hx pins H s e s' I hq
  | ok fl =>
    cases fl with
    | ret u => exact I.after hq
    | next => exact False.elim hq
    | brk => exact False.elim hq
    | cont => exact False.elim hq
theorem run_fnA {A1 : Around} {pins : List (Addr × Obj)} {σ : L2.St} {H : Hp} {s : Shared} {Q : VK} {us : List Value} {vs : List V} {E : XK} (sb : Sub X k A1) (F : FnOk X.prog X.w X.K X.mg X.base CX k f fd ps sp) (hb : Binds X.K fd ps []) (hx : PassesAt CX X σ E)
    (I : Inv X pins σ H s) (r : Vals vs us) (h : sp vs H Q E) : wpAny (model X.prog X.w) A1 (call (.ref f) us) (EP X pins σ Q) X.xe s := wpAny_call (run_fnAc sb F hb hx I r h)
abbrev InsAt (H : Hp) (a C : Addr) : Prop := ∃ dx fs, H a = some (.ins C dx fs)
theorem insAt_at {pins : List (Addr × Obj)} {σ : L2.St} {H : Hp} {s : Shared} {a : Addr} (I : Inv X pins σ H s) (h : InsAt H a C) : ∃ ox od, PySem.W.InstAt s.heap a ox C od ∧ ox.data = .plain := by
  obtain ⟨dx, fs, h⟩ := h
  obtain ⟨mA, O, _⟩ := ins_get I.hok h
  obtain ⟨od, J, _⟩ := O.look
  exact ⟨_, _, J, rfl⟩
/-! ### o(e, ..) -/
def tCallOS (C : Addr) (sp : Sp) (E : L2.St → XK) (tf : TE) (t : TA) : TE := fun σ H Q => tf σ H fun y H1 => ∃ a, y = V.ref a ∧ t σ H1 fun vs H2 => InsAt H2 a C ∧ sp (V.ref a :: vs) H2 Q (E σ)
theorem pe_callOS (hf : PE X fe tf) (c : StX.CallO X.K C f) (F : FnOk X.prog X.w X.K X.mg X.base CX k f fd ps sp) (hr : Room k X.A) (hb : Binds X.K fd ps []) (hx : ∀ σ, PassesAt CX X σ (E σ)) (ha : PA X (e :: es) t)
    (ht : eval (.Call fe (e :: es) [] pos) X.env = (do callWith pos (← eval fe X.env) [] (backTo pos (starEach (e :: es) X.env)) (backToKw pos (keywordEach [] X.env))) := by rfl)
    (he : starEach (e :: es) X.env = (false, eval e X.env) :: starEach es X.env := by rfl) (hpl : (backTo pos (starEach es X.env)).any (·.1) = false := by rfl) : PE X (.Call fe (e :: es) [] pos) (tCallOS C sp E tf t) := by
  refine ⟨fun pins s σ H Q I h => ?_⟩
  refine Call_ (thn (hf.run pins s σ H _ I h) fun u s1 ⟨y, H1, I1, ry, a, ey, q⟩ => ?_) ht
  subst ey
  obtain rfl : u = Value.ref a := ry
  refine StX.callO_with (thn (ha.run pos pins s1 σ H1 _ I1 q) fun us s2 ⟨vs, H2, I2, r, hi, q2⟩ => ?_) he hpl
  obtain ⟨ox, od, J, hd⟩ := insAt_at I2 hi
  exact ⟨⟨C, ox, od, J, hd⟩, wpAny_call (PySem.W.kco_code I2.kIn J hd c.at_ c.fn c.fi (run_fnAc (us := .ref a :: us) (vs := .ref a :: vs) ⟨hr, rfl⟩ F hb (hx σ) I2 (.cons rfl r) q2))⟩
/-! ### o[e] -/
structure ItemO (K : PySem.W.Frag) (C f : Addr) : Prop where
  at_ : PySem.W.findIn K (.ref C) "__getitem__" = some (some (.ref f))
  fn : PySem.W.isFn K (.ref f) = true
  fi : PySem.W.fnIn K f = true
def tIxO (C : Addr) (sp : Sp) (E : L2.St → XK) (ta tb : TE) : TE := fun σ H Q => ta σ H fun x H1 => tb σ H1 fun y H2 => ∃ a, x = V.ref a ∧ InsAt H2 a C ∧ sp [x, y] H2 Q (E σ)
theorem pe_ixO (ha : PE X a ta) (hi : PE X i tb) (c : ItemO X.K C f) (F : FnOk X.prog X.w X.K X.mg X.base CX k f fd ps sp) (hr : Room (k + 1) X.A) (hb : Binds X.K fd ps []) (hx : ∀ σ, PassesAt CX X σ (E σ))
    (hs : ∀ o v, subscripted i true o v = runValue (.builtin "lifetime.subscript" ⟨[o, v], []⟩) := by intro o v; with_unfolding_all rfl) : PE X (.Subscript a i pos) (tIxO C sp E ta tb) := by
  refine ⟨fun pins s σ H Q I h => ?_⟩
  refine Subscript_ (binT (R := fun x y H2 => ∃ a, x = V.ref a ∧ InsAt H2 a C ∧ sp [x, y] H2 Q (E σ)) ha hi I h fun v u s2 x y H2 I2 rx ry q => ?_)
  obtain ⟨b, ex, hin, q⟩ := q
  subst ex
  obtain rfl : v = Value.ref b := rx
  obtain ⟨ox, od, J, hd⟩ := insAt_at I2 hin
  have X2 := I2.kIn
  have hf := c.fi
  unfold PySem.W.fnIn at hf
  split at hf
  · rename_i e
    unfold subscriptTail getitemInPython
    refine wpAny_bind (wpAny_bind (wpAny_bind (J.type.here ((PySem.W.looks_findIn X2 c.at_).here ?_))))
    dsimp only
    refine wpAny_bind (wpAny_load (X2 _ _ e) (wpAny_pure ?_))
    dsimp only
    rw [hs]
    refine wpAny_bind (wpAny_runValue (codeAny_builtin PySem.W.entry_sub ?_))
    unfold Builtin.«lifetime.subscript»
    refine wpAny_bind (PySem.W.special_fn X2 J c.at_ (beq_iff_eq.mp c.fn) (wpAny_mono (run_fnA (us := [.ref b, u]) (vs := [.ref b, y]) ⟨hr.in1, rfl⟩ F hb (hx σ) I2 (.cons rfl (.cons ry .nil)) q) (fun v s' z => ?_) fun _ _ z => z))
    refine wpAny_pure ?_
    show wpAny _ X.A (letTemporaryGo a (.ref b) v >>= fun _ => pure v) _ _ s'
    exact wpAny_bind (wpAny_letTemporaryGo (wpAny_pure z))
  · cases hf
/-! ### tuple(xs), known to have no dict; t.index(x) -/
def rTupQD (K : PySem.W.Frag) : List V → Hp → VK → Prop := fun xs H Q => ∃ p ys, xs = [.ref p] ∧ SqL K H p ys ∧ ∀ l o, H l = none → o.dict = none → o.cls = .type "tuple" → Q (.ref l) (upd H l (.frz o (.tup ys)))
theorem cl_tupleD : CallR X (.type "tuple") (rTupQD X.K) := by
  intro pins s σ H xs us Q I r h
  obtain ⟨p, ys, rfl, hq, q⟩ := h
  obtain rfl := Vals.ref1 r
  obtain ⟨its, r', pl, hz⟩ := I.list hq
  have hlen := r'.length
  refine call_tuple_list pl.isList (fun h' kp => ?_) (by simp only [List.size_toArray] <;> omega)
  have I1 : Inv X pins σ H { s with heap := h' } := I.kept (t' := s.toks) kp
  have I2 : Inv X pins σ (upd H h'.objs.size (.frz { cls := .type "tuple", data := .seq its.toArray } (.tup ys))) { s with heap := h'.push { cls := .type "tuple", data := .seq its.toArray } } :=
    I1.laid (t' := s.toks) (fun b o e => Heap.get?_push_of_some _ e) (Nat.le_refl _) (show ObjOk X.prog X.w _ _ _ (.frz _ (.tup ys)) from ⟨Heap.get?_push_size _ rfl, hz, its, r', IsTup.new _ _⟩)
  exact ⟨.ref h'.objs.size, _, I2, rfl, q _ _ (I1.hok.fresh (Nat.le_refl _)) rfl rfl⟩
def rTIdx (K : PySem.W.Frag) : V → List V → Hp → VK → Prop := fun x xs H Q => ∃ p, ∃ ys : List Str, ∃ z j, x = .ref p ∧ xs = [.str z] ∧ SqT K H p (ys.map V.str) ∧ ys[j]? = some z ∧ (∀ m, m < j → ys[m]? ≠ some z) ∧ Q (.int (j : Nat)) H
theorem mt_tidx : MtR X "tuple.index" (rTIdx X.K) := mt_tup_index
def TupD (x : V) (H : Hp) : Prop := ∃ p o vs, x = .ref p ∧ H p = some (.frz o (.tup vs)) ∧ o.cls = .type "tuple" ∧ o.dict = none
def tBMD (r : V → List V → Hp → VK → Prop) (to : TE) (t : TA) : TE := fun σ H Q => to σ H fun x H1 => TupD x H1 ∧ t σ H1 fun xs H2 => r x xs H2 Q
theorem pe_bmD {o e : Expr} {es : List Expr} {to : TE} {t : TA} {name : Str} {apos cpos : Pos} {id : String} {r : V → List V → Hp → VK → Prop} (slot : Slot "tuple" name id) (hty : typeOf (.builtin id) = pure (.type "method_descriptor")) (hm : MtR X id r) (ho : PE X o to) (ha : PA X (e :: es) t)
    (hbase : attributeBase o name X.env (eval o X.env) = eval o X.env := by rfl)
    (hfew : ((backTo cpos (starEach (e :: es) X.env)).all (fun x => !x.1) && (backToKw cpos (keywordEach [] X.env)).all (fun x => x.1.isSome)
      && decide ((e :: es).length + ([] : List Keyword).length + (if ([] : List Keyword).isEmpty then 0 else 1) < 30)) = true := by rfl)
    (hline : (apos.endLine == cpos.line) = true := by rfl) (hs : starEach (e :: es) X.env = (false, eval e X.env) :: starEach es X.env := by rfl) (hplain : (backTo cpos (starEach es X.env)).any (·.1) = false := by rfl) :
    PE X (.Call (.Attribute o name apos) (e :: es) [] cpos) (tBMD r to t) := by
  refine ⟨fun pins s σ H Q I h => ?_⟩
  refine wpAny_Call_method_late hbase hfew hline rfl (thn (ho.run pins s σ H _ I h) fun v s1 ⟨x, H1, I1, r1, ty, q1⟩ => ?_)
  obtain ⟨p, ob, vs, rfl, hp, hc, hd⟩ := ty
  obtain rfl : v = Value.ref p := r1
  have hg := (I1.hok p _ hp).1
  refine ⟨"tuple", id, PySem.F.plainAttrs_tuple, slot, hty, ⟨ob, hg, hc⟩, fun a ea => ?_, ?_⟩
  · cases ea; exact ⟨ob, hg, hd⟩
  have hA := ha.run cpos pins s1 σ H1 _ I1 q1
  rw [hs] at hA ⊢
  refine Calls.callWith_builtin (by show (false || (backTo cpos (starEach es X.env)).any (·.1)) = false; rw [hplain] <;> rfl) (Calls.evalArgs_plain ?_)
  exact thn hA fun us s2 ⟨vs, H2, I2, r2, q2⟩ => hm pins s2 σ H2 (.ref p) vs _ us Q I2 rfl r2 q2
/-! ### len(o) -/
structure LenO (K : PySem.W.Frag) (C f : Addr) : Prop where
  at_ : PySem.W.findIn K (.ref C) "__len__" = some (some (.ref f))
  fn : PySem.W.isFn K (.ref f) = true
def rLenO (C : Addr) (sp : Sp) : List V → Hp → VK → Prop := fun xs H Q => ∃ a, xs = [.ref a] ∧ InsAt H a C ∧ sp [.ref a] H (fun v H' => ∃ n : Int, v = .int n ∧ 0 ≤ n ∧ n < 2 ^ 63 ∧ Q (.int n) H') (fun _ _ _ => False)
theorem call_lenO {CX : CXT} (c : LenO X.K C f) (F : FnOk X.prog X.w X.K X.mg X.base CX k f fd ps sp) (hr : Room (k + 1) X.A) (hb : Binds X.K fd ps []) (hx : ∀ σ, PassesAt CX X σ (fun _ _ _ => False)) : CallR X (.builtin "len") (rLenO C sp) := by
  intro pins s σ H xs us Q I r h
  obtain ⟨b, rfl, hin, q⟩ := h
  obtain rfl := Vals.ref1 r
  obtain ⟨ox, od, J, hd⟩ := insAt_at I hin
  have W := run_fnA (A1 := X.A.in1) (us := [.ref b]) (vs := [.ref b]) ⟨hr.in1, rfl⟩ F hb (hx σ) I (.cons rfl .nil) q
  refine len_fn I.kIn J c.at_ c.fn (wpAny_mono W (fun u s' z => ?_) fun _ _ z => z)
  obtain ⟨v, H', I', rv, n, rfl, h0, h1, q'⟩ := z
  obtain ⟨t, rfl⟩ := rv
  exact ⟨n, t, rfl, h0, h1, .int n, H', I'.tok _, ⟨_, rfl⟩, q'⟩
end
end Dh
namespace Mi
open PySem PySem.Spec L2 Dh
open _root_.Evl (Ex)
section
variable {K : PySem.W.Frag} {b : Bs} {G Gx : List Sl} {α β γ γ' δ τ τ' ρ ε ε' θ : Type} {Gn : τ → List Sl} {Gl : θ → List Sl} {ro : ρ → V → Hp → Hp → Prop} {σ : L2.St} {F H F' H' : Hp} {x : Xp ε} {x' : Xp ε'} {j : ε' → ε} {gx : List Sl → Prop} {kx : ε → Prop} {W : WX}
/-- o(e, ..), o a frozen thing -/
theorem e_callO {Cl : Addr} {s : FK γ} {si : RI α} {r : R β} {g : γ × α → (β → Prop) → Prop} {Ek : L2.St → XK} {te : TE} {ta : TA} {f : (γ → Prop) → Prop} {f2 : (α → Prop) → Prop} (he : E b G te (rIns Cl s) f) (h : Ar b G ta si f2) :
    E b G (tCallOS Cl (spP (rCons (rIns Cl s) si) r g) Ek te ta) r (fun k => f fun y => f2 fun x => g (y, x) k) := fun σ F H Q k V q w => by
  refine he _ V q ?_
  rintro y v F0 H0 q0 A0 V0 ⟨p, dx, fs, rfl, hp, hs⟩
  refine ⟨p, rfl, ?_⟩
  refine h _ V0 q0 ?_
  intro x vs F1 H1 q1 A1 V1 r1
  have hp1 := A1.ff _ _ hp
  exact ⟨⟨dx, fs, V1.fh _ _ hp1⟩, (y, x), F1, k, V1.fh, ⟨.ref p, vs, rfl, ⟨p, dx, fs, rfl, hp1, s.ex A1.ff hs⟩, r1⟩, q1, fun z v F2 H2 q2 A2 r2 => w z v F2 H2 q2 ((A0.trans A1).trans (A2.mono fun _ h => nomatch h)) (V1.step A2) r2⟩
theorem e_callOX {Cl : Addr} {s : FK γ} {si : RI α} {r : R β} {g : γ × α → (β → Prop) → (ε' → Prop) → Prop} {te : TE} {ta : TA} {f : (γ → Prop) → Prop} {f2 : (α → Prop) → Prop} (O : Out b gx x kx W) (hg : gx G) (hj : XSub x' x j) (he : E b G te (rIns Cl s) f) (h : Ar b G ta si f2) :
    E b G (tCallOS Cl (spX (rCons (rIns Cl s) si) r x' g) (WE W) te ta) r (fun k => f fun y => f2 fun x => g (y, x) k fun e => kx (j e)) := fun σ F H Q k V q w => by
  refine he _ V q ?_
  rintro y v F0 H0 q0 A0 V0 ⟨p, dx, fs, rfl, hp, hs⟩
  refine ⟨p, rfl, ?_⟩
  refine h _ V0 q0 ?_
  intro x vs F1 H1 q1 A1 V1 r1
  have hp1 := A1.ff _ _ hp
  exact ⟨⟨dx, fs, V1.fh _ _ hp1⟩, (y, x), F1, k, fun e => kx (j e), V1.fh, ⟨.ref p, vs, rfl, ⟨p, dx, fs, rfl, hp1, s.ex A1.ff hs⟩, r1⟩, q1, fun z v F2 H2 q2 A2 r2 => w z v F2 H2 q2 ((A0.trans A1).trans (A2.mono fun _ h => nomatch h)) (V1.step A2) r2,
    fun e cls d F2 H2 q2 A2 hx => O hg q2 (V1.step A2) (hj _ _ _ _ hx)⟩
/-- o(e, ..) gives a new own thing, or an error -/
theorem enc_callOX {Cl : Addr} {s : FK γ} {si : RI α} {c : C β} {g : γ × α → (β → Prop) → (ε' → Prop) → Prop} {te : TE} {ta : TA} {f : (γ → Prop) → Prop} {f2 : (α → Prop) → Prop} (O : Out b gx x kx W) (hg : gx G) (hj : XSub x' x j) (he : E b G te (rIns Cl s) f) (h : Ar b G ta si f2) :
    ENc b G (tCallOS Cl (spXO (rCons (rIns Cl s) si) c x' g) (WE W) te ta) c (fun k => f fun y => f2 fun x => g (y, x) k fun e => kx (j e)) := fun σ F H Q k V q w => by
  refine he _ V q ?_
  rintro y v F0 H0 q0 A0 V0 ⟨p, dx, fs, rfl, hp, hs⟩
  refine ⟨p, rfl, ?_⟩
  refine h _ V0 q0 ?_
  intro x vs F1 H1 q1 A1 V1 r1
  have hp1 := A1.ff _ _ hp
  refine ⟨⟨dx, fs, V1.fh _ _ hp1⟩, (y, x), F1, k, fun e => kx (j e), V1.fh, ⟨.ref p, vs, rfl, ⟨p, dx, fs, rfl, hp1, s.ex A1.ff hs⟩, r1⟩, q1, fun y v F2 H2 q2 A2 ⟨p, u, e, h0, fp, hp, hc⟩ => ?_, fun e cls d F2 H2 q2 A2 hx => O hg q2 (V1.step A2) (hj _ _ _ _ hx)⟩
  subst e
  have A01 := A0.trans A1
  refine w y p u F2 H2 q2 (A01.trans (A2.mono fun _ h => nomatch h)) (V1.step A2) ?_ fp hp hc
  cases e : H p with
  | none => rfl
  | some z => exact absurd h0 (A01.kp p (by rw [e]; exact fun z => nomatch z))
/-- o[e] of a frozen thing -/
theorem e_ixOX {Cl : Addr} {s : FK γ} {ri : R α} {r : R β} {g : γ × α → (β → Prop) → (ε' → Prop) → Prop} {te ti : TE} {f : (γ → Prop) → Prop} {f2 : (α → Prop) → Prop} (O : Out b gx x kx W) (hg : gx G) (hj : XSub x' x j) (he : E b G te (rIns Cl s) f) (h : E b G ti ri f2) :
    E b G (tIxO Cl (spX (rCons (rIns Cl s) (rOne ri)) r x' g) (WE W) te ti) r (fun k => f fun y => f2 fun x => g (y, x) k fun e => kx (j e)) := fun σ F H Q k V q w => by
  refine he _ V q ?_
  rintro y v F0 H0 q0 A0 V0 ⟨p, dx, fs, rfl, hp, hs⟩
  refine h _ V0 q0 ?_
  intro x v F1 H1 q1 A1 V1 r1
  have hp1 := A1.ff _ _ hp
  exact ⟨p, rfl, ⟨dx, fs, V1.fh _ _ hp1⟩, (y, x), F1, k, fun e => kx (j e), V1.fh, ⟨.ref p, [v], rfl, ⟨p, dx, fs, rfl, hp1, s.ex A1.ff hs⟩, ⟨v, rfl, r1⟩⟩, q1, fun z v F2 H2 q2 A2 r2 => w z v F2 H2 q2 ((A0.trans A1).trans (A2.mono fun _ h => nomatch h)) (V1.step A2) r2,
    fun e cls d F2 H2 q2 A2 hx => O hg q2 (V1.step A2) (hj _ _ _ _ hx)⟩
theorem e_callOX0 {Cl : Addr} {s : FK γ} {si : RI α} {r : R β} {g : γ × α → (β → Prop) → (ε' → Prop) → Prop} {Ek : L2.St → XK} {te : TE} {ta : TA} {f : (γ → Prop) → Prop} {f2 : (α → Prop) → Prop} (he : E b G te (rIns Cl s) f) (h : Ar b G ta si f2) :
    E b G (tCallOS Cl (spX (rCons (rIns Cl s) si) r x' g) Ek te ta) r (fun k => f fun y => f2 fun x => g (y, x) k fun _ => False) := fun σ F H Q k V q w => by
  refine he _ V q ?_
  rintro y v F0 H0 q0 A0 V0 ⟨p, dx, fs, rfl, hp, hs⟩
  refine ⟨p, rfl, ?_⟩
  refine h _ V0 q0 ?_
  intro x vs F1 H1 q1 A1 V1 r1
  have hp1 := A1.ff _ _ hp
  exact ⟨⟨dx, fs, V1.fh _ _ hp1⟩, (y, x), F1, k, fun _ => False, V1.fh, ⟨.ref p, vs, rfl, ⟨p, dx, fs, rfl, hp1, s.ex A1.ff hs⟩, r1⟩, q1, fun z v F2 H2 q2 A2 r2 => w z v F2 H2 q2 ((A0.trans A1).trans (A2.mono fun _ h => nomatch h)) (V1.step A2) r2,
    fun e cls d F2 H2 q2 => q2.elim⟩
theorem enc_callOX0 {Cl : Addr} {s : FK γ} {si : RI α} {c : C β} {g : γ × α → (β → Prop) → (ε' → Prop) → Prop} {Ek : L2.St → XK} {te : TE} {ta : TA} {f : (γ → Prop) → Prop} {f2 : (α → Prop) → Prop} (he : E b G te (rIns Cl s) f) (h : Ar b G ta si f2) :
    ENc b G (tCallOS Cl (spXO (rCons (rIns Cl s) si) c x' g) Ek te ta) c (fun k => f fun y => f2 fun x => g (y, x) k fun _ => False) := fun σ F H Q k V q w => by
  refine he _ V q ?_
  rintro y v F0 H0 q0 A0 V0 ⟨p, dx, fs, rfl, hp, hs⟩
  refine ⟨p, rfl, ?_⟩
  refine h _ V0 q0 ?_
  intro x vs F1 H1 q1 A1 V1 r1
  have hp1 := A1.ff _ _ hp
  refine ⟨⟨dx, fs, V1.fh _ _ hp1⟩, (y, x), F1, k, fun _ => False, V1.fh, ⟨.ref p, vs, rfl, ⟨p, dx, fs, rfl, hp1, s.ex A1.ff hs⟩, r1⟩, q1, fun y v F2 H2 q2 A2 ⟨p, u, e, h0, fp, hp, hc⟩ => ?_, fun e cls d F2 H2 q2 => q2.elim⟩
  subst e
  have A01 := A0.trans A1
  refine w y p u F2 H2 q2 (A01.trans (A2.mono fun _ h => nomatch h)) (V1.step A2) ?_ fp hp hc
  cases e : H p with
  | none => rfl
  | some z => exact absurd h0 (A01.kp p (by rw [e]; exact fun z => nomatch z))
theorem e_ixOX0 {Cl : Addr} {s : FK γ} {ri : R α} {r : R β} {g : γ × α → (β → Prop) → (ε' → Prop) → Prop} {Ek : L2.St → XK} {te ti : TE} {f : (γ → Prop) → Prop} {f2 : (α → Prop) → Prop} (he : E b G te (rIns Cl s) f) (h : E b G ti ri f2) :
    E b G (tIxO Cl (spX (rCons (rIns Cl s) (rOne ri)) r x' g) Ek te ti) r (fun k => f fun y => f2 fun x => g (y, x) k fun _ => False) := fun σ F H Q k V q w => by
  refine he _ V q ?_
  rintro y v F0 H0 q0 A0 V0 ⟨p, dx, fs, rfl, hp, hs⟩
  refine h _ V0 q0 ?_
  intro x v F1 H1 q1 A1 V1 r1
  have hp1 := A1.ff _ _ hp
  exact ⟨p, rfl, ⟨dx, fs, V1.fh _ _ hp1⟩, (y, x), F1, k, fun _ => False, V1.fh, ⟨.ref p, [v], rfl, ⟨p, dx, fs, rfl, hp1, s.ex A1.ff hs⟩, ⟨v, rfl, r1⟩⟩, q1, fun z v F2 H2 q2 A2 r2 => w z v F2 H2 q2 ((A0.trans A1).trans (A2.mono fun _ h => nomatch h)) (V1.step A2) r2,
    fun e cls d F2 H2 q2 => q2.elim⟩
/-- a method of a frozen thing that may let an error out -/
theorem e_methVX {Cl : Addr} {s : FK γ} {m : Str} {si : RI α} {r : R β} {g : γ × α → (β → Prop) → (ε' → Prop) → Prop} {te : TE} {ta : TA} {f : (γ → Prop) → Prop} {f2 : (α → Prop) → Prop} (O : Out b gx x kx W) (hg : gx G) (hj : XSub x' x j) (hm : m ∉ s.ns) (he : E b G te (rIns Cl s) f) (h : Ar b G ta si f2) :
    E b G (tMethS Cl m (spX (rCons (rIns Cl s) si) r x' g) (WE W) te ta) r (fun k => f fun y => f2 fun x => g (y, x) k fun e => kx (j e)) := fun σ F H Q k V q w => by
  refine he _ V q ?_
  rintro y v F0 H0 q0 A0 V0 ⟨p, dx, fs, rfl, hp, hs⟩
  refine ⟨p, dx, fs, rfl, V0.fh _ _ hp, fk_no hm hs, ?_⟩
  refine h _ V0 q0 ?_
  intro x vs F1 H1 q1 A1 V1 r1
  exact ⟨(y, x), F1, k, fun e => kx (j e), V1.fh, ⟨.ref p, vs, rfl, ⟨p, dx, fs, rfl, A1.ff _ _ hp, s.ex A1.ff hs⟩, r1⟩, q1, fun z v F2 H2 q2 A2 r2 => w z v F2 H2 q2 ((A0.trans A1).trans (A2.mono fun _ h => nomatch h)) (V1.step A2) r2, fun e cls d F2 H2 q2 A2 hx => O hg q2 (V1.step A2) (hj _ _ _ _ hx)⟩
theorem e_methVX0 {Cl : Addr} {s : FK γ} {m : Str} {si : RI α} {r : R β} {g : γ × α → (β → Prop) → (ε' → Prop) → Prop} {Ek : XK} {te : TE} {ta : TA} {f : (γ → Prop) → Prop} {f2 : (α → Prop) → Prop} (hm : m ∉ s.ns) (he : E b G te (rIns Cl s) f) (h : Ar b G ta si f2) :
    E b G (tMeth Cl m (spX (rCons (rIns Cl s) si) r x' g) [] Ek te ta) r (fun k => f fun y => f2 fun x => g (y, x) k fun _ => False) := fun σ F H Q k V q w => by
  refine he _ V q ?_
  rintro y v F0 H0 q0 A0 V0 ⟨p, dx, fs, rfl, hp, hs⟩
  refine ⟨p, dx, fs, rfl, V0.fh _ _ hp, fk_no hm hs, ?_⟩
  refine h _ V0 q0 ?_
  intro x vs F1 H1 q1 A1 V1 r1
  show spX _ r x' g (.ref p :: (vs ++ [])) H1 _ _
  rw [List.append_nil]
  exact ⟨(y, x), F1, k, fun _ => False, V1.fh, ⟨.ref p, vs, rfl, ⟨p, dx, fs, rfl, A1.ff _ _ hp, s.ex A1.ff hs⟩, r1⟩, q1, fun z v F2 H2 q2 A2 r2 => w z v F2 H2 q2 ((A0.trans A1).trans (A2.mono fun _ h => nomatch h)) (V1.step A2) r2, fun e cls d F2 H2 q2 => q2.elim⟩
/-- len(o) of a frozen thing -/
theorem e_lenOV {Cl : Addr} {s : FK γ} {g : γ → (Int → Prop) → Prop} {te : TE} {f : (γ → Prop) → Prop} (he : E b G te (rIns Cl s) f) :
    E b G (tCB (rLenO Cl (spP (rOne (rIns Cl s)) rInt g)) (tCons te tNil)) rInt (fun k => f fun y => g y fun n => (0 ≤ n ∧ n < 2 ^ 63) ∧ k n) := fun σ F H Q k V q w => by
  refine he _ V q ?_
  rintro y v F0 H0 q0 A0 V0 ⟨p, dx, fs, rfl, hp, hs⟩
  refine ⟨p, rfl, ⟨dx, fs, V0.fh _ _ hp⟩, y, F0, _, V0.fh, ⟨.ref p, rfl, ⟨p, dx, fs, rfl, hp, hs⟩⟩, q0, fun z v F2 H2 q2 A2 r2 => ?_⟩
  obtain ⟨⟨h0, h1⟩, q3⟩ := q2
  exact ⟨z, r2, h0, h1, w z (.int z) F2 H2 q3 (A0.trans (A2.mono fun _ h => nomatch h)) (V0.step A2) rfl⟩
/-- a tuple that has no dict of its own -/
def rTupD (K : PySem.W.Frag) {α : Type} (r : R α) : R (List α) := ⟨fun xs v F => ∃ p o vs, v = .ref p ∧ F p = some (.frz o (.tup vs)) ∧ o.cls = .type "tuple" ∧ o.dict = none ∧ All r F xs vs, fun e ⟨p, o, vs, h1, h2, h3, h4, h5⟩ => ⟨p, o, vs, h1, e _ _ h2, h3, h4, h5.ex e⟩⟩
theorem e_unD {te : TE} {r : R α} {f : (List α → Prop) → Prop} (he : E b G te (rTupD K r) f) : E b G te (rTup K r) f := fun σ F H Q k V q w => by
  refine he _ V q ?_
  rintro xs v F0 H0 q0 A0 V0 ⟨p, o, vs, rfl, hp, hc, hd, hk⟩
  exact w xs _ F0 H0 q0 A0 V0 ⟨p, vs, rfl, .inl (.inr ⟨o, hp⟩), hk⟩
theorem nn_tupD {r : R α} : NN (rTupD K r) := fun ⟨p, o, vs, h1, _⟩ => by rw [h1]; exact fun z => nomatch z
theorem e_tupLD {te : TE} {r : R α} {f : (List α → Prop) → Prop} (h : LV b G te r f) : E b G (tCB (rTupQD K) (tCons te tNil)) (rTupD K r) f := fun _ _ _ _ k V q w => by
  refine h _ V q ?_
  intro xs p F1 H1 q1 A1 V1 z
  obtain ⟨vs, h1, h2⟩ := z F1 H1 (Ex.refl _) V1
  refine ⟨p, vs, rfl, SqL.of h1, fun l o hl hd hc => ?_⟩
  have B := After.new (o := .frz o (.tup vs)) V1.fh hl
  exact w xs _ _ _ q1 (A1.trans (B.mono fun _ h => nomatch h)) (V1.step B) ⟨l, o, vs, rfl, upd_same, hc, hd, h2.ex B.ff⟩
/-- t.index(x), t a tuple of texts -/

def IdxOf (ys : List Str) (z : Str) (j : Nat) : Prop := ys[j]? = some z ∧ ∀ m, m < j → ys[m]? ≠ some z
theorem e_idxT {te ti : TE} {f : (List Str → Prop) → Prop} {f2 : (Str → Prop) → Prop} (he : E b G te (rTupD K rStr) f) (h : E b G ti rStr f2) :
    E b G (tBMD (rTIdx K) te (tCons ti tNil)) rInt (fun k => f fun ys => f2 fun z => ∃ j, IdxOf ys z j ∧ k ((j : Nat) : Int)) := fun σ F H Q k V q w => by
  refine he _ V q ?_
  rintro ys v F0 H0 q0 A0 V0 ⟨p, o, vs, rfl, hp, hc, hd, hk⟩
  refine ⟨⟨p, o, vs, rfl, V0.fh _ _ hp, hc, hd⟩, ?_⟩
  refine h _ V0 q0 ?_
  rintro z v F1 H1 q1 A1 V1 rfl
  obtain ⟨jj, ⟨h1, h2⟩, q2⟩ := q1
  refine ⟨p, ys, z, jj, rfl, rfl, ?_, h1, h2, w _ _ F1 H1 q2 (A0.trans A1) V1 rfl⟩
  have := map_str hk
  rw [← this]
  exact .inl (.inr ⟨o, V1.fh _ _ (A1.ff _ _ hp)⟩)
end
end Mi
/-! Mir29 -/
set_option Elab.async false
set_option linter.all false
set_option maxRecDepth 100000
set_option maxHeartbeats 4000000
/-! defs that give a pair: a new own thing and a value -/
namespace Mi
open PySem PySem.Spec L2 Dh
open _root_.Evl (Ex)
section
variable {K : PySem.W.Frag} {b : Bs} {G Gx : List Sl} {α β γ γ' δ τ τ' ρ ε ε' θ : Type} {Gn : τ → List Sl} {Gl : θ → List Sl} {ro : ρ → V → Hp → Hp → Prop} {σ : L2.St} {F H F' H' : Hp} {x : Xp ε} {x' : Xp ε'} {j : ε' → ε} {gx : List Sl → Prop} {kx : ε → Prop} {W : WX}
def RTh (H0 : Hp) (c : C β) (r : R γ) (y : β × γ) (v : V) (F H : Hp) : Prop := ∃ q p w u, v = .ref q ∧ F q = some (.tup [.ref p, w]) ∧ H0 p = none ∧ F p = none ∧ H p = some u ∧ c.h y.1 u F ∧ r.h y.2 w F
def RT2 (b : Bs) (c : C β) (r : R γ) : β × γ → V → Hp → Hp → Prop := RTh b.H c r
def spXT (s : RI α) (c : C β) (r : R γ) (x : Xp ε) (g : α → (β × γ → Prop) → (ε → Prop) → Prop) : Sp := fun vs H Q E => ∃ (a : α) (F : Hp) (k : β × γ → Prop) (kx : ε → Prop), Ex F H ∧ s.h a vs F ∧ g a k kx ∧
  (∀ y v F' H', k y → After F H [] F' H' → RTh H c r y v F' H' → Q v H') ∧ (∀ e cls d F' H', kx e → After F H [] F' H' → x.h e cls d F' → E cls d H')
theorem spXT_len {s : RI α} {c : C β} {r : R γ} {x : Xp ε} {g : α → (β × γ → Prop) → (ε → Prop) → Prop} {vs : List V} {Q : VK} {Ek : XK} (h : spXT s c r x g vs H Q Ek) : vs.length = s.n := by
  obtain ⟨a, F, k, kx, _, hs, _⟩ := h; exact s.ln hs
theorem run_XT {s : RI α} {c : C β} {r : R γ} {x : Xp ε} {g : α → (β × γ → Prop) → (ε → Prop) → Prop} {N : List Str} {m : Nat} {t : TS} {vs : List V} {Q : VK} {Ek : XK} {Gn : Bs → α → τ → List Sl} {f : α → (ε → Prop) → Pd τ Unit (β × γ) → Prop} (h : spXT s c r x g vs H Q Ek) (hN : N.length = s.n + m)
    (hS : ∀ b a kx, b.M = [] → Out b (fun _ => True) x kx (fun cls d _ H => Ek cls d H) → S b (s.sl a ++ List.replicate m any) t (Gn b a) (fun _ : Unit => []) (RT2 b c r) (f a kx)) (hg : ∀ a k kx, g a k kx → f a kx ⟨fun _ => False, fun _ => False, fun _ => False, k⟩) :
    t { nx := fun _ H' => Q .non H', rt := Q } (L2.start N vs) H := by
  obtain ⟨a, F, k, kx, e, hs, q, w, wx⟩ := h
  exact S.go (hS ⟨F, H, [], fun _ h => nomatch h⟩ a kx rfl (fun G e cls d σ F' H' _ q' V' hx => wx e cls d F' H' q' V'.after hx)) (L2.start N vs) F H _ ⟨fun _ => False, fun _ => False, fun _ => False, k⟩ (start_env e hs hN) (hg a k kx q) (fun _ _ _ _ h => h.elim) (fun _ _ _ _ h => h.elim) (fun _ _ _ _ h => h.elim) (fun y v F' H' hk A hr => w y v F' H' hk A hr)
/-- return xs, e -/
theorem s_retT2 {c : C β} {r : R γ} {a : β} {i : Nat} {p : Addr} {te : TE} {f : (γ → Prop) → Prop} (hi : G[i]? = some (own p c a)) (hm : p ∉ b.M) (he : E b G te r f) :
    S b G (tRet (tTup (tCons (tVar i) (tCons te tNil)))) Gn Gl (RT2 b c r) (fun d => f fun y => d.rt (a, y)) := fun σ F H D d V h _ _ _ w4 => by
  obtain ⟨o, h1, rfl, _, _, _⟩ := V.hold.at_ hi
  refine ⟨.ref p, h1, ?_⟩
  refine he _ V h ?_
  intro y w F1 H1 q1 A1 V1 r1
  refine ⟨by show 2 ≤ sizeLine; decide, fun q hq => ?_⟩
  have B := After.new (o := .tup [.ref p, w]) V1.fh hq
  have V2 := V1.step B
  obtain ⟨_, _, e2, u, hu, hc⟩ := V2.hold.at_ hi
  obtain ⟨f1, f2⟩ := V2.on p (mem_owns hi List.mem_cons_self)
  exact w4 (a, y) _ _ _ q1 V2.after ⟨q, p, w, u, rfl, upd_same, f2.resolve_left hm, f1, hu, hc, r.ex B.ff r1⟩
/-- an expression that gives such a pair -/
def ET (b : Bs) (G : List Sl) (te : TE) (c : C β) (r : R γ) (f : (β × γ → Prop) → Prop) : Prop := ∀ ⦃σ : L2.St⦄ ⦃F H : Hp⦄ ⦃Q : VK⦄ (k : β × γ → Prop), Env b G σ F H → f k →
  (∀ y v F' H', k y → After F H (owns G) F' H' → Env b G σ F' H' → RTh H c r y v F' H' → Q v H') → te σ H Q
theorem et_call {s : RI α} {c : C β} {r : R γ} {g : α → (β × γ → Prop) → (ε' → Prop) → Prop} {ta : TA} {f : (α → Prop) → Prop} (O : Out b gx x kx W) (hg : gx G) (hj : XSub x' x j) (h : Ar b G ta s f) :
    ET b G (tCallS (spXT s c r x' g) (WE W) ta) c r (fun k => f fun a => g a k fun e => kx (j e)) := fun σ F H Q k V q w => by
  refine h _ V q ?_
  intro a vs F1 H1 q1 A1 V1 r1
  refine ⟨a, F1, k, fun e => kx (j e), V1.fh, r1, q1, fun y v F2 H2 q2 A2 hr => ?_, fun e cls d F2 H2 q2 A2 hx => O hg q2 (V1.step A2) (hj _ _ _ _ hx)⟩
  obtain ⟨q, p, w', u, e1, e2, e3, e4, e5, e6, e7⟩ := hr
  refine w y v F2 H2 q2 (A1.trans (A2.mono fun _ h => nomatch h)) (V1.step A2) ⟨q, p, w', u, e1, e2, ?_, e4, e5, e6, e7⟩
  cases e : H p with
  | none => rfl
  | some z => exact absurd e3 (A1.kp p (by rw [e]; exact fun z => nomatch z))
theorem et_call0 {s : RI α} {c : C β} {r : R γ} {g : α → (β × γ → Prop) → (ε' → Prop) → Prop} {Ek : XK} {ta : TA} {f : (α → Prop) → Prop} (h : Ar b G ta s f) :
    ET b G (tCall (spXT s c r x' g) [] Ek ta) c r (fun k => f fun a => g a k fun _ => False) := fun σ F H Q k V q w => by
  refine h _ V q ?_
  intro a vs F1 H1 q1 A1 V1 r1
  show spXT s c r x' g (vs ++ []) H1 _ _
  rw [List.append_nil]
  refine ⟨a, F1, k, fun _ => False, V1.fh, r1, q1, fun y v F2 H2 q2 A2 hr => ?_, fun e cls d F2 H2 q2 => q2.elim⟩
  obtain ⟨q, p, w', u, e1, e2, e3, e4, e5, e6, e7⟩ := hr
  refine w y v F2 H2 q2 (A1.trans (A2.mono fun _ h => nomatch h)) (V1.step A2) ⟨q, p, w', u, e1, e2, ?_, e4, e5, e6, e7⟩
  cases e : H p with
  | none => rfl
  | some z => exact absurd e3 (A1.kp p (by rw [e]; exact fun z => nomatch z))
/-- .. [0]: the own thing -/
theorem enc_t0 {te : TE} {c : C β} {r : R γ} {f : (β × γ → Prop) → Prop} (h : ET b G te c r f) : ENc b G (tOp (rIxT K) te (tC (.int 0))) c (fun k => f fun y => k y.1) := fun σ F H Q k V q w => by
  refine h _ V q ?_
  rintro y v F1 H1 q1 A1 V1 ⟨t, p, w', u, rfl, e2, e3, e4, e5, e6, e7⟩
  exact ⟨t, _, 0, .ref p, rfl, rfl, SqT.of (V1.fh _ _ e2), rfl, w y.1 p u F1 H1 q1 A1 V1 e3 e4 e5 e6⟩
/-- .. [1]: the value -/
theorem e_t1 {te : TE} {c : C β} {r : R γ} {f : (β × γ → Prop) → Prop} (h : ET b G te c r f) : E b G (tOp (rIxT K) te (tC (.int 1))) r (fun k => f fun y => k y.2) := fun σ F H Q k V q w => by
  refine h _ V q ?_
  rintro y v F1 H1 q1 A1 V1 ⟨t, p, w', u, rfl, e2, e3, e4, e5, e6, e7⟩
  exact ⟨t, _, 1, w', rfl, rfl, SqT.of (V1.fh _ _ e2), rfl, w y.2 w' F1 H1 q1 A1 V1 e7⟩
end
end Mi
/-! Mir30 -/
set_option Elab.async false
set_option linter.all false
set_option maxRecDepth 100000
set_option maxHeartbeats 4000000
/-! dict comprehensions; f-strings -/
namespace Mi
open PySem PySem.Spec L2 Dh
open _root_.Evl (Ex)
section
variable {K : PySem.W.Frag} {b : Bs} {G Gx : List Sl} {α β γ γ' δ τ τ' ρ ε ε' θ κ : Type} {Gn : τ → List Sl} {Gl : θ → List Sl} {ro : ρ → V → Hp → Hp → Prop} {σ : L2.St} {F H F' H' : Hp}
def DcG (n : Nat) (G : Hp → Prop) (Y : Nat → Hp → V → Hp → Prop) (g : TG) (tt : TT) (tk te : TE) (vs : List Nat) (σ : L2.St) (H1 : Hp) (Q : VK) : Prop :=
  ∀ Dl, H1 Dl = none → ∃ Pv : Nat → Hp → Prop, Pv 0 (upd H1 Dl (.dK [])) ∧ (∀ i H, i ≤ n → Pv i H → G H) ∧
    (∀ i x H H', i < n → Pv i H → Y i H x H' → g x (wipe σ vs) H' fun σ2 H2 => wipe σ2 vs = wipe σ vs ∧ tt σ2 H2 fun b H3 =>
      if b = true then tk σ2 H3 fun y H4 => te σ2 H4 fun z H5 => ∃ kvs k, y = kV k ∧ H5 Dl = some (.dK kvs) ∧ kvs.length < sizeLine ∧ Pv (i + 1) (upd H5 Dl (.dK (putK kvs k z))) else Pv (i + 1) H3) ∧ ∀ H, Pv n H → Q (.ref Dl) H
def RawD (J : It) (g : TG) (tt : TT) (tk te : TE) (vs : List Nat) (σ : L2.St) (H1 : Hp) (Q : VK) : Prop := ∀ D, H1 D = none → ∃ W : Nat → Nat → Hp → Prop, (∃ m, W 0 m (upd H1 D (.dK []))) ∧ ∀ i m H, W i m H →
  (J.stop i H ∧ Q (.ref D) H) ∨ (J.go i H ∧ ∃ Nx : Hp → Prop, (∀ H', Nx H' → ∃ m', m' < m ∧ W (i + 1) m' H') ∧ ∀ x H', J.yld i H x H' → g x (wipe σ vs) H' fun σ2 H2 => wipe σ2 vs = wipe σ vs ∧ tt σ2 H2 fun b H3 =>
    if b = true then tk σ2 H3 fun y H4 => te σ2 H4 fun z H5 => ∃ kvs k, y = kV k ∧ H5 D = some (.dK kvs) ∧ kvs.length < sizeLine ∧ Nx (upd H5 D (.dK (putK kvs k z))) else Nx H3)
theorem raw_d {J : It} {n : Nat} {G : Hp → Prop} {Y : Nat → Hp → V → Hp → Prop} {g : TG} {tt : TT} {tk te : TE} {vs : List Nat} {H : Hp} {Q : VK} (w : Walk J n G Y) (k : DcG n G Y g tt tk te vs σ H Q) : RawD J g tt tk te vs σ H Q := fun Dl hD => by
  obtain ⟨Pv, p0, hG, hs, hd⟩ := k Dl hD
  refine ⟨fun i m H => m = n - i ∧ i ≤ n ∧ Pv i H, ⟨n, by simp, Nat.zero_le _, p0⟩, ?_⟩
  rintro i m H ⟨rfl, hi, p⟩
  have q := hG i H hi p
  by_cases hlt : i < n
  · refine .inr ⟨w.goes i H hlt q, Pv (i + 1), fun H' p' => ⟨n - (i + 1), by omega, rfl, hlt, p'⟩, fun x H' y => hs i x H H' hlt p (w.yields i H x H' hlt q y)⟩
  · have e : i = n := by omega
    subst e
    exact .inl ⟨w.stops H q, hd H p⟩
theorem paired_lenD {α β : Type} {R : α → β → Prop} {xs : List α} {ys : List β} (h : Paired R xs ys) : xs.length = ys.length := by
  induction h with
  | nil => rfl
  | cons _ _ ih => rw [List.length_cons, List.length_cons, ih]
theorem dput_len' [DecidableEq κ] {d : List (κ × α)} {a : κ} {v : α} : (dPut d a v).length ≤ d.length + 1 := by
  unfold dPut
  split
  · rw [List.length_map]; omega
  · simp
theorem enc_dcomp [DecidableEq κ] {ke : κ → Key} {wi : TI} {g : TG} {tt : TT} {tk te : TE} {vs : List Nat} {r : R α} {rk : R κ} {rb : R β} {up : α → List Sl → List Sl} {fw : (List α → Prop) → Prop} {ft : α → (Bool → Prop) → Prop} {fk : α → (κ → Prop) → Prop} {fe : α → (β → Prop) → Prop}
    (inj : ∀ a c, ke a = ke c → a = c) (hkey : ∀ a v F, rk.h a v F → v = kV (ke a)) (hw : Wk b G wi r fw) (hg : Tg g r up vs) (hG : wipeG G vs = G) (ht : ∀ a, Tt b (up a G) tt (ft a)) (hk : ∀ a, E b (up a G) tk rk (fk a)) (he : ∀ a, E b (up a G) te rb (fe a)) :
    ENc b G (tDc wi g tt tk te vs) (cDct ke rb) (fun k => fw fun xs => xs.length ≤ sizeLine ∧ compP xs (fun a acc n => ft a fun c => (c = true → fk a fun x => fe a fun y => n (dPut acc x y)) ∧ (c = false → n acc)) k) :=
  fun σ F H Q k V q w => by
    refine hw _ V q ?_
    intro xs J F1 H1 q1 A1 V1 ⟨Gs, Y, hW, hGs, hY⟩ 
    obtain ⟨hl, I, i0, it, id⟩ := q1
    have hlen : G.length = σ.length := V.hold.len
    refine raw_d hW fun Dl hD => ?_
    have fD : F1 Dl = none := ex_none V1.fh hD
    have B0 := After.fresh (o := .dK []) V1.fh hD []
    refine ⟨fun i H2 => ∃ acc ws F2, I i acc ∧ acc.length ≤ i ∧ After F1 H1 (owns G) F2 H2 ∧ Env b G σ F2 H2 ∧ F2 Dl = none ∧ H2 Dl = some (.dK ws) ∧ KV' ke rb F2 acc ws, ⟨[], [], F1, i0, Nat.le_refl _, After.fresh V1.fh hD _, V1.step B0, fD, upd_same, .nil⟩, fun i H2 _ ⟨_, _, F2, _, _, A2, V2, _⟩ => hGs _ (A2.ff.trans V2.fh), fun i v H2 H3 hi ⟨acc, ws, F2, hacc, hle, A2, V2, fD2, hD2, hAl⟩ y => ?_, fun H2 ⟨acc, ws, F2, hacc, hle, A2, V2, fD2, hD2, hAl⟩ => ?_⟩
    · obtain ⟨a, F3, ha, A3, hr⟩ := hY i v F2 H2 H3 hi A2.ff V2.fh y
      have V3 := V2.step A3
      have hw3 := V3.wipe vs
      rw [hG] at hw3
      have fD3 : F3 Dl = none := A3.nf _ fD2 (by rw [hD2]; exact fun z => nomatch z)
      have hD3 : H3 Dl = some (.dK ws) := A3.hh _ _ (by simp) hD2
      refine hg.2 hr hw3 fun σ3 V4 ew => ?_
      have nD : Dl ∉ owns (up a G) := fun z => by
        have := V.hold.live Dl ((hg.1 a G).1 _ z)
        exact this (by
          cases e : H Dl with
          | none => rfl
          | some u => exact absurd hD (A1.kp Dl (by rw [e]; exact fun z => nomatch z)))
      have eqw : wipe (wipe σ vs) vs = wipe σ vs := wipe_wipe
      have back : ∀ F5 H5, After F3 H3 (owns (up a G)) F5 H5 → Env b (up a G) σ3 F5 H5 → Env b G σ F5 H5 ∧ F5 Dl = none ∧ H5 Dl = some (.dK ws) ∧ After F1 H1 (owns G) F5 H5 := fun F5 H5 A5 V5 => by
        have W := V5.wipe vs
        rw [(hg.1 a G).2, hG, ew, eqw] at W
        rw [← hG] at W
        have W2 := W.unwipe (by rw [hG]; exact hlen)
        rw [hG] at W2
        exact ⟨W2, A5.nf _ fD3 (by rw [hD3]; exact fun z => nomatch z), A5.hh _ _ nD hD3, (A2.trans (A3.mono fun _ h => nomatch h)).trans (A5.mono fun p hp => (hg.1 a G).1 p hp)⟩
      refine ⟨ew.trans eqw, ?_⟩
      have hn : acc.length < sizeLine := by omega
      refine ht a _ V4 (it i a acc ha hacc) fun c F4 H4 q4 A4 V5 => ?_
      cases c with
      | true =>
        refine iteT (hk a _ V5 (q4.1 rfl) fun kk vk F6 H6 q6 A6 V7 r6 => he a _ V7 q6 fun y v5 F5 H5 q5 A5 V6 r5 => ?_)
        obtain ⟨W, f5, h5, B5⟩ := back F5 H5 (A4.trans (A6.trans A5)) V6
        have hAl5 := hAl.ex (A3.ff.trans (A4.ff.trans (A6.ff.trans A5.ff)))
        have lw : acc.length = ws.length := paired_lenD hAl
        have dl : (dPut acc kk y).length ≤ acc.length + 1 := dput_len'
        refine ⟨ws, ke kk, hkey _ _ _ r6, h5, by omega, dPut acc kk y, putK ws (ke kk) v5, F5, q5, by omega, ?_, ?_, f5, upd_same, hAl5.put inj r5⟩
        all_goals have hD1 : H1 Dl = none := hD
        all_goals have n1 : ∀ {x : Addr}, H1 x ≠ none → x ≠ Dl := fun h z => h (by rw [z]; exact hD1)
        · exact ⟨B5.ff, ex_mut f5 B5.fh, fun x o hm hx => by rw [upd_ne (n1 (by rw [hx]; exact fun z => nomatch z))]; exact B5.hh x o hm hx, fun x hx => by rw [upd_ne (n1 hx)]; exact B5.kp x hx, B5.nf⟩
        · refine W.poke (fun z => ?_) f5 ?_
          · exact W.hold.live Dl z |> fun h => (V1.hold.live Dl z) hD
          · cases e : b.H Dl with
            | none => rfl
            | some u => exact absurd hD (V1.kp Dl (by rw [e]; exact fun z => nomatch z))
      | false =>
        obtain ⟨W, f5, h5, B5⟩ := back F4 H4 A4 V5
        exact iteF ⟨acc, ws, F4, q4.2 rfl, by omega, B5, W, f5, h5, hAl.ex (A3.ff.trans A4.ff)⟩
    · refine w acc Dl _ F2 H2 (id acc hacc) (A1.trans A2) V2 ?_ fD2 hD2 ⟨ws, rfl, hAl⟩
      cases e : H Dl with
      | none => rfl
      | some u => exact absurd hD (A1.kp Dl (by rw [e]; exact fun z => nomatch z))
theorem key_str : ∀ (a : Str) v (F : Hp), rStr.h a v F → v = kV (Sum.inr a) := fun _ _ _ h => h
theorem key_int : ∀ (a : Int) v (F : Hp), rInt.h a v F → v = kV (Sum.inl a) := fun _ _ _ h => h
/-! ### f-strings -/
theorem e_fmtS {te : TE} {f : (Str → Prop) → Prop} (h : E b G te rStr f) : E b G (tFmt te) rStr (fun k => f fun y => y.length ≤ sizeLine ∧ k y) := fun _ _ _ _ k V q w => by
  refine h _ V q ?_
  rintro y v F1 H1 q1 A1 V1 rfl
  exact .inl ⟨y, rfl, q1.1, w y _ F1 H1 q1.2 A1 V1 rfl⟩
theorem e_fmtI {te : TE} {f : (Int → Prop) → Prop} (h : E b G te rInt f) : E b G (tFmt te) rStr (fun k => f fun i => i.natAbs.log2 < 1920 ∧ k (Str.ofString (toString i))) := fun _ _ _ _ k V q w => by
  refine h _ V q ?_
  rintro i v F1 H1 q1 A1 V1 rfl
  exact .inr ⟨i, rfl, q1.1, w _ _ F1 H1 q1.2 A1 V1 rfl⟩
def EJ (b : Bs) (G : List Sl) (ts : List TE) (f : Str → (Str → Prop) → Prop) : Prop := ∀ ⦃σ : L2.St⦄ ⦃F H : Hp⦄ ⦃Q : Str → Hp → Prop⦄ (acc : Str) (k : Str → Prop), Env b G σ F H → f acc k →
  (∀ out F' H', k out → After F H (owns G) F' H' → Env b G σ F' H' → Q out H') → tJs ts acc σ H Q
theorem ej_nil : EJ b G [] (fun acc k => k acc) := fun σ F H Q acc k V q w => w acc F H q (.refl V.fh _) V
theorem ej_cons {t : TE} {ts : List TE} {g : (Str → Prop) → Prop} {f : Str → (Str → Prop) → Prop} (he : E b G t rStr g) (h : EJ b G ts f) : EJ b G (t :: ts) (fun acc k => g fun y => (acc ++ y).length ≤ sizeLine ∧ f (acc ++ y) k) := fun σ F H Q acc k V q w => by
  refine he _ V q ?_
  rintro y v F1 H1 q1 A1 V1 rfl
  exact ⟨y, rfl, q1.1, h (acc ++ y) k V1 q1.2 fun out F2 H2 q2 A2 V2 => w out F2 H2 q2 (A1.trans A2) V2⟩
theorem e_joined {ts : List TE} {f : Str → (Str → Prop) → Prop} (h : EJ b G ts f) : E b G (fun σ H Q => tJs ts Str.empty σ H fun out H1 => Q (.str out) H1) rStr (fun k => f Str.empty k) := fun _ _ _ _ k V q w =>
  h Str.empty k V q fun out F1 H1 q1 A1 V1 => w out _ F1 H1 q1 A1 V1 rfl
end
end Mi
/-! Mir31 -/
set_option Elab.async false
set_option linter.all false
set_option maxRecDepth 100000
set_option maxHeartbeats 4000000
/-! list comprehensions with two fors -/
namespace Mi
open PySem PySem.Spec L2 Dh
open _root_.Evl (Ex)
section
variable {K : PySem.W.Frag} {b : Bs} {G Gx : List Sl} {α β γ γ' δ τ τ' ρ ε ε' θ κ : Type} {Gn : τ → List Sl} {Gl : θ → List Sl} {ro : ρ → V → Hp → Hp → Prop} {σ : L2.St} {F H F' H' : Hp}
theorem en_comp2 {wi wi1 : TI} {g g1 : TG} {tt tt1 : TT} {te : TE} {vs vs1 : List Nat} {r : R α} {r1 : R γ} {rb : R β} {up : α → List Sl → List Sl} {up1 : γ → List Sl → List Sl} {fw : (List α → Prop) → Prop} {ft : α → (Bool → Prop) → Prop} {fw1 : α → (List γ → Prop) → Prop} {ft1 : α → γ → (Bool → Prop) → Prop} {fe : α → γ → (β → Prop) → Prop}
    (hw : Wk b G wi r fw) (hg : Tg g r up vs) (hG : wipeG G vs = G) (ht : ∀ a, Tt b (up a G) tt (ft a)) (hw1 : ∀ a, Wk b (up a G) wi1 r1 (fw1 a)) (hg1 : Tg g1 r1 up1 vs1) (hG1 : ∀ a, wipeG (up a G) vs1 = up a G) (ht1 : ∀ a c, Tt b (up1 c (up a G)) tt1 (ft1 a c)) (he : ∀ a c, E b (up1 c (up a G)) te rb (fe a c)) :
    EN b G (tLc2 wi g tt wi1 g1 tt1 te vs vs1) rb (fun k => fw fun xs => compP xs (fun a acc n => ft a fun c => (c = true → fw1 a fun ys => forP ys acc (fun a1 acc1 n1 => ft1 a a1 fun c1 => (c1 = true → fe a a1 fun y => acc1.length < sizeLine ∧ n1 (acc1 ++ [y])) ∧ (c1 = false → n1 acc1)) n) ∧ (c = false → n acc)) k) :=
  fun σ F H Q k V q w => by
    refine hw _ V q ?_
    intro xs J F1 H1 q1 A1 V1 ⟨Gs, Y, hW, hGs, hY⟩ 
    obtain ⟨I, i0, it, id⟩ := q1
    have hlen : G.length = σ.length := V.hold.len
    intro Dl hD
    have fD : F1 Dl = none := ex_none V1.fh hD
    have B0 := After.fresh (o := .lst []) V1.fh hD []
    have hD1 : H1 Dl = none := hD
    have n1 : ∀ {x : Addr}, H1 x ≠ none → x ≠ Dl := fun h z => h (by rw [z]; exact hD1)
    have bD : b.H Dl = none := by
      cases e : b.H Dl with
      | none => rfl
      | some u => exact absurd hD (V1.kp Dl (by rw [e]; exact fun z => nomatch z))
    have hDH : H Dl = none := by
      cases e : H Dl with
      | none => rfl
      | some u => exact absurd hD (A1.kp Dl (by rw [e]; exact fun z => nomatch z))
    have nG : Dl ∉ owns G := fun z => V1.hold.live Dl z hD
    let Pv : Nat → Hp → Prop := fun i H2 => ∃ acc ws F2, I i acc ∧ After F1 H1 (owns G) F2 H2 ∧ Env b G σ F2 H2 ∧ F2 Dl = none ∧ H2 Dl = some (.lst ws) ∧ All rb F2 acc ws
    refine ⟨fun i m H => m = xs.length - i ∧ i ≤ xs.length ∧ Pv i H, ⟨xs.length, by simp, Nat.zero_le _, [], [], F1, i0, After.fresh V1.fh hD _, V1.step B0, fD, upd_same, .nil⟩, ?_⟩
    rintro i m H2 ⟨rfl, hi, hPv⟩
    obtain ⟨acc, ws, F2, hacc, A2, V2, fD2, hD2, hAl⟩ := hPv
    have gs := hGs _ (A2.ff.trans V2.fh)
    by_cases hlt : i < xs.length
    rotate_left
    · have e : i = xs.length := by omega
      subst e
      exact .inl ⟨hW.stops _ gs, w acc Dl ws F2 H2 (id acc hacc) (A1.trans A2) V2 hDH fD2 hD2 hAl⟩
    refine .inr ⟨hW.goes i H2 hlt gs, Pv (i + 1), fun H' p' => ⟨xs.length - (i + 1), by omega, rfl, hlt, p'⟩, fun v H3 y => ?_⟩
    obtain ⟨a, F3, ha, A3, hr⟩ := hY i v F2 H2 H3 hlt A2.ff V2.fh (hW.yields i H2 v H3 hlt gs y)
    have V3 := V2.step A3
    have hw3 := V3.wipe vs
    rw [hG] at hw3
    have fD3 : F3 Dl = none := A3.nf _ fD2 (by rw [hD2]; exact fun z => nomatch z)
    have hD3 : H3 Dl = some (.lst ws) := A3.hh _ _ (by simp) hD2
    have A13 := A2.trans (A3.mono fun _ h => nomatch h)
    refine hg.2 hr hw3 fun σ3 V4 ew => ?_
    have sub : ∀ p ∈ owns (up a G), p ∈ owns G := fun p hp => (hg.1 a G).1 p hp
    have nU : Dl ∉ owns (up a G) := fun z => nG (sub _ z)
    have back : ∀ F5 H5, Env b (up a G) σ3 F5 H5 → Env b G σ F5 H5 := fun F5 H5 V5 => by
      have W := V5.wipe vs
      rw [(hg.1 a G).2, hG, ew, wipe_wipe] at W
      rw [← hG] at W
      have W2 := W.unwipe (by rw [hG]; exact hlen)
      rw [hG] at W2
      exact W2
    refine ⟨ew.trans wipe_wipe, ?_⟩
    refine ht a _ V4 (it i a acc ha hacc) fun c F4 H4 q4 A4 V5 => ?_
    have fD4 : F4 Dl = none := A4.nf _ fD3 (by rw [hD3]; exact fun z => nomatch z)
    have hD4 : H4 Dl = some (.lst ws) := A4.hh _ _ nU hD3
    have A14 := A13.trans (A4.mono sub)
    have hAl4 := hAl.ex (A3.ff.trans A4.ff)
    cases c with
    | false => exact iteF ⟨acc, ws, F4, q4.2 rfl, A14, back _ _ V5, fD4, hD4, hAl4⟩
    | true =>
      refine iteT (hw1 a _ V5 (q4.1 rfl) fun ys J1 F5 H5 q5 A5 V6 ⟨Gs1, Y1, hW1, hGs1, hY1⟩ => ?_)
      obtain ⟨I1, j0, jt, jd⟩ := q5
      have fD5 : F5 Dl = none := A5.nf _ fD4 (by rw [hD4]; exact fun z => nomatch z)
      have hD5 : H5 Dl = some (.lst ws) := A5.hh _ _ nU hD4
      have A15 := A14.trans (A5.mono sub)
      have hlen1 : (up a G).length = σ3.length := V6.hold.len
      let Pw : Nat → Hp → Prop := fun i H2 => ∃ acc ws F2, I1 i acc ∧ Ex F5 F2 ∧ After F1 H1 (owns G) F2 H2 ∧ Env b (up a G) σ3 F2 H2 ∧ F2 Dl = none ∧ H2 Dl = some (.lst ws) ∧ All rb F2 acc ws
      refine ⟨fun i m H => m = ys.length - i ∧ i ≤ ys.length ∧ Pw i H, ⟨ys.length, by simp, Nat.zero_le _, acc, ws, F5, j0, Ex.refl _, A15, V6, fD5, hD5, hAl4.ex A5.ff⟩, ?_⟩
      rintro i1 m1 H6 ⟨rfl, hi1, hPw⟩
      obtain ⟨acc1, ws1, F6, hacc1, x56, A16, V7, fD6, hD6, hAl6⟩ := hPw
      have gs1 := hGs1 _ (x56.trans V7.fh)
      by_cases hlt1 : i1 < ys.length
      rotate_left
      · have e : i1 = ys.length := by omega
        subst e
        exact .inl ⟨hW1.stops _ gs1, acc1, ws1, F6, jd acc1 hacc1, A16, back _ _ V7, fD6, hD6, hAl6⟩
      refine .inr ⟨hW1.goes i1 H6 hlt1 gs1, Pw (i1 + 1), fun H' p' => ⟨ys.length - (i1 + 1), by omega, rfl, hlt1, p'⟩, fun v1 H7 y1 => ?_⟩
      obtain ⟨a1, F7, ha1, A7, hr1⟩ := hY1 i1 v1 F6 H6 H7 hlt1 x56 V7.fh (hW1.yields i1 H6 v1 H7 hlt1 gs1 y1)
      have V8 := V7.step A7
      have hw8 := V8.wipe vs1
      rw [hG1 a] at hw8
      have fD7 : F7 Dl = none := A7.nf _ fD6 (by rw [hD6]; exact fun z => nomatch z)
      have hD7 : H7 Dl = some (.lst ws1) := A7.hh _ _ (by simp) hD6
      refine hg1.2 hr1 hw8 fun σ4 V9 ew1 => ?_
      have sub1 : ∀ p ∈ owns (up1 a1 (up a G)), p ∈ owns G := fun p hp => sub p ((hg1.1 a1 (up a G)).1 p hp)
      have nU1 : Dl ∉ owns (up1 a1 (up a G)) := fun z => nG (sub1 _ z)
      have back1 : ∀ F5 H5, Env b (up1 a1 (up a G)) σ4 F5 H5 → Env b (up a G) σ3 F5 H5 := fun F5 H5 V5 => by
        have W := V5.wipe vs1
        rw [(hg1.1 a1 (up a G)).2, hG1 a, ew1, wipe_wipe] at W
        rw [← hG1 a] at W
        have W2 := W.unwipe (by rw [hG1 a]; exact hlen1)
        rw [hG1 a] at W2
        exact W2
      refine ⟨ew1.trans wipe_wipe, ?_⟩
      refine ht1 a a1 _ V9 (jt i1 a1 acc1 ha1 hacc1) fun c1 F8 H8 q8 A8 V10 => ?_
      have fD8 : F8 Dl = none := A8.nf _ fD7 (by rw [hD7]; exact fun z => nomatch z)
      have hD8 : H8 Dl = some (.lst ws1) := A8.hh _ _ nU1 hD7
      have A18 := (A16.trans (A7.mono fun _ h => nomatch h)).trans (A8.mono sub1)
      have x58 := (x56.trans A7.ff).trans A8.ff
      have hAl8 := hAl6.ex (A7.ff.trans A8.ff)
      cases c1 with
      | false => exact iteF ⟨acc1, ws1, F8, q8.2 rfl, x58, A18, back1 _ _ V10, fD8, hD8, hAl8⟩
      | true =>
        refine iteT (he a a1 _ V10 (q8.1 rfl) fun z v9 F9 H9 q9 A9 V11 r9 => ?_)
        have f9 : F9 Dl = none := A9.nf _ fD8 (by rw [hD8]; exact fun z => nomatch z)
        have h9 : H9 Dl = some (.lst ws1) := A9.hh _ _ nU1 hD8
        have A19 := A18.trans (A9.mono sub1)
        have hAl9 := hAl8.ex A9.ff
        have lw : ws1.length = acc1.length := hAl9.len
        refine ⟨ws1, h9, by rw [lw]; exact q9.1, acc1 ++ [z], ws1 ++ [v9], F9, q9.2, x58.trans A9.ff, ?_, (back1 _ _ V11).poke nU f9 bD, f9, upd_same, Dh.paired_app hAl9 (.cons r9 .nil)⟩
        exact ⟨A19.ff, ex_mut f9 A19.fh, fun x o hm hx => by rw [upd_ne (n1 (by rw [hx]; exact fun z => nomatch z))]; exact A19.hh x o hm hx, fun x hx => by rw [upd_ne (n1 hx)]; exact A19.kp x hx, A19.nf⟩
end
end Mi
/-! Mir32 -/
set_option Elab.async false
set_option linter.all false
set_option maxRecDepth 100000
set_option maxHeartbeats 4000000
/-! join; tuple([.. that changes own things ..]); displays whose items change own things -/
namespace L2
open PySem PySem.Spec PyProof.Rows
section
variable {X : Cx}
theorem ps_setDcN {i : Nat} {y : Str} {py : Pos} {kx vx tg iter : Expr} {ifs : List Expr} {scope : Scope} {own : List (Str × Nat)} {pos spos : Pos} {wi : TI} {g : TG} {tt : TT} {tk tv : TE} (hc : X.calm = true) (hN : X.N.Nodup) (hy : X.N[i]? = some y) (hyl : X.env.scope.names.lookup y = some .local)
    (hsw : swapsWith (.DictComp kx vx [⟨tg, iter, ifs, 0⟩] scope pos) (some (.Name y py)) spos.line X.env = pure true) (hi : PI X tg iter wi) (ok : BlkOk X.N X.env.scope scope own)
    (hg : ∀ (s : Shared) (H : Hp) (C : Addr) (cl : List (Str × Addr)) (fp : List Addr), PG (X.blk s H scope (compEnvC scope cl C X.env) fp) tg g) (ht : ∀ (s : Shared) (H : Hp) (C : Addr) (cl : List (Str × Addr)) (fp : List Addr), PTs (X.blk s H scope (compEnvC scope cl C X.env) fp) ifs tt)
    (hk : ∀ (s : Shared) (H : Hp) (C : Addr) (cl : List (Str × Addr)) (fp : List Addr), PE (X.blk s H scope (compEnvC scope cl C X.env) fp) kx tk)
    (he : ∀ (s : Shared) (H : Hp) (C : Addr) (cl : List (Str × Addr)) (fp : List Addr), PE (X.blk s H scope (compEnvC scope cl C X.env) fp) vx tv) (hs : ∀ x, foldedSetIterable iter X.env x = pure x := by intro _; rfl) :
    PS X (.Assign [.Name y py] (.DictComp kx vx [⟨tg, iter, ifs, 0⟩] scope pos) spos) (tAsg (tDc wi g tt tk tv (own.map (·.2))) (gName i)) := by
  refine ⟨fun pins s σ H D I h => ?_⟩
  rw [exec_Assign_Name_used _ _ _ _ hsw]
  refine wpAny_bind (wpAny_standAt (wpAny_bind ?_))
  rw [arm_evalThenUse_DictComp]
  have h : tDc wi g tt tk tv (own.map (·.2)) σ H (fun x H1 => gName i x σ H1 D.nx) := h
  refine wpAny_bind (thn (dc_core (Qf := fun _ s' => SP X pins D .next s') hc hN I hi ok hg ht hk he hs h fun L C s' m H' I' q hn f => ?_) fun _ s' hq => wpAny_pure (wpAny_pure hq))
  show wpAny _ _ (assign (.Name y py) X.env (.ref L)) _ _ _
  refine wpAny_assign_Name (store_ok2 (v := V.ref L) I' hN hy (.inl hyl) rfl (fun s2 I2 ⟨a, sb, ha⟩ => ?_) (.inr hyl))
  obtain ⟨f0, f1, f2, f3, f4, f5⟩ := f
  have haC : C ≠ a := by
    rcases ha with z | z
    · rw [z]; exact f1
    · exact fun e => f4 y a z e.symm
  exact ⟨m, hn.sameBut sb haC, fun h3 sb3 => ⟨_, H', I2.turned (t' := s2.toks) (fun b o hb e => (sb3.2 b hb).trans e) f0 f1 f3 f4 f5, q⟩⟩
end
end L2
namespace Mi
open PySem PySem.Spec L2 Dh
open _root_.Evl (Ex)
section
variable {K : PySem.W.Frag} {b : Bs} {G Gx : List Sl} {α β γ γ' δ τ τ' ρ ε ε' θ κ : Type} {Gn : τ → List Sl} {Gl : θ → List Sl} {ro : ρ → V → Hp → Hp → Prop} {σ : L2.St} {F H F' H' : Hp}
/-! a target's slots, among more -/
theorem wipe_at {vs : List Nat} {j : Nat} (h : j ∈ vs) : (wipe σ vs)[j]? = if j < σ.length then some none else none := by
  induction vs with
  | nil => nomatch h
  | cons v vs ih =>
    show ((wipe σ vs).set v none)[j]? = _
    by_cases z : v = j
    · subst z
      by_cases hh : v < σ.length
      · rw [List.getElem?_set_self (by rw [wipe_length]; exact hh), if_pos hh]
      · rw [if_neg hh, List.getElem?_eq_none]; rw [List.length_set, wipe_length]; omega
    · rw [List.getElem?_set_ne z]
      exact ih ((List.mem_cons.mp h).resolve_left (fun e => z e.symm))
theorem wipe_more {vs ws : List Nat} {σ' : L2.St} (hs : ∀ i ∈ vs, i ∈ ws) (h : wipe σ' vs = wipe σ vs) : wipe σ' ws = wipe σ ws := by
  have hl : σ'.length = σ.length := by
    have := congrArg List.length h
    rw [wipe_length, wipe_length] at this; exact this
  apply List.ext_getElem?
  intro j
  by_cases m : j ∈ ws
  · rw [wipe_at m, wipe_at m, hl]
  · have m2 : j ∉ vs := fun z => m (hs j z)
    rw [wipe_get_ne m, wipe_get_ne m, ← wipe_get_ne (σ := σ') m2, ← wipe_get_ne (σ := σ) m2, h]
theorem wipeG_len {vs : List Nat} : (wipeG G vs).length = G.length := by
  induction vs with
  | nil => rfl
  | cons v vs ih => show ((wipeG G vs).set v any).length = _; rw [List.length_set, ih]
theorem wipeG_at {vs : List Nat} {j : Nat} (h : j ∈ vs) : (wipeG G vs)[j]? = if j < G.length then some any else none := by
  induction vs with
  | nil => nomatch h
  | cons v vs ih =>
    show ((wipeG G vs).set v any)[j]? = _
    by_cases z : v = j
    · subst z
      by_cases hh : v < G.length
      · rw [List.getElem?_set_self (by rw [wipeG_len]; exact hh), if_pos hh]
      · rw [if_neg hh, List.getElem?_eq_none]; rw [List.length_set, wipeG_len]; omega
    · rw [List.getElem?_set_ne z]
      exact ih ((List.mem_cons.mp h).resolve_left (fun e => z e.symm))
theorem wipeG_ne {vs : List Nat} {j : Nat} (h : j ∉ vs) : (wipeG G vs)[j]? = G[j]? := by
  induction vs with
  | nil => rfl
  | cons v vs ih =>
    show ((wipeG G vs).set v any)[j]? = _
    rw [List.getElem?_set_ne (fun z => h (by rw [z]; exact List.mem_cons_self)), ih (fun z => h (List.mem_cons_of_mem _ z))]
theorem wipeG_more {vs ws : List Nat} {G' : List Sl} (hs : ∀ i ∈ vs, i ∈ ws) (h : wipeG G' vs = wipeG G vs) : wipeG G' ws = wipeG G ws := by
  have hl : G'.length = G.length := by
    have := congrArg List.length h
    rw [wipeG_len, wipeG_len] at this; exact this
  apply List.ext_getElem?
  intro j
  by_cases m : j ∈ ws
  · rw [wipeG_at m, wipeG_at m, hl]
  · have m2 : j ∉ vs := fun z => m (hs j z)
    rw [wipeG_ne m, wipeG_ne m, ← wipeG_ne (G := G') m2, ← wipeG_ne (G := G) m2, h]
theorem tg_more {g : TG} {r : R α} {up : α → List Sl → List Sl} {vs ws : List Nat} (h : Tg g r up vs) (hs : ∀ i ∈ vs, i ∈ ws) : Tg g r up ws :=
  ⟨fun a G => ⟨(h.1 a G).1, wipeG_more hs (h.1 a G).2⟩, fun _ _ _ _ _ _ _ _ hr V k => h.2 hr V fun σ' V' e => k σ' V' (wipe_more hs e)⟩
theorem nn_rtup {r : R α} : NN (rTup K r) := fun ⟨p, vs, h1, _⟩ => by rw [h1]; exact fun z => nomatch z
/-- sep.join(ys) -/
theorem e_joinL {to te : TE} {f : (Str → Prop) → Prop} {g : (List Str → Prop) → Prop} (ho : E b G to rStr f) (h : LV b G te rStr g) : E b G (tM1 (rJoin K) to te) rStr (fun k => f fun a => g fun ys => (ys.map (·.length)).sum + ys.length * a.length ≤ 16777216 ∧ k (Txt.join a ys)) := fun σ F H Q k V q w => by
  refine ho _ V q ?_
  rintro a v F1 H1 q1 A1 V1 rfl
  refine ⟨⟨a, rfl⟩, ?_⟩
  refine h _ V1 q1 ?_
  intro ys p F2 H2 q2 A2 V2 z
  obtain ⟨vs, h1, h2⟩ := z F2 H2 (Ex.refl _) V2
  cases map_str h2
  exact ⟨a, p, ys, rfl, rfl, .inl (SqL.of h1), q2.1, w _ _ F2 H2 q2.2 (A1.trans A2) V2 rfl⟩
/-- x = tuple([..]), the items change own things -/
theorem s_newTS {te : TE} {r : R β} {i : Nat} {Gz : τ → List Sl} {f : (List β × τ → Prop) → Prop} {g : List β → τ → Pd τ' θ ρ → Prop} {t : TS} {Gn : τ' → List Sl} (h : ENL b G te r Gz f) (ht : ∀ acc z, S b ((Gz z).set i (val (rTupD K r) acc)) t Gn Gl ro (g acc z)) :
    S b G (tSeq (tAsg (tCB (rTupQD K) (tCons te tNil)) (gName i)) t) Gn Gl ro (fun d => f fun w => g w.1 w.2 d) := fun σ F H D d V q w1 w2 w3 w4 => by
  refine h _ V q ?_
  intro acc z p vs F1 H1 q1 e1 V1 bp np fp hp hA
  refine ⟨p, vs, rfl, SqL.of hp, fun l o hl hd hc => ?_⟩
  have B := After.new (o := .frz o (.tup vs)) V1.fh hl
  have V2 := V1.step B
  have e2 : Ex F (upd F1 l (.frz o (.tup vs))) := e1.trans B.ff
  exact ht acc z d (V2.set (s := val (rTupD K r) acc) ⟨_, rfl, ⟨l, o, vs, rfl, upd_same, hc, hd, hA.ex B.ff⟩⟩ rfl) q1 (fun y σ2 F2 H2 q2 e3 => w1 y σ2 F2 H2 q2 (e2.trans e3)) (fun y σ2 F2 H2 q2 e3 => w2 y σ2 F2 H2 q2 (e2.trans e3)) (fun y σ2 F2 H2 q2 e3 => w3 y σ2 F2 H2 q2 (e2.trans e3)) w4
/-- [e1, e2], both change own things -/
theorem enl_two {t1 t2 : TE} {r : R β} {G1 : τ → List Sl} {G2 : τ' → List Sl} {f : (β × τ → Prop) → Prop} {f2 : τ → (β × τ' → Prop) → Prop} (h1 : EM b G t1 r G1 f) (h2 : ∀ z, EM b (G1 z) t2 r G2 (f2 z)) :
    ENL b G (tLst (tCons t1 (tCons t2 tNil))) r G2 (fun k => f fun x => f2 x.2 fun y => k ([x.1, y.1], y.2)) := fun σ F H Q k V q w => by
  refine h1 _ V q fun a x v1 F1 H1 q1 e1 V1 r1 => h2 x _ V1 q1 fun c y v2 F2 H2 q2 e2 V2 r2 => ⟨by show 2 ≤ sizeLine; decide, fun p hp => ?_⟩
  have B := After.fresh (o := .lst [v1, v2]) V2.fh hp []
  exact w [a, c] y p [v1, v2] F2 _ q2 (e1.trans e2) (V2.step B) (V2.bnone hp) (fun z => V2.hold.live p z hp) (ex_none V2.fh hp) upd_same (.cons (r.ex e2 r1) (.cons r2 .nil))
/-- list(o), o a frozen thing whose __iter__ gives iter(o.n), o.n a tuple -/
theorem en_listV {Cl : Addr} {s : FK γ} {n : Str} {r : R β} {g : γ → List β} {te : TE} {f : (γ → Prop) → Prop} (hn : FAt s n (rTup K r) g) (he : E b G te (rIns Cl s) f) : EN b G (tCB (rListT K Cl n) (tCons te tNil)) r (fun k => f fun y => k (g y)) := fun σ F H Q k V q w => by
  refine he _ V q ?_
  rintro y v F0 H0 q0 A0 V0 ⟨p, dx, fs, rfl, hp, hs⟩
  obtain ⟨u, hu, l, vs, rfl, hl, hA⟩ := hn hs
  refine ⟨p, dx, l, fs, vs, rfl, V0.fh _ _ hp, hu, _root_.Evl.ex_t V0.fh hl, fun q it hq hit ne => ?_⟩
  have A1 := After.fresh (o := TiE it) V0.fh hit (owns G)
  have V1 := V0.step (After.fresh (o := TiE it) V0.fh hit [])
  have hq1 : upd H0 it (TiE it) q = none := by rw [upd_ne ne]; exact hq
  exact en_lay (A0.trans A1) V1 (k := k) q0 hA w hq1
/-- o.m(), o a frozen thing -/
theorem e_methV0 {Cl : Addr} {s : FK γ} {m : Str} {r : R β} {g : γ → (β → Prop) → Prop} {Ek : XK} {te : TE} {f : (γ → Prop) → Prop} (hm : m ∉ s.ns) (he : E b G te (rIns Cl s) f) :
    E b G (tMeth Cl m (spP (rOne (rIns Cl s)) r g) [] Ek te tNil) r (fun k => f fun y => g y k) := fun σ F H Q k V q w => by
  refine he _ V q ?_
  rintro y v F0 H0 q0 A0 V0 ⟨p, dx, fs, rfl, hp, hs⟩
  refine ⟨p, dx, fs, rfl, V0.fh _ _ hp, fk_no hm hs, ?_⟩
  exact ⟨y, F0, k, V0.fh, ⟨.ref p, rfl, ⟨p, dx, fs, rfl, hp, hs⟩⟩, q0, fun z v F2 H2 q2 A2 r2 => w z v F2 H2 q2 (A0.trans (A2.mono fun _ h => nomatch h)) (V0.step A2) r2⟩
end
end Mi
/-! Mir33 -/
set_option Elab.async false
set_option linter.all false
set_option maxRecDepth 100000
set_option maxHeartbeats 4000000
/-! own dicts whose keys are tuples -/
namespace Dh
open PySem PySem.Spec PyProof.Rows L2
section
variable {X : Cx}
/-- {k: v}, k a tuple that is new -/
def tDisp1T (tk tv : TE) : TE := fun σ H Q => ∀ p, H p = none → tk σ (upd H p (.dT [])) fun y H1 => tv σ H1 fun v H2 => ∃ b k, y = .ref b ∧ H2 b = some (.tup (k.map kV)) ∧ H2 p = some (.dT []) ∧ Q (.ref p) (upd H2 p (.dT [(k, v)]))
theorem pe_disp1T {k v : Expr} {tk tv : TE} {pos : Pos} (hu : X.A.units < cLine) (hk : PE X k tk) (hv : PE X v tv) : PE X (.Dict [some k] [v] pos) (tDisp1T tk tv) := by
  refine ⟨fun pins s σ H Q I q => ?_⟩
  have hn := I.hok.fresh (Nat.le_refl s.heap.objs.size)
  have I1 := I.laid (a := s.heap.objs.size) (o := .dT []) (h' := s.heap.push { cls := .type "dict", data := .dict #[] }) (t' := s.toks) (fun _ _ q => Heap.get?_push_of_some _ q) (Nat.le_refl _) (dt_empty s.heap I.big)
  have q := q _ hn
  rw [arm_eval_Dict, zip_pairTrees [some k] [v] X.env pos (by rfl) (by rfl), dictDisplay_pairs (pairTrees [some k] [v] X.env pos) (by intro z; have := congrArg List.length z; rw [pairTrees_length _ _ _ _ (by rfl) (by rfl)] at this; cases this) (by rw [pairTrees_length _ _ _ _ (by rfl) (by rfl)]; exact Nat.le_of_ble_eq_true rfl)]
  refine wpAny_bind (wpAny_standAt (wpAny_bind (wpAny_subDictH (knd := tupleKind (mixKind X.prog X.w)) (Q := fun d s' => wpAny (model X.prog X.w) X.A (pure (Value.ref d)) _ X.xe s') hu (by rw [pairTrees_length _ _ _ _ (by rfl) (by rfl)]; exact Nat.le_of_ble_eq_true rfl) ?_)))
  refine pairTrees_cons_walk (thn (hk.run pins _ σ _ _ I1 q) fun u s1 ⟨y, H1, I2, ry, q1⟩ => thn (hv.run pins s1 σ H1 _ I2 q1) fun w2 s2 ⟨z, H2, I3, rz, q2⟩ => pairTrees_nil_walk ?_)
  obtain ⟨b, ks, rfl, hb, hp, qq⟩ := q2
  obtain rfl : u = Value.ref b := ry
  obtain ⟨hz, hd, xs, rel, dd⟩ := dt_of I3.hok hp
  cases rel
  refine ⟨[(ks, b, w2)], ⟨rfl, rfl, key_of I3.hok hb, trivial⟩, dd, fun h' tk dd' hs => wpAny_pure ⟨.ref s.heap.objs.size, _, ?_, rfl, qq⟩⟩
  have he : ∃ q, h'.get? s.heap.objs.size = some q := let ⟨q, _, _, hq, _⟩ := dd'; ⟨q, hq⟩
  have ne : b ≠ s.heap.objs.size := fun z => by rw [z, hp] at hb; cases hb
  obtain ⟨o, es, ep, hq, h2, h3, h4, _, h5⟩ := dd'
  refine d_write I3 (by rw [hp]; exact True.intro) hs he ⟨Nat.le_of_ble_eq_true (by rw [sizeLine_eq]; rfl), hd, [(ks, b, w2)], .cons ⟨rfl, ?_, rz⟩ .nil, o, es, ep, hq, h2, h3, h4, h5⟩
  rw [upd_ne ne]; exact hb
end
end Dh
namespace Mi
open PySem PySem.Spec L2 Dh
open _root_.Evl (Ex)
section
variable {K : PySem.W.Frag} {b : Bs} {G Gx : List Sl} {α β γ γ' δ τ τ' ρ ε ε' θ : Type} {Gn : τ → List Sl} {Gl : θ → List Sl} {ro : ρ → V → Hp → Hp → Prop} {σ : L2.St} {F H F' H' : Hp}
def KVt {κ : Type} (ke : κ → List Key) (r : R α) (F : Hp) : List (κ × α) → List (List Key × V) → Prop := Paired fun p q => q.1 = ke p.1 ∧ r.h p.2 q.2 F
theorem KVt.ex {κ : Type} {ke : κ → List Key} {r : R α} (e : Ex F F') {ps : List (κ × α)} {kvs : List (List Key × V)} (h : KVt ke r F ps kvs) : KVt ke r F' ps kvs := Paired.mapP h fun _ _ q => ⟨q.1, r.ex e q.2⟩
def cDctT {κ : Type} (ke : κ → List Key) (r : R α) : C (List (κ × α)) := ⟨fun ps u F => ∃ kvs, u = .dT kvs ∧ KVt ke r F ps kvs, fun e ⟨kvs, h1, h2⟩ => ⟨kvs, h1, h2.ex e⟩⟩
theorem KVt.get {κ : Type} [DecidableEq κ] {ke : κ → List Key} (inj : ∀ a c, ke a = ke c → a = c) {r : R α} {k : κ} {ps : List (κ × α)} {kvs : List (List Key × V)} (h : KVt ke r F ps kvs) : (dGet ps k = none ∧ valV kvs (ke k) = none) ∨ ∃ a v, dGet ps k = some a ∧ valV kvs (ke k) = some v ∧ r.h a v F := by
  induction h with
  | nil => exact .inl ⟨rfl, rfl⟩
  | @cons p q ps qs hpq t ih =>
    by_cases z : p.1 = k
    · refine .inr ⟨p.2, q.2, ?_, ?_, hpq.2⟩
      · simp [dGet, List.find?_cons, z]
      · exact valV_pos (by rw [hpq.1, z])
    · have z2 : ¬ q.1 = ke k := fun e => z (inj _ _ (hpq.1.symm.trans e))
      have e1 : dGet (p :: ps) k = dGet ps k := by simp [dGet, List.find?_cons, z]
      rw [e1, valV_neg z2]
      exact ih
theorem KVt.any {κ : Type} [DecidableEq κ] {ke : κ → List Key} (inj : ∀ a c, ke a = ke c → a = c) {r : R α} {k : κ} {ps : List (κ × α)} {kvs : List (List Key × V)} (h : KVt ke r F ps kvs) : (kvs.any fun kv => decide (kv.1 = ke k)) = ps.any fun kv => decide (kv.1 = k) := by
  induction h with
  | nil => rfl
  | @cons p q ps qs hpq t ih =>
    rw [List.any_cons, List.any_cons, ih, hpq.1]
    congr 1
    exact decide_eq_decide.mpr ⟨fun e => inj _ _ e, fun e => by rw [e]⟩
theorem KVt.put {κ : Type} [DecidableEq κ] {ke : κ → List Key} (inj : ∀ a c, ke a = ke c → a = c) {r : R α} {k : κ} {a : α} {v : V} {ps : List (κ × α)} {kvs : List (List Key × V)} (h : KVt ke r F ps kvs) (hr : r.h a v F) : KVt ke r F (dPut ps k a) (putK kvs (ke k) v) := by
  unfold dPut putK
  rw [h.any inj]
  by_cases z : (ps.any fun kv => decide (kv.1 = k)) = true
  · rw [if_pos z, if_pos z]
    clear z
    induction h with
    | nil => exact .nil
    | @cons p q ps qs hpq t ih =>
      refine .cons ?_ ih
      by_cases e : p.1 = k
      · show (if q.1 = ke k then (q.1, v) else q).1 = ke (if p.1 = k then (p.1, a) else p).1 ∧ r.h (if p.1 = k then (p.1, a) else p).2 (if q.1 = ke k then (q.1, v) else q).2 F
        rw [if_pos e, if_pos (by rw [hpq.1, e])]; exact ⟨hpq.1, hr⟩
      · show (if q.1 = ke k then (q.1, v) else q).1 = ke (if p.1 = k then (p.1, a) else p).1 ∧ r.h (if p.1 = k then (p.1, a) else p).2 (if q.1 = ke k then (q.1, v) else q).2 F
        rw [if_neg e, if_neg (fun x => e (inj _ _ (hpq.1.symm.trans x)))]; exact hpq
  · rw [if_neg z, if_neg z]
    exact Dh.paired_app h (.cons ⟨rfl, hr⟩ .nil)
/-- how a key is told: a new tuple -/
structure KeyT {κ : Type} (ke : κ → List Key) (rk : R κ) : Prop where
  inj : ∀ a c, ke a = ke c → a = c
  kv : ∀ {a v F}, rk.h a v F → ∃ b, v = .ref b ∧ F b = some (.tup ((ke a).map kV))
def DVt {κ : Type} (b : Bs) (G : List Sl) (te : TE) (ke : κ → List Key) (r : R α) (f : (List (κ × α) → Prop) → Prop) : Prop := ∀ ⦃σ : L2.St⦄ ⦃F H : Hp⦄ ⦃Q : VK⦄ (k : List (κ × α) → Prop), Env b G σ F H → f k →
  (∀ ps p F' H', k ps → After F H (owns G) F' H' → Env b G σ F' H' → (∀ F2 H2, Ex F' F2 → Env b G σ F2 H2 → ∃ kvs, H2 p = some (.dT kvs) ∧ KVt ke r F2 ps kvs) → Q (.ref p) H') → te σ H Q
theorem dvt_own {κ : Type} {ke : κ → List Key} {i : Nat} {p : Addr} {r : R α} {xs : List (κ × α)} (h : G[i]? = some (own p (cDctT ke r) xs)) : DVt b G (tVar i) ke r (fun k => k xs) := fun σ F H Q k V q w => by
  obtain ⟨o, h1, rfl, _⟩ := V.hold.at_ h
  refine ⟨.ref p, h1, w xs p F H q (.refl V.fh _) V fun F2 H2 e V2 => ?_⟩
  obtain ⟨o, h1, _, u, h2, vs, rfl, h3⟩ := V2.hold.at_ h
  exact ⟨vs, h2, h3⟩
section
variable {κ : Type} [DecidableEq κ] {ke : κ → List Key} {rk : R κ}
theorem e_dgetT {td tk : TE} {r : R α} {f : (List (κ × α) → Prop) → Prop} {g : (κ → Prop) → Prop} (R : KeyT ke rk) (hd : DVt b G td ke r f) (hk : E b G tk rk g) : E b G (tDGet td tk) r (fun k => f fun d => g fun x => ∃ a, dGet d x = some a ∧ k a) := fun _ _ _ _ k V q w => by
  refine hd _ V q ?_
  intro ps p F1 H1 q1 A1 V1 z
  refine hk _ V1 q1 ?_
  rintro x v F2 H2 ⟨a, ha, q2⟩ A2 V2 e
  obtain ⟨kb, rfl, kf⟩ := R.kv e
  have hb := V2.fh _ _ kf
  obtain ⟨kvs, h1, h2⟩ := z F2 H2 A2.ff V2
  rcases h2.get R.inj (k := x) with ⟨e1, _⟩ | ⟨a', u, e1, e2, hr⟩
  · rw [ha] at e1; cases e1
  · rw [ha] at e1; cases e1
    exact ⟨p, u, rfl, by rw [← e2]; exact DGet.t h1 hb, w a u F2 H2 q2 (A1.trans A2) V2 hr⟩
theorem e_dinT {td tk : TE} {r : R α} {f : (List (κ × α) → Prop) → Prop} {g : (κ → Prop) → Prop} (R : KeyT ke rk) (hk : E b G tk rk g) (hd : DVt b G td ke r f) : E b G (tDIn tk td) rBl (fun k => g fun x => f fun d => k (dGet d x).isSome) := fun _ _ _ _ k V q w => by
  refine hk _ V q ?_
  rintro x v F1 H1 q1 A1 V1 e
  obtain ⟨kb, rfl, kf⟩ := R.kv e
  refine hd _ V1 q1 ?_
  intro ps p F2 H2 q2 A2 V2 z
  obtain ⟨kvs, h1, h2⟩ := z F2 H2 (Ex.refl _) V2
  have hb := V2.fh _ _ (A2.ff _ _ kf)
  refine ⟨p, _, rfl, DGet.t h1 hb, w _ _ F2 H2 q2 (A1.trans A2) V2 ?_⟩
  rcases h2.get R.inj (k := x) with ⟨e1, e2⟩ | ⟨a', u, e1, e2, hr⟩
  · rw [e1, e2]; rfl
  · rw [e1, e2]; rfl
theorem e_dnotinT {td tk : TE} {r : R α} {f : (List (κ × α) → Prop) → Prop} {g : (κ → Prop) → Prop} (R : KeyT ke rk) (hk : E b G tk rk g) (hd : DVt b G td ke r f) : E b G (tDNotIn tk td) rBl (fun k => g fun x => f fun d => k (!(dGet d x).isSome)) := fun _ _ _ _ k V q w => by
  refine hk _ V q ?_
  rintro x v F1 H1 q1 A1 V1 e
  obtain ⟨kb, rfl, kf⟩ := R.kv e
  refine hd _ V1 q1 ?_
  intro ps p F2 H2 q2 A2 V2 z
  obtain ⟨kvs, h1, h2⟩ := z F2 H2 (Ex.refl _) V2
  have hb := V2.fh _ _ (A2.ff _ _ kf)
  refine ⟨p, _, rfl, DGet.t h1 hb, w _ _ F2 H2 q2 (A1.trans A2) V2 ?_⟩
  rcases h2.get R.inj (k := x) with ⟨e1, e2⟩ | ⟨a', u, e1, e2, hr⟩
  · rw [e1, e2]; rfl
  · rw [e1, e2]; rfl
theorem s_dputT {i : Nat} {p : Addr} {tv tk : TE} {r : R α} {xs : List (κ × α)} {f : (α → Prop) → Prop} {g : (κ → Prop) → Prop} (R : KeyT ke rk) (hi : G[i]? = some (own p (cDctT ke r) xs)) (hv : E b G tv r f) (hk : E b G tk rk g) :
    S b G (sDPut (tVar i) tk tv) (fun y : κ × α => G.set i (own p (cDctT ke r) (dPut xs y.1 y.2))) Gl ro (fun d => f fun a => g fun x => xs.length < sizeLine ∧ d.nx (x, a)) := fun σ F H D d V q w1 _ _ _ => by
  refine hv _ V q ?_
  intro a v F1 H1 q1 A1 V1 r1
  obtain ⟨o, h1, rfl, _⟩ := V1.hold.at_ hi
  refine ⟨.ref p, h1, ?_⟩
  refine hk _ V1 q1 ?_
  intro x y F2 H2 q2 A2 V2 e
  obtain ⟨kb, rfl, kf⟩ := R.kv e
  have hb := V2.fh _ _ kf
  obtain ⟨_, _, _, u, h2, kvs, rfl, h3⟩ := V2.hold.at_ hi
  have hl : kvs.length = xs.length := (Paired.length h3).symm
  refine ⟨p, _, rfl, DPut.t (k := ke x) h2 hb (by rw [hl]; exact q2.1), w1 (x, a) _ F2 _ q2.2 (A1.ff.trans A2.ff) ?_⟩
  exact V2.cell hi ⟨_, rfl, h3.put R.inj (r.ex A2.ff r1)⟩
/-- {k: v}, k a new tuple -/
theorem enc_disp1T {tk tv : TE} {r : R α} {f : (κ → Prop) → Prop} {g : (α → Prop) → Prop} (R : KeyT ke rk) (hk : E b G tk rk f) (hv : E b G tv r g) : ENc b G (tDisp1T tk tv) (cDctT ke r) (fun k => f fun x => g fun y => k [(x, y)]) := fun σ F H Q k V q w p hp => by
  have B0 := After.fresh (o := .dT []) V.fh hp []
  have V0 := V.step B0
  have fp : F p = none := ex_none V.fh hp
  have nO : p ∉ owns G := fun z => V.hold.live p z hp
  refine hk _ V0 q ?_
  intro x y F1 H1 q1 A1 V1 e
  refine hv _ V1 q1 ?_
  intro a v F2 H2 q2 A2 V2 r2
  obtain ⟨kb, rfl, kf⟩ := R.kv e
  have hb := V2.fh _ _ (A2.ff _ _ kf)
  have A12 := A1.trans A2
  have hp2 : H2 p = some (.dT []) := A12.hh _ _ nO upd_same
  have fp2 : F2 p = none := A12.nf _ fp (by rw [upd_same]; exact fun z => nomatch z)
  refine ⟨kb, ke x, rfl, hb, hp2, ?_⟩
  have bp : b.H p = none := V.bnone hp
  have n1 : ∀ {z : Addr}, H z ≠ none → z ≠ p := fun h e => h (by rw [e]; exact hp)
  have A02 : After F H (owns G) F2 (upd H2 p (.dT [(ke x, v)])) := ⟨A12.ff, ex_mut fp2 A12.fh, fun z o hm hz => by
    have nz := n1 (by rw [hz]; exact fun z => nomatch z)
    rw [upd_ne nz]; exact A12.hh z o hm (by rw [upd_ne nz]; exact hz), fun z hz => by
    rw [upd_ne (n1 hz)]; exact A12.kp z (by rw [upd_ne (n1 hz)]; exact hz), fun z h1 h2 => A12.nf z h1 (by rw [upd_ne (n1 h2)]; exact h2)⟩
  exact w [(x, a)] p _ F2 _ q2 A02 (V2.poke nO fp2 bp) hp fp2 upd_same ⟨_, rfl, .cons ⟨rfl, r2⟩ .nil⟩
end
/-! ### pairs of numbers as keys -/
def kePP (p : Int × Int) : List Key := [.inl p.1, .inl p.2]
def rKey2 : R (Int × Int) := ⟨fun a v F => ∃ p, v = .ref p ∧ F p = some (.tup [.int a.1, .int a.2]), fun e ⟨p, h1, h2⟩ => ⟨p, h1, e _ _ h2⟩⟩
theorem kt_pp : KeyT kePP rKey2 := ⟨fun a c h => by
  unfold kePP at h
  injection h with h1 h2
  injection h2 with h2 _
  exact Prod.ext (Sum.inl.inj h1) (Sum.inl.inj h2), fun ⟨p, h1, h2⟩ => ⟨p, h1, h2⟩⟩
theorem e_key2 {t1 t2 : TE} {f g : (Int → Prop) → Prop} (h1 : E b G t1 rInt f) (h2 : E b G t2 rInt g) : E b G (tTup (tCons t1 (tCons t2 tNil))) rKey2 (fun k => f fun x => g fun y => k (x, y)) := fun _ _ _ _ k V q w => by
  refine h1 _ V q ?_
  rintro x v F1 H1 q1 A1 V1 rfl
  refine h2 _ V1 q1 ?_
  rintro y v F2 H2 q2 A2 V2 rfl
  refine ⟨Nat.le_of_ble_eq_true (by rw [sizeLine_eq]; rfl), fun p hp => ?_⟩
  have B := After.new (o := .tup [.int x, .int y]) V2.fh hp
  exact w (x, y) _ _ _ q2 ((A1.trans A2).trans (B.mono fun _ h => nomatch h)) (V2.step B) ⟨p, rfl, upd_same⟩
theorem e_unK2 {te : TE} {f : (Int × Int → Prop) → Prop} (h : E b G te rKey2 f) : E b G te (rTp K (rCons rInt (rOne rInt))) f := fun _ _ _ _ k V q w => by
  refine h _ V q ?_
  rintro a v F1 H1 q1 A1 V1 ⟨p, rfl, hp⟩
  exact w a _ F1 H1 q1 A1 V1 ⟨p, _, rfl, SqT.of hp, .int a.1, [.int a.2], rfl, rfl, .int a.2, rfl, rfl⟩
theorem nn_key2 : NN rKey2 := fun ⟨p, h1, _⟩ => by rw [h1]; exact fun z => nomatch z
end
end Mi
/-! Mir34 -/
set_option Elab.async false
set_option linter.all false
set_option maxRecDepth 100000
set_option maxHeartbeats 4000000
/-! calls that leave the last parameter to its default -/
namespace Mi
open PySem PySem.Spec L2 Dh
open _root_.Evl (Ex)
section
variable {K : PySem.W.Frag} {b : Bs} {G Gx : List Sl} {α β γ γ' δ τ τ' ρ ε ε' θ : Type} {σ : L2.St} {F H F' H' : Hp}
/-- f(x, y), the third parameter left to its default -/
theorem e_callD2 {r1 : R α} {r2 : R β} {r3 : R γ} {r : R δ} {dv : V} {d0 : γ} {g : α × β × γ → (δ → Prop) → Prop} {Ek : XK} {ta : TA} {f : (α × β → Prop) → Prop} (hd : ∀ F, r3.h d0 dv F) (h : Ar b G ta (rCons r1 (rOne r2)) f) :
    E b G (tCall (spP (rCons r1 (rCons r2 (rOne r3))) r g) [dv] Ek ta) r (fun k => f fun x => g (x.1, x.2, d0) k) := fun σ F H Q k V q w => by
  refine h _ V q ?_
  rintro ⟨x, y⟩ vs F1 H1 q1 A1 V1 ⟨v1, ws, rfl, h1, v2, rfl, h2⟩
  exact ⟨(x, y, d0), F1, k, V1.fh, ⟨v1, [v2, dv], rfl, h1, v2, [dv], rfl, h2, dv, rfl, hd F1⟩, q1, fun z v F2 H2 q2 A2 r2 => w z v F2 H2 q2 (A1.trans (A2.mono fun _ h => nomatch h)) (V1.step A2) r2⟩
/-- a written pair of numbers, made before the program runs -/
theorem const_pp {a : Addr} {x y : Int} (h : ∃ (o : Obj) (n : Nat) (t u : Tok), K.lookup a = some o ∧ o.cls = .type "tuple" ∧ o.data = .seq #[.int x t, .int y u] n) : ∀ F, (rTp K (rCons rInt (rOne rInt))).h (x, y) (.ref a) F := fun F => by
  obtain ⟨o, n, t, u, h1, h2, h3⟩ := h
  exact ⟨a, [.int x, .int y], rfl, .inr ⟨o, _, n, h1, h2, h3, Nat.le_of_ble_eq_true (by rw [sizeLine_eq]; rfl), .cons ⟨t, rfl⟩ (.cons ⟨u, rfl⟩ .nil)⟩, .int x, [.int y], rfl, rfl, .int y, rfl, rfl⟩
/-- a target within a target -/
theorem gi_consG {g : TG} {r : R α} {up1 : α → List Sl → List Sl} {vs1 : List Nat} {u : TGs} {s : RI γ} {up : γ → List Sl → List Sl} {vs : List Nat} (hg : Tg g r up1 vs1) (h : TgI u s up vs) : TgI (gCons g u) (rCons r s) (fun a G => up a.2 (up1 a.1 G)) (vs1 ++ vs) := by
  have i1 : ∀ i ∈ vs1, i ∈ vs1 ++ vs := fun i hi => List.mem_append_left _ hi
  have i2 : ∀ i ∈ vs, i ∈ vs1 ++ vs := fun i hi => List.mem_append_right _ hi
  refine ⟨fun a G => ⟨fun p hp => (hg.1 _ _).1 p ((h.1 _ _).1 p hp), ?_⟩, fun _ _ _ _ _ _ _ _ ⟨v, ws, e, h1, h2⟩ V w => ?_⟩
  · exact (wipeG_more i2 (h.1 a.2 (up1 a.1 G)).2).trans (wipeG_more i1 (hg.1 a.1 G).2)
  · exact ⟨v, ws, e, hg.2 h1 V fun σ1 V1 e1 => h.2 h2 V1 fun σ2 V2 e2 => w σ2 V2 ((wipe_more i2 e2).trans (wipe_more i1 e1))⟩
theorem gi_oneG {g : TG} {r : R α} {up1 : α → List Sl → List Sl} {vs1 : List Nat} (hg : Tg g r up1 vs1) : TgI (gCons g gNil) (rOne r) up1 vs1 :=
  ⟨hg.1, fun _ _ _ _ _ _ _ _ ⟨v, e, h1⟩ V w => ⟨v, [], e, hg.2 h1 V fun σ1 V1 e1 => ⟨rfl, w σ1 V1 e1⟩⟩⟩
end
end Mi
/-! Mir35 -/
set_option Elab.async false
set_option linter.all false
set_option maxRecDepth 100000
set_option maxHeartbeats 4000000
/-! families of own classes: methods and calls of a thing of one of several classes; C() without an own __init__ -/
namespace Dh
open PySem PySem.Spec PyProof.Rows L2
section
variable {X : Cx} {CX : CXT} {k : Nat} {f C : Addr} {fd : FuncData} {ps : List Str} {sp : Sp} {E : XK} {x m : Str} {p pos apos : Pos} {e o fe : Expr} {es : List Expr} {ta tb tf : TE} {t : TA}
/-! ### C() -/
structure Mk0 (K : PySem.W.Frag) (C : Addr) : Prop where
  makes : PySem.W.makesIn K C = true
  init : PySem.W.findIn K (.ref C) "__init__" = some (some (.builtin "object.__init__"))
  kp : PySem.W.keepIn K (.ref C) = true
def tNew0 (C : Addr) : TE := fun σ H Q => ∀ x dx, H x = none → H dx = none → dx ≠ x → Q (.ref x) (upd (upd H dx (.own x)) x (.ins C dx []))
theorem pe_new0 (M : Mk0 X.K C) (hg : Gl X x) (hm : X.mg x = some (.ref C)) (hdb : (x == ("__debug__" : Str)) = false := by decide) : PE X (.Call (.Name x p) [] [] pos) (tNew0 C) := by
  refine ⟨fun pins s σ H Q I h => ?_⟩
  refine wpAny_Call_Name_kw (ld_glob I hg hm ?_ hdb)
  refine PySem.W.callWith_K0 I.kIn M.kp ?_
  refine wpAny_call (make_map0 I.kIn M.makes M.init (fun self => PySem.W.Looks.of_pure (PySem.W.oi_bind self)) ?_)
  have Y := PySem.W.makes_of (M := model X.prog X.w) I.kIn M.makes
  have I2 := Inv.made (C := C) I
  have hq := h (s.heap.objs.size + 1) s.heap.objs.size (I.hok.fresh (Nat.le_succ _)) (I.hok.fresh (Nat.le_refl _)) (Nat.ne_of_lt (Nat.lt_succ_self _))
  have g : ((s.heap.push PySem.W.emptyDict).push (PySem.W.instObj C s.heap.objs.size)).get? (s.heap.objs.size + 1) = some (PySem.W.instObj C s.heap.objs.size) := by
    have := Heap.get?_push_size (s.heap.push PySem.W.emptyDict) (o := PySem.W.instObj C s.heap.objs.size) rfl
    rw [Heap.size_push] at this
    exact this
  have t1 : PySem.W.Looks (model X.prog X.w) ((s.heap.push PySem.W.emptyDict).push (PySem.W.instObj C s.heap.objs.size)) (typeOf (.ref (s.heap.objs.size + 1))) (.ref C) := (PySem.W.Looks.ld g).andThen .now
  have t2 : PySem.W.Looks (model X.prog X.w) ((s.heap.push PySem.W.emptyDict).push (PySem.W.instObj C s.heap.objs.size)) (isInstance (.ref (s.heap.objs.size + 1)) (.type "object")) true := t1.andThen (Y.top.keeps fun b o e => Heap.get?_push_of_some _ (Heap.get?_push_of_some _ e))
  refine codeAny_call_builtin PySem.W.oi_plain PySem.W.entry_oi (@PySem.W.check_slot (model X.prog X.w) _ _ _ "object.__init__" "object" "__init__" (.ref (s.heap.objs.size + 1)) [] [] _ PySem.W.oi_kind PySem.W.oi_split t2 (PySem.W.oi_args (.ref (s.heap.objs.size + 1))) ?_)
  rw [PySem.W.oi_run]
  exact wpAny_pure (And.intro rfl ⟨V.ref (s.heap.objs.size + 1), _, I2, rfl, hq⟩)
/-! ### methods of a thing of one of several classes -/
structure MethT (P : Program) (w : World) (K : PySem.W.Frag) (mg : Str → Option Value) (base : Heap) (CX : CXT) (k : Nat) (m : Str) (C : Addr) (sp : Sp) : Prop where
  cl : Cls K C
  it : ∃ (f : Addr) (fd : FuncData) (ps : List Str), Meth K C m f ∧ FnOk P w K mg base CX k f fd ps sp ∧ Binds K fd ps []
def tMethI {ι : Type} (C : ι → Addr) (m : Str) (sp : ι → Sp) (E : XK) (ta : TE) (t : TA) : TE := fun σ H Q => ta σ H fun x H1 => ∃ i a dx fs, x = .ref a ∧ H1 a = some (.ins (C i) dx fs) ∧ fs.lookup m = none ∧ t σ H1 fun vs H2 => sp i (x :: vs) H2 Q E
theorem pe_methI {pl : Sem Bool} {ι : Type} {C : ι → Addr} {sp : ι → Sp} (he : PE X o ta) (mt : ∀ i, MethT X.prog X.w X.K X.mg X.base CX k m (C i) (sp i)) (hr : Room k X.A) (hx : Passes CX X E) (ha : PA X (e :: es) t)
    (hst : starEach (e :: es) X.env = (false, eval e X.env) :: starEach es X.env := by rfl) (hpl : (backTo pos (starEach es X.env)).any (·.1) = false := by rfl)
    (ht : eval (.Call (.Attribute o m apos) (e :: es) [] pos) X.env = (do
      let ov ← eval o X.env
      standAt apos.atName
      let (f, first) ← holding [ov] (getMethod ov m pl)
      callWith pos f first (backTo pos (starEach (e :: es) X.env)) (backToKw pos (keywordEach [] X.env))) := by rfl) :
    PE X (.Call (.Attribute o m apos) (e :: es) [] pos) (tMethI C m sp E ta t) := by
  refine ⟨fun pins s σ H Q I h => ?_⟩
  refine PySem.W.methodCall_KW (pl := pl) (thn (he.run pins s σ H _ I h) fun u s1 ⟨x, H1, I1, rx, i, a, dx, fs, ex, ea, l, q⟩ => ?_) ht
  subst ex
  obtain rfl : u = Value.ref a := rx
  obtain ⟨cl, f, fd, ps, hm, F, hb⟩ := mt i
  refine getmeth_ok I1 ea cl hm l ?_
  refine PySem.W.callWith_K (first := [.ref a]) (h₀ := X.base) I.ok.mod.kin hm.kp (thn (ha.run pos pins s1 σ H1 _ I1 q) fun us s2 ⟨vs, H2, I2, r, q2⟩ => ⟨I2.kIn, ?_⟩) hst hpl
  exact run_fn (us := .ref a :: us) (vs := .ref a :: vs) (ds := []) (dvs := []) F hr hb .nil hx I2 (.cons rfl r) (by rw [List.append_nil]; exact q2)
theorem pe_methI0 {pl : Sem Bool} {ι : Type} {C : ι → Addr} {sp : ι → Sp} (he : PE X o ta) (mt : ∀ i, MethT X.prog X.w X.K X.mg X.base CX k m (C i) (sp i)) (hr : Room k X.A) (hx : Passes CX X E)
    (ht : eval (.Call (.Attribute o m apos) [] [] pos) X.env = (do
      let ov ← eval o X.env
      standAt apos.atName
      let (f, first) ← holding [ov] (getMethod ov m pl)
      callWith pos f first (backTo pos (starEach [] X.env)) (backToKw pos (keywordEach [] X.env))) := by rfl) :
    PE X (.Call (.Attribute o m apos) [] [] pos) (tMethI C m sp E ta tNil) := by
  refine ⟨fun pins s σ H Q I h => ?_⟩
  refine PySem.W.methodCall_KW (pl := pl) (thn (he.run pins s σ H _ I h) fun u s1 ⟨x, H1, I1, rx, i, a, dx, fs, ex, ea, l, q⟩ => ?_) ht
  subst ex
  obtain rfl : u = Value.ref a := rx
  obtain ⟨cl, f, fd, ps, hm, F, hb⟩ := mt i
  refine getmeth_ok I1 ea cl hm l ?_
  exact PySem.W.callWith_K0 (first := [.ref a]) I1.kIn hm.kp (run_fn (us := [.ref a]) (vs := [.ref a]) (ds := []) (dvs := []) F hr hb .nil hx I1 (.cons rfl .nil) q)
/-! ### calls of such a thing -/
structure CallT (P : Program) (w : World) (K : PySem.W.Frag) (mg : Str → Option Value) (base : Heap) (CX : CXT) (k : Nat) (C : Addr) (sp : Sp) : Prop where
  it : ∃ (f : Addr) (fd : FuncData) (ps : List Str), StX.CallO K C f ∧ FnOk P w K mg base CX k f fd ps sp ∧ Binds K fd ps []
def tCallI {ι : Type} (C : ι → Addr) (sp : ι → Sp) (E : L2.St → XK) (tf : TE) (t : TA) : TE := fun σ H Q => tf σ H fun y H1 => ∃ i a, y = V.ref a ∧ t σ H1 fun vs H2 => InsAt H2 a (C i) ∧ sp i (V.ref a :: vs) H2 Q (E σ)
theorem pe_callI {ι : Type} {C : ι → Addr} {sp : ι → Sp} {E : L2.St → XK} (hf : PE X fe tf) (mt : ∀ i, CallT X.prog X.w X.K X.mg X.base CX k (C i) (sp i)) (hr : Room k X.A) (hx : ∀ σ, PassesAt CX X σ (E σ)) (ha : PA X (e :: es) t)
    (ht : eval (.Call fe (e :: es) [] pos) X.env = (do callWith pos (← eval fe X.env) [] (backTo pos (starEach (e :: es) X.env)) (backToKw pos (keywordEach [] X.env))) := by rfl)
    (he : starEach (e :: es) X.env = (false, eval e X.env) :: starEach es X.env := by rfl) (hpl : (backTo pos (starEach es X.env)).any (·.1) = false := by rfl) : PE X (.Call fe (e :: es) [] pos) (tCallI C sp E tf t) := by
  refine ⟨fun pins s σ H Q I h => ?_⟩
  refine Call_ (thn (hf.run pins s σ H _ I h) fun u s1 ⟨y, H1, I1, ry, i, a, ey, q⟩ => ?_) ht
  subst ey
  obtain rfl : u = Value.ref a := ry
  obtain ⟨f, fd, ps, c, F, hb⟩ := (mt i).it
  refine StX.callO_with (thn (ha.run pos pins s1 σ H1 _ I1 q) fun us s2 ⟨vs, H2, I2, r, hi, q2⟩ => ?_) he hpl
  obtain ⟨ox, od, J, hd⟩ := insAt_at I2 hi
  exact ⟨⟨C i, ox, od, J, hd⟩, wpAny_call (PySem.W.kco_code I2.kIn J hd c.at_ c.fn c.fi (run_fnAc (us := .ref a :: us) (vs := .ref a :: vs) ⟨hr, rfl⟩ F hb (hx σ) I2 (.cons rfl r) q2))⟩
end
end Dh
namespace Mi
open PySem PySem.Spec L2 Dh
open _root_.Evl (Ex)
/-- things of one of several own classes, all worth a γ -/
structure Fam (γ : Type) where
  ι : Type
  C : ι → Addr
  D : ι → Type
  s : ∀ i, FK (D i)
  val : ∀ i, D i → γ
def rFam {γ : Type} (fm : Fam γ) : R γ := ⟨fun c v F => ∃ i d, fm.val i d = c ∧ (rIns (fm.C i) (fm.s i)).h d v F, fun e ⟨i, d, h1, h2⟩ => ⟨i, d, h1, R.ex _ e h2⟩⟩
/-- anything -/
def rWh : R Unit := ⟨fun _ _ _ => True, fun _ h => h⟩
section
variable {K : PySem.W.Frag} {b : Bs} {G Gx : List Sl} {α β γ γ' δ τ τ' ρ ε ε' θ : Type} {Gn : τ → List Sl} {Gl : θ → List Sl} {ro : ρ → V → Hp → Hp → Prop} {σ : L2.St} {F H F' H' : Hp} {x : Xp ε} {x' : Xp ε'} {j : ε' → ε} {gx : List Sl → Prop} {kx : ε → Prop} {W : WX}
theorem nn_fam {fm : Fam γ} : NN (rFam fm) := fun ⟨i, d, _, p, dx, fs, h1, _⟩ => by rw [h1]; exact fun z => nomatch z
theorem e_wh {te : TE} {r : R α} {f : (α → Prop) → Prop} (h : E b G te r f) : E b G te rWh (fun k => f fun _ => k ()) := fun _ _ _ _ k V q w => h _ V q fun a v F' H' q' A V' _ => w () v F' H' q' A V' trivial
theorem e_fam {fm : Fam γ} (i : fm.ι) {te : TE} {f : (fm.D i → Prop) → Prop} (h : E b G te (rIns (fm.C i) (fm.s i)) f) : E b G te (rFam fm) (fun k => f fun d => k (fm.val i d)) := fun _ _ _ _ k V q w => h _ V q fun a v F' H' q' A V' r => w _ v F' H' q' A V' ⟨i, a, rfl, r⟩
/-- one family in another -/
theorem e_famS {fm : Fam γ} {fn : Fam δ} {g : γ → δ} {te : TE} {f : (γ → Prop) → Prop} (hs : ∀ i d, ∃ j d', fn.C j = fm.C i ∧ fn.val j d' = g (fm.val i d) ∧ ∀ fs F, (fm.s i).h d fs F → (fn.s j).h d' fs F) (h : E b G te (rFam fm) f) : E b G te (rFam fn) (fun k => f fun c => k (g c)) := fun _ _ _ _ k V q w => h _ V q fun a v F' H' q' A V' ⟨i, d, h1, p, dx, fs, h2, h3, h4⟩ => by
  obtain ⟨j, d', e1, e2, e3⟩ := hs i d
  exact w _ v F' H' q' A V' ⟨j, d', by rw [e2, h1], p, dx, fs, h2, by rw [e1]; exact h3, e3 _ _ h4⟩
theorem spP_imp {s : RI α} {r : R β} {g g' : α → (β → Prop) → Prop} (h : ∀ x k, g' x k → g x k) {vs : List V} {H : Hp} {Q : VK} {Ek : XK} (q : spP s r g' vs H Q Ek) : spP s r g vs H Q Ek := by
  obtain ⟨a, F, k, e, hs, hg, w⟩ := q
  exact ⟨a, F, k, e, hs, h _ _ hg, w⟩
/-- o.m(e, ..) -/
theorem e_methI {fm : Fam γ} {m : Str} {si : RI α} {r : R β} {g : γ → α → (β → Prop) → Prop} {Ek : XK} {te : TE} {ta : TA} {f : (γ → Prop) → Prop} {f2 : (α → Prop) → Prop} (hm : ∀ i, m ∉ (fm.s i).ns) (he : E b G te (rFam fm) f) (h : Ar b G ta si f2) :
    E b G (tMethI fm.C m (fun i => spP (rCons (rIns (fm.C i) (fm.s i)) si) r (fun x k => g (fm.val i x.1) x.2 k)) Ek te ta) r (fun k => f fun c => f2 fun x => g c x k) := fun σ F H Q k V q w => by
  refine he _ V q ?_
  rintro c v F0 H0 q0 A0 V0 ⟨i, d, rfl, p, dx, fs, rfl, hp, hs⟩
  refine ⟨i, p, dx, fs, rfl, V0.fh _ _ hp, fk_no (hm i) hs, ?_⟩
  refine h _ V0 q0 ?_
  intro x vs F1 H1 q1 A1 V1 r1
  exact ⟨(d, x), F1, k, V1.fh, ⟨.ref p, vs, rfl, ⟨p, dx, fs, rfl, A1.ff _ _ hp, (fm.s i).ex A1.ff hs⟩, r1⟩, q1, fun z v F2 H2 q2 A2 r2 => w z v F2 H2 q2 ((A0.trans A1).trans (A2.mono fun _ h => nomatch h)) (V1.step A2) r2⟩
theorem e_methI0 {fm : Fam γ} {m : Str} {r : R β} {g : γ → (β → Prop) → Prop} {Ek : XK} {te : TE} {f : (γ → Prop) → Prop} (hm : ∀ i, m ∉ (fm.s i).ns) (he : E b G te (rFam fm) f) :
    E b G (tMethI fm.C m (fun i => spP (rOne (rIns (fm.C i) (fm.s i))) r (fun x k => g (fm.val i x) k)) Ek te tNil) r (fun k => f fun c => g c k) := fun σ F H Q k V q w => by
  refine he _ V q ?_
  rintro c v F0 H0 q0 A0 V0 ⟨i, d, rfl, p, dx, fs, rfl, hp, hs⟩
  refine ⟨i, p, dx, fs, rfl, V0.fh _ _ hp, fk_no (hm i) hs, ?_⟩
  exact ⟨d, F0, k, V0.fh, ⟨.ref p, rfl, ⟨p, dx, fs, rfl, hp, hs⟩⟩, q0, fun z v F2 H2 q2 A2 r2 => w z v F2 H2 q2 (A0.trans (A2.mono fun _ h => nomatch h)) (V0.step A2) r2⟩
/-- o(e, ..) -/
theorem e_callI {fm : Fam γ} {si : RI α} {r : R β} {g : γ → α → (β → Prop) → Prop} {Ek : L2.St → XK} {te : TE} {ta : TA} {f : (γ → Prop) → Prop} {f2 : (α → Prop) → Prop} (he : E b G te (rFam fm) f) (h : Ar b G ta si f2) :
    E b G (tCallI fm.C (fun i => spP (rCons (rIns (fm.C i) (fm.s i)) si) r (fun x k => g (fm.val i x.1) x.2 k)) Ek te ta) r (fun k => f fun c => f2 fun x => g c x k) := fun σ F H Q k V q w => by
  refine he _ V q ?_
  rintro c v F0 H0 q0 A0 V0 ⟨i, d, rfl, p, dx, fs, rfl, hp, hs⟩
  refine ⟨i, p, rfl, ?_⟩
  refine h _ V0 q0 ?_
  intro x vs F1 H1 q1 A1 V1 r1
  have hp1 := A1.ff _ _ hp
  exact ⟨⟨dx, fs, V1.fh _ _ hp1⟩, (d, x), F1, k, V1.fh, ⟨.ref p, vs, rfl, ⟨p, dx, fs, rfl, hp1, (fm.s i).ex A1.ff hs⟩, r1⟩, q1, fun z v F2 H2 q2 A2 r2 => w z v F2 H2 q2 ((A0.trans A1).trans (A2.mono fun _ h => nomatch h)) (V1.step A2) r2⟩
/-- C() without an own __init__ -/
theorem enc_new0 {Cl : Addr} : ENc b G (tNew0 Cl) (cIns Cl fNil) (fun k => k ()) := fun σ F H Q k V q w p dx hp hdx ne => by
  have fp : F p = none := ex_none V.fh hp
  have fd : F dx = none := ex_none V.fh hdx
  have e2 : Ex F (upd (upd H dx (.own p)) p (.ins Cl dx [])) := ex_mut fp (ex_mut fd V.fh)
  have old : ∀ z o, H z = some o → z ≠ p ∧ z ≠ dx := fun z o hz => ⟨ne_of_none hz hp, ne_of_none hz hdx⟩
  have B : After F H [] F (upd (upd H dx (.own p)) p (.ins Cl dx [])) := ⟨Ex.refl F, e2, fun z o _ hz => by rw [upd_ne (old z o hz).1, upd_ne (old z o hz).2]; exact hz, fun z hz => by
    cases e : H z with
    | none => exact absurd e hz
    | some o => (rw [upd_ne (old z o e).1, upd_ne (old z o e).2, e]; exact fun z => nomatch z), fun z h1 _ => h1⟩
  exact w () p _ F _ q (B.mono fun _ h => nomatch h) (V.step B) hp fp upd_same ⟨dx, [], rfl, rfl⟩
/-- isinstance(o, D) -/
structure InsT (K : PySem.W.Frag) (C : Addr) (D : Value) (r : Bool) : Prop where
  cl : Cls K C
  ha : PySem.W.findIn K (.ref C) "__class__" = some (some (.builtin "object.__class__"))
  hn : PySem.W.specialIn K (.builtin "object.__class__") "__get__" = some (some (.builtin "getset_descriptor.__get__"))
  htk : PySem.W.takesIn K (.builtin "object.__class__") = some true
  hm : PySem.W.mroIn K C (.type "object") = some true
  k : PySem.W.kitOne K (.ref C) D = some r
theorem e_isF {fm : Fam γ} {te : TE} {f : (γ → Prop) → Prop} {D : Addr} {r : Bool} (T : ∀ i, InsT K (fm.C i) (.ref D) r) (h : E b G te (rFam fm) f) : E b G (tCB (rIsi K) (tCons te (tCons (tC (.ref D)) tNil))) rBl (fun k => f fun _ => k r) := fun _ _ _ _ k V q w => by
  refine h _ V q ?_
  rintro c v F1 H1 q1 A1 V1 ⟨i, d, rfl, p, dx, fs, rfl, hp, hs⟩
  exact ⟨_, _, _, _, r, rfl, .own _, .base (.ins (V1.fh _ _ hp) (T i).cl (T i).ha (T i).hn (T i).htk (T i).hm), (T i).k, w _ _ F1 H1 q1 A1 V1 rfl⟩
theorem e_isO {C D : Addr} {s : FK γ} {te : TE} {f : (γ → Prop) → Prop} {r : Bool} (T : InsT K C (.ref D) r) (h : E b G te (rIns C s) f) : E b G (tCB (rIsi K) (tCons te (tCons (tC (.ref D)) tNil))) rBl (fun k => f fun _ => k r) := fun _ _ _ _ k V q w => by
  refine h _ V q ?_
  rintro c v F1 H1 q1 A1 V1 ⟨p, dx, fs, rfl, hp, hs⟩
  exact ⟨_, _, _, _, r, rfl, .own _, .base (.ins (V1.fh _ _ hp) T.cl T.ha T.hn T.htk T.hm), T.k, w _ _ F1 H1 q1 A1 V1 rfl⟩
end
end Mi
/-! Mir36 -/
set_option Elab.async false
set_option linter.all false
set_option maxRecDepth 100000
set_option maxHeartbeats 4000000
/-! own comparisons of two frozen things of one own class; list(range(a, b)); isinstance of what may be None -/
namespace Dh
open PySem PySem.Spec PyProof.Rows L2
section
variable {X : Cx} {CX : CXT} {k : Nat} {f C : Addr} {fd : FuncData} {ps : List Str} {sp : Sp} {E : L2.St → XK} {pos : Pos} {a b : Expr} {ta tb : TE} {op : CmpOp}
structure CmpO (K : PySem.W.Frag) (op : CmpOp) (C f : Addr) : Prop where
  at_ : PySem.W.findIn K (.ref C) (cmpInfo op).2.1 = some (some (.ref f))
  fn : PySem.W.isFn K (.ref f) = true
  nf : PySem.W.notFirst K C (.ref C) = true
def tCmpO (C : Addr) (sp : Sp) (E : L2.St → XK) (ta tb : TE) : TE := fun σ H Q => ta σ H fun x H1 => tb σ H1 fun y H2 => ∃ a c, x = V.ref a ∧ y = V.ref c ∧ InsAt H2 a C ∧ InsAt H2 c C ∧ sp [x, y] H2 Q (E σ)
theorem run_cmpO {pins : List (Addr × Obj)} {σ : L2.St} {H : Hp} {s : Shared} {Q : VK} {p q : Addr} {E : XK} (hop : ∀ a b, compareOp op a b = richCompare op a b) (c : CmpO X.K op C f) (F : FnOk X.prog X.w X.K X.mg X.base CX k f fd ps sp) (hr : Room k X.A) (hb : Binds X.K fd ps [])
    (hx : PassesAt CX X σ E) (I : Inv X pins σ H s) (h1 : InsAt H p C) (h2 : InsAt H q C) (h : sp [.ref p, .ref q] H Q E) : wpAny (model X.prog X.w) X.A (compareOp op (.ref p) (.ref q)) (EP X pins σ Q) X.xe s := by
  obtain ⟨ox, od, J, _⟩ := insAt_at I h1
  obtain ⟨oy, oe, J2, _⟩ := insAt_at I h2
  obtain ⟨m, hF⟩ := I.fr
  rw [hop]
  refine PySem.W.cmp_K (op := op) (tb := .ref C) hr.units0 hF I.ok.mod.kin J J2.type c.nf c.at_ c.fn ?_
  exact wpAny_mono (run_fnA (A1 := X.A) (us := [.ref p, .ref q]) (vs := [.ref p, .ref q]) ⟨hr, rfl⟩ F hb hx I (.cons rfl (.cons rfl .nil)) h) (fun u s' z => cmpBack_of z) fun _ _ e => e
theorem pe_cmpO (ha : PE X a ta) (hb : PE X b tb) (c : CmpO X.K op C f) (F : FnOk X.prog X.w X.K X.mg X.base CX k f fd ps sp) (hr : Room k X.A) (hbd : Binds X.K fd ps []) (hx : ∀ σ, PassesAt CX X σ (E σ)) (hm : behindInMarks op b = false) (hop : ∀ a b, compareOp op a b = richCompare op a b := by intro _ _; rfl) : PE X (.Compare a [op] [b] pos) (tCmpO C sp E ta tb) := by
  refine ⟨fun pins s σ H Q I h => ?_⟩
  refine wpAny_Compare1 (binT (R := fun x y H2 => ∃ a c, x = V.ref a ∧ y = V.ref c ∧ InsAt H2 a C ∧ InsAt H2 c C ∧ sp [x, y] H2 Q (E σ)) ha hb I h fun v u s2 x y H2 I2 rx ry q => ?_) hm
  obtain ⟨p, q', ex, ey, h1, h2, q⟩ := q
  subst ex; subst ey
  obtain rfl : v = Value.ref p := rx
  obtain rfl : u = Value.ref q' := ry
  exact run_cmpO hop c F hr hbd (hx σ) I2 h1 h2 q
theorem pt_cmpO (ha : PE X a ta) (hb : PE X b tb) (c : CmpO X.K op C f) (F : FnOk X.prog X.w X.K X.mg X.base CX k f fd ps sp) (hr : Room k X.A) (hbd : Binds X.K fd ps []) (hx : ∀ σ, PassesAt CX X σ (E σ)) (hm : behindInMarks op b = false) (hop : ∀ a b, compareOp op a b = richCompare op a b := by intro _ _; rfl) : PT X (.Compare a [op] [b] pos) (tTest (tCmpO C sp E ta tb)) := by
  refine ⟨fun pins s σ H Q I h => ?_⟩
  refine wpAny_isTrue_Compare1 (thn (ha.run pins s σ H _ I h) fun v s1 ⟨x, H1, I1, r1, q1⟩ => thn (hb.run pins s1 σ H1 _ I1 q1) fun u s2 ⟨y, H2, I2, r2, p, q', ex, ey, h1, h2, q⟩ => ?_) hm
  subst ex; subst ey
  obtain rfl : v = Value.ref p := r1
  obtain rfl : u = Value.ref q' := r2
  refine thn (run_cmpO hop c F hr hbd (hx σ) I2 h1 h2 q) fun c s3 ⟨z, H3, I3, r3, k, e, q3⟩ => ?_
  subst e
  cases r3
  exact wpAny_truthy_bool ⟨H3, I3, q3⟩
end
section
variable {P : Program} {w : World} {K : PySem.W.Frag} {mg : Str → Option Value} {base : Heap} {x qual : Str} {params : Arguments} {body : List Stmt} {scope : Scope} {dvs : List V} {kws : List (Str × V)} {f : Addr} {fd : FuncData}
/-- the rule for a def with defaults that lets nothing out -/
theorem okD0 {N ps : List Str} {k : Nat} {sp : Sp} (F : FunD K x qual params body scope dvs kws f fd) (S : FnScope N ps scope) (len : ∀ vs H Q E, sp vs H Q E → vs.length = ps.length)
    (hbody : ∀ (cdv : Value) (A : Around) (outer : List Env) (s : Shared) (H : Hp) (vs : List V) (Q : VK) (E : XK), Room k (A.deeper (envOfC qual scope s.heap.objs.size f cdv)) → sp vs H Q E →
      ∃ t, PSs (cxOf CX0 P w K mg base N qual scope f cdv A outer s H E).nox body t ∧ t { nx := fun _ H' => Q .non H', rt := Q } (start N vs) H) : FnOk P w K mg base CX0 (k + 1) f fd ps sp :=
  F.ok S len fun cdv A outer s H vs Q E hr hsp => by
    obtain ⟨t, h, q⟩ := hbody cdv A outer s H vs Q E hr hsp
    exact ⟨t, h.nox, q⟩
theorem vals_cons {v : V} {vs : List V} {us : List Value} (h : Vals (v :: vs) us) : ∃ u ws, us = u :: ws ∧ RelV v u ∧ Vals vs ws := by
  cases h with
  | cons r t => exact ⟨_, _, rfl, r, t⟩
end
end Dh
namespace Mi
open PySem PySem.Spec L2 Dh
open _root_.Evl (Ex)
section
variable {K : PySem.W.Frag} {b : Bs} {G Gx : List Sl} {α β γ γ' δ τ τ' ρ ε ε' θ : Type} {σ : L2.St} {F H F' H' : Hp} {x : Xp ε} {x' : Xp ε'} {j : ε' → ε} {gx : List Sl → Prop} {kx : ε → Prop} {W : WX}
/-- o op p, both frozen things of one own class -/
theorem e_cmpO {Cl : Addr} {s : FK γ} {r : R β} {g : γ × γ → (β → Prop) → Prop} {Ek : L2.St → XK} {te ti : TE} {f f2 : (γ → Prop) → Prop} (he : E b G te (rIns Cl s) f) (h : E b G ti (rIns Cl s) f2) :
    E b G (tCmpO Cl (spP (rCons (rIns Cl s) (rOne (rIns Cl s))) r g) Ek te ti) r (fun k => f fun y => f2 fun x => g (y, x) k) := fun σ F H Q k V q w => by
  refine he _ V q ?_
  rintro y v F0 H0 q0 A0 V0 ⟨p, dx, fs, rfl, hp, hs⟩
  refine h _ V0 q0 ?_
  rintro x v F1 H1 q1 A1 V1 ⟨p2, dx2, fs2, rfl, hp2, hs2⟩
  have hp1 := A1.ff _ _ hp
  exact ⟨p, p2, rfl, rfl, ⟨dx, fs, V1.fh _ _ hp1⟩, ⟨dx2, fs2, V1.fh _ _ hp2⟩, (y, x), F1, k, V1.fh, ⟨.ref p, [.ref p2], rfl, ⟨p, dx, fs, rfl, hp1, s.ex A1.ff hs⟩, ⟨.ref p2, rfl, p2, dx2, fs2, rfl, hp2, hs2⟩⟩, q1, fun z v F2 H2 q2 A2 r2 => w z v F2 H2 q2 ((A0.trans A1).trans (A2.mono fun _ h => nomatch h)) (V1.step A2) r2⟩
theorem e_cmpOX {Cl : Addr} {s : FK γ} {r : R β} {g : γ × γ → (β → Prop) → (ε' → Prop) → Prop} {te ti : TE} {f f2 : (γ → Prop) → Prop} (O : Out b gx x kx W) (hg : gx G) (hj : XSub x' x j) (he : E b G te (rIns Cl s) f) (h : E b G ti (rIns Cl s) f2) :
    E b G (tCmpO Cl (spX (rCons (rIns Cl s) (rOne (rIns Cl s))) r x' g) (WE W) te ti) r (fun k => f fun y => f2 fun x => g (y, x) k fun e => kx (j e)) := fun σ F H Q k V q w => by
  refine he _ V q ?_
  rintro y v F0 H0 q0 A0 V0 ⟨p, dx, fs, rfl, hp, hs⟩
  refine h _ V0 q0 ?_
  rintro x v F1 H1 q1 A1 V1 ⟨p2, dx2, fs2, rfl, hp2, hs2⟩
  have hp1 := A1.ff _ _ hp
  exact ⟨p, p2, rfl, rfl, ⟨dx, fs, V1.fh _ _ hp1⟩, ⟨dx2, fs2, V1.fh _ _ hp2⟩, (y, x), F1, k, fun e => kx (j e), V1.fh, ⟨.ref p, [.ref p2], rfl, ⟨p, dx, fs, rfl, hp1, s.ex A1.ff hs⟩, ⟨.ref p2, rfl, p2, dx2, fs2, rfl, hp2, hs2⟩⟩, q1, fun z v F2 H2 q2 A2 r2 => w z v F2 H2 q2 ((A0.trans A1).trans (A2.mono fun _ h => nomatch h)) (V1.step A2) r2,
    fun e cls d F2 H2 q2 A2 hx => O hg q2 (V1.step A2) (hj _ _ _ _ hx)⟩
theorem e_cmpOX0 {Cl : Addr} {s : FK γ} {r : R β} {g : γ × γ → (β → Prop) → (ε' → Prop) → Prop} {Ek : L2.St → XK} {te ti : TE} {f f2 : (γ → Prop) → Prop} (he : E b G te (rIns Cl s) f) (h : E b G ti (rIns Cl s) f2) :
    E b G (tCmpO Cl (spX (rCons (rIns Cl s) (rOne (rIns Cl s))) r x' g) Ek te ti) r (fun k => f fun y => f2 fun x => g (y, x) k fun _ => False) := fun σ F H Q k V q w => by
  refine he _ V q ?_
  rintro y v F0 H0 q0 A0 V0 ⟨p, dx, fs, rfl, hp, hs⟩
  refine h _ V0 q0 ?_
  rintro x v F1 H1 q1 A1 V1 ⟨p2, dx2, fs2, rfl, hp2, hs2⟩
  have hp1 := A1.ff _ _ hp
  exact ⟨p, p2, rfl, rfl, ⟨dx, fs, V1.fh _ _ hp1⟩, ⟨dx2, fs2, V1.fh _ _ hp2⟩, (y, x), F1, k, fun _ => False, V1.fh, ⟨.ref p, [.ref p2], rfl, ⟨p, dx, fs, rfl, hp1, s.ex A1.ff hs⟩, ⟨.ref p2, rfl, p2, dx2, fs2, rfl, hp2, hs2⟩⟩, q1, fun z v F2 H2 q2 A2 r2 => w z v F2 H2 q2 ((A0.trans A1).trans (A2.mono fun _ h => nomatch h)) (V1.step A2) r2,
    fun e cls d F2 H2 q2 => q2.elim⟩
/-- isinstance(x, c), x may be None -/
theorem e_isiOp {te : TE} {r : R α} {f : (Option α → Prop) → Prop} {t c : String} (T : Ty1 K r t) (k1 : kitB t c = some true) (k2 : kitB "NoneType" c = some false) (h : E b G te (rOpt r) f) : E b G (tCB (rIsi K) (tCons te (tCons (tC (.ty c)) tNil))) rBl (fun k => f fun a => k a.isSome) := fun _ _ _ _ k V q w => by
  refine h _ V q ?_
  intro x v F1 H1 q1 A1 V1 r1
  cases x with
  | none =>
    have e : v = .non := r1
    subst e
    exact ⟨_, _, _, _, false, rfl, .ty _, .base .non, kit_ty k2, w _ _ F1 H1 q1 A1 V1 rfl⟩
  | some a => exact ⟨_, _, _, _, true, rfl, .ty _, T.of r1.1 V1.fh, kit_ty k1, w _ _ F1 H1 q1 A1 V1 rfl⟩
theorem all_rg {F : Hp} {i j : Int} : All rInt F (rng i (j - i).toNat) (rgV i j) := by
  unfold rng rgV
  induction List.range (j - i).toNat with
  | nil => exact .nil
  | cons x xs ih => exact .cons rfl ih
/-- list(range(a, b)) -/
theorem en_listR2 {ta tb : TE} {f f2 : (Int → Prop) → Prop} (ha : E b G ta rInt f) (hb : E b G tb rInt f2) : EN b G (tLstRg (tRg2 ta tb)) rInt (fun k => f fun i => f2 fun j => RgOk i j ∧ k (rng i (j - i).toNat)) := fun _ _ _ _ k V q w => by
  refine ha _ V q ?_
  intro i v F1 H1 q1 A1 V1 r1
  refine hb _ V1 q1 ?_
  intro j u F2 H2 q2 A2 V2 r2
  exact ⟨i, j, r1, r2, q2.1, fun l hl => en_lay (A1.trans A2) V2 q2.2 all_rg w hl⟩
end
end Mi
/-! Mir37 -/
set_option Elab.async false
set_option linter.all false
set_option maxRecDepth 100000
set_option maxHeartbeats 4000000
/-! the __init__ of a class above: C.__init__(self, ..); a thing of one of several own classes with the same first fields: its fields, ==, isinstance -/
namespace Dh
open PySem PySem.Spec PyProof.Rows L2
section
variable {X : Cx} {CX : CXT} {k : Nat} {f C : Addr} {fd : FuncData} {ps : List Str} {sp : Sp} {E : L2.St → XK} {m : Str} {pos apos : Pos} {o e : Expr} {es : List Expr} {mc : Value} {t : TA} {a b : Expr} {ta tb : TE} {op : CmpOp}
/-- C.m, C a class, m a def of it -/
structure BaseF (K : PySem.W.Frag) (C : Addr) (m : Str) (f : Addr) : Prop where
  rd : PySem.W.readsIn K C (.type "type") = true
  ga : PySem.W.specialIn K (.ref C) "__getattribute__" = some (some (.builtin "type.__getattribute__"))
  at_ : PySem.W.findCls K (.ref C) (.type "type") m = some (.val (.ref f))
theorem pe_baseF {pl : Sem Bool} (he : PE X o (tC (.ref C))) (c : BaseF X.K C m f) (kp : PySem.W.keepIn X.K (.ref f) = true) (F : FnOk X.prog X.w X.K X.mg X.base CX k f fd ps sp) (hr : Room k X.A) (hb : Binds X.K fd ps []) (hx : ∀ σ, PassesAt CX X σ (E σ)) (ha : PA X (e :: es) t)
    (hst : starEach (e :: es) X.env = (false, eval e X.env) :: starEach es X.env := by rfl) (hpl : (backTo pos (starEach es X.env)).any (·.1) = false := by rfl)
    (ht : eval (.Call (.Attribute o m apos) (e :: es) [] pos) X.env = (do
      let ov ← eval o X.env
      standAt apos.atName
      let (f, first) ← holding [ov] (getMethod ov m pl)
      callWith pos f first (backTo pos (starEach (e :: es) X.env)) (backToKw pos (keywordEach [] X.env))) := by rfl) :
    PE X (.Call (.Attribute o m apos) (e :: es) [] pos) (tCallS sp E t) := by
  refine ⟨fun pins s σ H Q I h => ?_⟩
  refine PySem.W.methodCall_KW (pl := pl) (thn (he.run pins s σ H (fun x H1 => x = .ref C ∧ H1 = H) I ⟨rfl, rfl⟩) fun u s1 ⟨x, H1, I1, rx, ex, eh⟩ => ?_) ht
  subst ex; subst eh
  obtain rfl : u = Value.ref C := rx
  refine PySem.W.method_cls I1.kIn c.ga (PySem.W.cls_value I1.kIn c.rd c.at_ (handed_of (v := .ref f) rfl) ?_)
  refine PySem.W.callWith_K (first := []) (h₀ := X.base) I.ok.mod.kin kp (thn (ha.run pos pins _ σ H1 _ (I1.tok _) h) fun us s2 ⟨vs, H2, I2, r, q2⟩ => ⟨I2.kIn, ?_⟩) hst hpl
  exact run_fnA (A1 := X.A) (us := us) (vs := vs) ⟨hr, rfl⟩ F hb (hx σ) I2 r q2
/-! ### a == b, the class of b below that of a: b's def is asked first -/
theorem cmp_KR {prog : Program} {w : World} {A : Around} {E : Value → Shared → Prop} {s : Shared} {K : PySem.W.Frag} {x y D f L : Addr} {h₀ : Heap} {m : Str → Option Value} {ox oy : Obj} {od oe : Option Obj} {Q : Value → Shared → Prop} (hu : A.units < cLine) (F : Fr h₀ L s.heap m) (X₀ : K.In h₀)
    (I : PySem.W.InstAt s.heap x ox C od) (I2 : PySem.W.InstAt s.heap y oy D oe) (hsub : PySem.W.subIn K (.ref D) (.ref C) = some true) (ne : D ≠ C)
    (hs : PySem.W.findIn K (.ref D) (cmpInfo op).2.2 = some (some (.ref f))) (hf : PySem.W.isFn K (.ref f) = true)
    (h : wpAny (model prog w) A (call (.ref f) [.ref y, .ref x]) (PySem.W.CmpBack Q) E s) : wpAny (model prog w) A (richCompare op (.ref x) (.ref y)) Q E s := by
  have X := X₀.keeps F.keep
  have one : wpAny (model prog w) A (tryCompare (.ref y) (cmpInfo op).2.2 (.ref x)) (fun r s' => ∃ v, r = some v ∧ Q v s') E s := by
    unfold tryCompare
    refine wpAny_bind (PySem.W.ifBound_K X I2 hs hf (wpAny_mono h (fun v s' hv => ?_) fun _ _ e => e))
    cases v <;> first | exact hv.elim | exact wpAny_pure ⟨_, rfl, hv⟩
  unfold richCompare
  simp only [oneThing_ref]
  refine wpAny_holding (wpAny_bind (wpAny_cRoomFor hu ?_))
  refine wpAny_bind (I.type.here (wpAny_bind (I2.type.here ?_)))
  split
  · refine wpAny_bind ((PySem.W.looks_subIn X hsub).here ?_)
    simp only [if_true]
    refine wpAny_bind (wpAny_mono one (fun r s' z => ?_) fun _ _ e => e)
    obtain ⟨v, rfl, hq⟩ := z
    exact wpAny_bind (wpAny_rule (wpAny_pure hq))
  · rename_i q
    exact absurd (by simpa using q) (fun z : C = D => ne z.symm)
/-- what two classes of a family have for a comparison -/
structure CmpP (K : PySem.W.Frag) (op : CmpOp) (C D f : Addr) : Prop where
  at1 : PySem.W.findIn K (.ref C) (cmpInfo op).2.1 = some (some (.ref f))
  at2 : PySem.W.findIn K (.ref D) (cmpInfo op).2.2 = some (some (.ref f))
  fn : PySem.W.isFn K (.ref f) = true
  sb : ∃ r, PySem.W.subIn K (.ref D) (.ref C) = some r
def tCmpF (Cs : List Addr) (sp : Sp) (E : L2.St → XK) (ta tb : TE) : TE := fun σ H Q => ta σ H fun x H1 => tb σ H1 fun y H2 => ∃ a c C D, x = V.ref a ∧ y = V.ref c ∧ C ∈ Cs ∧ D ∈ Cs ∧ InsAt H2 a C ∧ InsAt H2 c D ∧ sp [x, y] H2 Q (E σ) ∧ sp [y, x] H2 Q (E σ)
theorem run_cmpF {Cs : List Addr} {pins : List (Addr × Obj)} {σ : L2.St} {H : Hp} {s : Shared} {Q : VK} {p q C D : Addr} {E : XK} (hop : ∀ a b, compareOp op a b = richCompare op a b) (c : CmpP X.K op C D f) (F : FnOk X.prog X.w X.K X.mg X.base CX k f fd ps sp) (hr : Room k X.A) (hb : Binds X.K fd ps [])
    (hx : PassesAt CX X σ E) (I : Inv X pins σ H s) (h1 : InsAt H p C) (h2 : InsAt H q D) (h : sp [.ref p, .ref q] H Q E) (h' : sp [.ref q, .ref p] H Q E) : wpAny (model X.prog X.w) X.A (compareOp op (.ref p) (.ref q)) (EP X pins σ Q) X.xe s := by
  obtain ⟨ox, od, J, _⟩ := insAt_at I h1
  obtain ⟨oy, oe, J2, _⟩ := insAt_at I h2
  obtain ⟨m, hF⟩ := I.fr
  rw [hop]
  have one := wpAny_mono (run_fnA (A1 := X.A) (us := [.ref p, .ref q]) (vs := [.ref p, .ref q]) ⟨hr, rfl⟩ F hb hx I (.cons rfl (.cons rfl .nil)) h) (fun u s' z => cmpBack_of z) fun _ _ e => e
  have two := wpAny_mono (run_fnA (A1 := X.A) (us := [.ref q, .ref p]) (vs := [.ref q, .ref p]) ⟨hr, rfl⟩ F hb hx I (.cons rfl (.cons rfl .nil)) h') (fun u s' z => cmpBack_of z) fun _ _ e => e
  obtain ⟨r, hr'⟩ := c.sb
  by_cases e : D = C
  · exact PySem.W.cmp_K (op := op) (tb := .ref D) hr.units0 hF I.ok.mod.kin J J2.type (by unfold PySem.W.notFirst; rw [e, beq_self_eq_true]; rfl) c.at1 c.fn one
  · cases r with
    | false => exact PySem.W.cmp_K (op := op) (tb := .ref D) hr.units0 hF I.ok.mod.kin J J2.type (by unfold PySem.W.notFirst; rw [hr']; simp) c.at1 c.fn one
    | true => exact cmp_KR (op := op) hr.units0 hF I.ok.mod.kin J J2 hr' e c.at2 c.fn two
theorem pe_cmpF {Cs : List Addr} (ha : PE X a ta) (hb : PE X b tb) (c : ∀ C ∈ Cs, ∀ D ∈ Cs, CmpP X.K op C D f) (F : FnOk X.prog X.w X.K X.mg X.base CX k f fd ps sp) (hr : Room k X.A) (hbd : Binds X.K fd ps []) (hx : ∀ σ, PassesAt CX X σ (E σ)) (hm : behindInMarks op b = false) (hop : ∀ a b, compareOp op a b = richCompare op a b := by intro _ _; rfl) : PE X (.Compare a [op] [b] pos) (tCmpF Cs sp E ta tb) := by
  refine ⟨fun pins s σ H Q I h => ?_⟩
  refine wpAny_Compare1 (binT (R := fun x y H2 => ∃ a c C D, x = V.ref a ∧ y = V.ref c ∧ C ∈ Cs ∧ D ∈ Cs ∧ InsAt H2 a C ∧ InsAt H2 c D ∧ sp [x, y] H2 Q (E σ) ∧ sp [y, x] H2 Q (E σ)) ha hb I h fun v u s2 x y H2 I2 rx ry q => ?_) hm
  obtain ⟨p, q', C, D, ex, ey, hC, hD, h1, h2, q, q2⟩ := q
  subst ex; subst ey
  obtain rfl : v = Value.ref p := rx
  obtain rfl : u = Value.ref q' := ry
  exact run_cmpF (Cs := Cs) hop (c C hC D hD) F hr hbd (hx σ) I2 h1 h2 q q2
theorem pt_cmpF {Cs : List Addr} (ha : PE X a ta) (hb : PE X b tb) (c : ∀ C ∈ Cs, ∀ D ∈ Cs, CmpP X.K op C D f) (F : FnOk X.prog X.w X.K X.mg X.base CX k f fd ps sp) (hr : Room k X.A) (hbd : Binds X.K fd ps []) (hx : ∀ σ, PassesAt CX X σ (E σ)) (hm : behindInMarks op b = false) (hop : ∀ a b, compareOp op a b = richCompare op a b := by intro _ _; rfl) : PT X (.Compare a [op] [b] pos) (tTest (tCmpF Cs sp E ta tb)) := by
  refine ⟨fun pins s σ H Q I h => ?_⟩
  refine wpAny_isTrue_Compare1 (thn (ha.run pins s σ H _ I h) fun v s1 ⟨x, H1, I1, r1, q1⟩ => thn (hb.run pins s1 σ H1 _ I1 q1) fun u s2 ⟨y, H2, I2, r2, p, q', C, D, ex, ey, hC, hD, h1, h2, q, q2⟩ => ?_) hm
  subst ex; subst ey
  obtain rfl : v = Value.ref p := r1
  obtain rfl : u = Value.ref q' := r2
  refine thn (run_cmpF (Cs := Cs) hop (c C hC D hD) F hr hbd (hx σ) I2 h1 h2 q q2) fun c s3 ⟨z, H3, I3, r3, k, e, q3⟩ => ?_
  subst e
  cases r3
  exact wpAny_truthy_bool ⟨H3, I3, q3⟩
end
theorem al_0 {p : Addr → Prop} : ∀ x ∈ ([] : List Addr), p x := fun _ h => nomatch h
theorem al_c {p : Addr → Prop} {a : Addr} {l : List Addr} (h : p a) (t : ∀ x ∈ l, p x) : ∀ x ∈ a :: l, p x := fun x hx => by
  rcases List.mem_cons.mp hx with e | e
  · rw [e]; exact h
  · exact t x e
end Dh
namespace Mi
open PySem PySem.Spec L2 Dh
open _root_.Evl (Ex)
section
variable {K : PySem.W.Frag} {b : Bs} {G Gx : List Sl} {α β γ γ' δ τ τ' ρ ε ε' θ : Type} {Gn : τ → List Sl} {Gl : θ → List Sl} {ro : ρ → V → Hp → Hp → Prop} {σ : L2.St} {F H F' H' : Hp} {x : Xp ε} {x' : Xp ε'} {j : ε' → ε} {gx : List Sl → Prop} {kx : ε → Prop} {W : WX}
theorem xs_rr {y : Xp δ} {z : Xp γ} {jj : ε → δ} (h : XSub x y jj) : XSub x (xOr z y) (fun e => .inr (jj e)) := fun e cls d F q => h e cls d F q
/-! ### C.__init__(self, ..) of a class above -/
theorem sub_any : ∀ {G : List Sl} {i : Nat}, Sub G (G.set i any)
  | [], _ => .nil
  | s :: g, 0 => .drop (Sub.refl g)
  | s :: g, i + 1 => .keep sub_any
theorem owns_lose {p : Addr} {c : C γ} {y : γ} : ∀ {G : List Sl} {i : Nat}, G[i]? = some (own p c y) → (owns G).Nodup → p ∉ owns (G.set i any)
  | [], i, h, _ => by simp at h
  | s :: g, 0, h, nd => by
    have h : s = own p c y := by simpa using h
    subst h
    have nd : ([p] ++ owns g).Nodup := nd
    have := (List.nodup_append.mp nd).2.2
    show p ∉ ([] : List Addr) ++ owns g
    rw [List.nil_append]
    exact fun m => this p (List.mem_singleton_self _) p m rfl
  | s :: g, i + 1, h, nd => by
    have nd : (s.ow ++ owns g).Nodup := nd
    have h2 := List.nodup_append.mp nd
    show p ∉ s.ow ++ owns (g.set i any)
    intro m
    rcases List.mem_append.mp m with m | m
    · exact h2.2.2 p m p (mem_owns (by simpa using h) List.mem_cons_self) rfl
    · exact owns_lose (by simpa using h) h2.2.1 m
theorem Env.lose {c : C γ} {y : γ} {i : Nat} {p : Addr} (V : Env b G σ F H) (hi : G[i]? = some (own p c y)) (A : After F H [p] F' H') : Env b (G.set i any) σ F' H' := by
  have V0 := V.sub (sub_any (i := i))
  refine V.step0 A (fun q hq => by rw [List.mem_singleton.mp hq]; exact mem_owns hi List.mem_cons_self) (fun q hq => (sub_any (G := G) (i := i)).owns.subset hq) V0.nd (V0.hold.up A.ff fun q hq u h => A.hh q u (fun z => ?_) h)
  rw [List.mem_singleton.mp z] at hq
  exact owns_lose hi V.nd hq
theorem s_baseI {Cl : Addr} {s : RI α} {fk : FK β} {g : α → (β → Prop) → (ε' → Prop) → Prop} {i : Nat} {p : Addr} {ta : TA} {f : (α → Prop) → Prop} (O : Out b gx x kx W) (hgx : gx (G.set i any)) (hj : XSub x' x j) (hi : G[i]? = some (own p (cIns Cl fNil) ())) (h : Ar b G ta s f) :
    S b G (tDrop (tCallS (spI Cl s fk x' g) (WE W) (tCons (tVar i) ta))) (fun y : β => G.set i (own p (cIns Cl fk) y)) Gl ro (fun d => f fun a => g a d.nx fun e => kx (j e)) := fun σ F H D d V q w1 _ _ _ => by
  obtain ⟨o, h1, rfl, _⟩ := V.hold.at_ hi
  refine ⟨.ref p, h1, ?_⟩
  refine h _ V q ?_
  intro a vs F1 H1 q1 A1 V1 r1
  obtain ⟨f1, B1⟩ := V1.cAt hi
  obtain ⟨u, hu, dx, fs, rfl, hfs⟩ := B1
  have hfs : fs = [] := hfs
  subst hfs
  exact ⟨p, dx, vs, a, F1, d.nx, fun e => kx (j e), rfl, hu, f1, V1.fh, r1, q1, fun y F2 H2 q2 A2 f2 B2 => w1 y σ F2 H2 q2 (A1.ff.trans A2.ff) (V1.cNew hi A2 B2), fun e cls dd F2 H2 q2 A2 hx => O hgx q2 (V1.lose hi A2) (hj _ _ _ _ hx)⟩
/-- an __init__ that goes on where another one stopped -/
def spJ (Cl : Addr) (s0 : FK γ) (s : RI α) (fk : FK β) (g : γ → α → (β → Prop) → Prop) : Sp := fun vs H Q _ => ∃ (p : Addr) (ws : List V) (y0 : γ) (a : α) (F : Hp) (k : β → Prop), vs = .ref p :: ws ∧ F p = none ∧ CAt (cIns Cl s0) y0 F H p ∧ Ex F H ∧ s.h a ws F ∧ g y0 a k ∧
  (∀ y F' H', k y → After F H [p] F' H' → F' p = none → CAt (cIns Cl fk) y F' H' p → Q .non H')
theorem spJ_len {Cl : Addr} {s0 : FK γ} {s : RI α} {fk : FK β} {g : γ → α → (β → Prop) → Prop} {vs : List V} {Q : VK} {Ek : XK} (h : spJ Cl s0 s fk g vs H Q Ek) : vs.length = s.n + 1 := by
  obtain ⟨p, ws, y0, a, F, k, rfl, _, _, _, hs, _⟩ := h; rw [List.length_cons, s.ln hs]
theorem run_J {Cl : Addr} {s0 : FK γ} {s : RI α} {fk : FK β} {g : γ → α → (β → Prop) → Prop} {N : List Str} {m : Nat} {t : TS} {vs : List V} {Q : VK} {Ek : XK} {f : γ → α → Pd β Unit Unit → Prop} (h : spJ Cl s0 s fk g vs H Q Ek) (hN : N.length = s.n + 1 + m)
    (hS : ∀ b p y0 a, b.M = [p] → S b (own p (cIns Cl s0) y0 :: (s.sl a ++ List.replicate m any)) t (fun y : β => own p (cIns Cl fk) y :: List.replicate (s.n + m) any) (fun _ : Unit => []) (fun _ _ _ _ => False) (f y0 a))
    (hg : ∀ y0 a k, g y0 a k → f y0 a ⟨k, fun _ => False, fun _ => False, fun _ => False⟩) : t { nx := fun _ H' => Q .non H', rt := Q } (L2.start N vs) H := by
  obtain ⟨p, ws, y0, a, F, k, rfl, fp, ⟨u, hu, hc⟩, e, hs, q, w⟩ := h
  have ml : ∀ q ∈ [p], H q ≠ none := fun q hq => by rw [List.mem_singleton.mp hq, hu]; exact fun z => nomatch z
  refine S.go (hS ⟨F, H, [p], ml⟩ p y0 a rfl) (L2.start N (.ref p :: ws)) F H _ ⟨k, fun _ => False, fun _ => False, fun _ => False⟩ (ownstart e fp hu hc hs hN ml) (hg y0 a k q) (fun y σ' F' H' hk _ V' => ?_) (fun _ _ _ _ h => h.elim) (fun _ _ _ _ h => h.elim) (fun _ _ _ _ h => h.elim)
  obtain ⟨f1, B1⟩ := V'.cAt (i := 0) (p := p) (c := cIns Cl fk) (y := y) rfl
  exact w y F' H' hk V'.after f1 B1
theorem s_baseJ {Cl : Addr} {s0 : FK γ} {y0 : γ} {s : RI α} {fk : FK β} {g : γ → α → (β → Prop) → Prop} {i : Nat} {p : Addr} {ta : TA} {f : (α → Prop) → Prop} {Ek : L2.St → XK} (hi : G[i]? = some (own p (cIns Cl s0) y0)) (h : Ar b G ta s f) :
    S b G (tDrop (tCallS (spJ Cl s0 s fk g) Ek (tCons (tVar i) ta))) (fun y : β => G.set i (own p (cIns Cl fk) y)) Gl ro (fun d => f fun a => g y0 a d.nx) := fun σ F H D d V q w1 _ _ _ => by
  obtain ⟨o, h1, rfl, _⟩ := V.hold.at_ hi
  refine ⟨.ref p, h1, ?_⟩
  refine h _ V q ?_
  intro a vs F1 H1 q1 A1 V1 r1
  obtain ⟨f1, B1⟩ := V1.cAt hi
  exact ⟨p, vs, y0, a, F1, d.nx, rfl, f1, B1, V1.fh, r1, q1, fun y F2 H2 q2 A2 f2 B2 => w1 y σ F2 H2 q2 (A1.ff.trans A2.ff) (V1.cNew hi A2 B2)⟩
/-! ### a thing of one of the classes Cs, whose first fields are those of s; names of the others: xs -/
def rFm (Cs : List Addr) (s : FK γ) (xs : List Str) : R γ := ⟨fun c v F => ∃ p C dx fs0 fs1, v = .ref p ∧ F p = some (.ins C dx (fs0 ++ fs1)) ∧ C ∈ Cs ∧ s.h c fs0 F ∧ ∀ z ∈ fs1, z.1 ∈ xs, fun e ⟨p, C, dx, fs0, fs1, h1, h2, h3, h4, h5⟩ => ⟨p, C, dx, fs0, fs1, h1, e _ _ h2, h3, s.ex e h4, h5⟩⟩
theorem nn_fm {Cs : List Addr} {s : FK γ} {xs : List Str} : NN (rFm Cs s xs) := fun ⟨p, C, dx, fs0, fs1, h1, _⟩ => by rw [h1]; exact fun z => nomatch z
theorem look_app {n : Str} {v : V} : ∀ {fs0 fs1 : List (Str × V)}, fs0.lookup n = some v → (fs0 ++ fs1).lookup n = some v
  | [], _, h => by cases h
  | (m, u) :: r, fs1, h => by
    rw [List.lookup_cons] at h
    rw [List.cons_append, List.lookup_cons]
    cases q : n == m with
    | true => rw [q] at h; exact h
    | false => rw [q] at h; exact look_app h
/-- the fields of s ahead, then others -/
def FPre (s : FK γ) (s' : FK δ) (g : δ → γ) (xs : List Str) : Prop := ∀ {d fs F}, s'.h d fs F → ∃ fs0 fs1, fs = fs0 ++ fs1 ∧ s.h (g d) fs0 F ∧ ∀ z ∈ fs1, z.1 ∈ xs
theorem fp_refl {s : FK γ} {xs : List Str} : FPre s s (fun d => d) xs := fun {d fs F} h => ⟨fs, [], by rw [List.append_nil], h, fun _ h => nomatch h⟩
theorem fp_one {n : Str} {r : R α} {s : FK β} {xs : List Str} (hs : ∀ z ∈ s.ns, z ∈ xs) : FPre (fOne n r) (fCons n r s) (fun d => d.1) xs := fun ⟨v, ws, e, h, h2⟩ => ⟨[(n, v)], ws, e, ⟨v, rfl, h⟩, fun z hz => hs _ (by rw [← s.nn h2]; exact List.mem_map_of_mem hz)⟩
theorem fp_cons {n : Str} {r : R α} {s : FK γ} {s' : FK δ} {g : δ → γ} {xs : List Str} (h : FPre s s' g xs) : FPre (fCons n r s) (fCons n r s') (fun d => (d.1, g d.2)) xs := fun ⟨v, ws, e, h1, h2⟩ => by
  obtain ⟨fs0, fs1, e2, h3, h4⟩ := h h2
  exact ⟨(n, v) :: fs0, fs1, by rw [e, e2]; rfl, ⟨v, fs0, rfl, h1, h3⟩, h4⟩
theorem e_toFm {Cs : List Addr} {Cl : Addr} {s : FK γ} {s' : FK δ} {g : δ → γ} {xs : List Str} {te : TE} {f : (δ → Prop) → Prop} (hc : Cl ∈ Cs) (hp : FPre s s' g xs) (h : E b G te (rIns Cl s') f) : E b G te (rFm Cs s xs) (fun k => f fun d => k (g d)) := fun _ _ _ _ k V q w => h _ V q fun d v F' H' q' A V' ⟨p, dx, fs, h1, h2, h3⟩ => by
  obtain ⟨fs0, fs1, e, h4, h5⟩ := hp h3
  subst e
  exact w _ v F' H' q' A V' ⟨p, Cl, dx, fs0, fs1, h1, h2, hc, h4, h5⟩
/-- e.n -/
theorem e_fldFm {Cs : List Addr} {s : FK γ} {xs : List Str} {n : Str} {r : R β} {g : γ → β} {te : TE} {f : (γ → Prop) → Prop} (cl : ∀ C ∈ Cs, Cls K C) (na : ∀ C ∈ Cs, NoAttr K C n) (hn : FAt s n r g) (h : E b G te (rFm Cs s xs) f) : E b G (tFld K te n) r (fun k => f fun a => k (g a)) := fun _ _ _ _ k V q w => by
  refine h _ V q ?_
  rintro a v F1 H1 q1 A1 V1 ⟨p, C, dx, fs0, fs1, rfl, hp, hC, hs, _⟩
  obtain ⟨u, hu, hr⟩ := hn hs
  exact ⟨p, C, dx, _, u, rfl, V1.fh _ _ hp, cl C hC, na C hC, look_app hu, w _ u F1 H1 q1 A1 V1 hr⟩
/-- isinstance(e, D), the same for all of them -/
theorem e_isFm {Cs : List Addr} {s : FK γ} {xs : List Str} {te : TE} {f : (γ → Prop) → Prop} {D : Addr} {r : Bool} (T : ∀ C ∈ Cs, InsT K C (.ref D) r) (h : E b G te (rFm Cs s xs) f) : E b G (tCB (rIsi K) (tCons te (tCons (tC (.ref D)) tNil))) rBl (fun k => f fun _ => k r) := fun _ _ _ _ k V q w => by
  refine h _ V q ?_
  rintro c v F1 H1 q1 A1 V1 ⟨p, C, dx, fs0, fs1, rfl, hp, hC, _, _⟩
  have T := T C hC
  exact ⟨_, _, _, _, r, rfl, .own _, .base (.ins (V1.fh _ _ hp) T.cl T.ha T.hn T.htk T.hm), T.k, w _ _ F1 H1 q1 A1 V1 rfl⟩
/-- a == b -/
theorem e_cmpFm {Cs : List Addr} {s : FK γ} {xs : List Str} {r : R β} {g : γ × γ → (β → Prop) → Prop} {Ek : L2.St → XK} {te ti : TE} {f f2 : (γ → Prop) → Prop} (he : E b G te (rFm Cs s xs) f) (h : E b G ti (rFm Cs s xs) f2) :
    E b G (tCmpF Cs (spP (rCons (rFm Cs s xs) (rOne (rFm Cs s xs))) r g) Ek te ti) r (fun k => f fun y => f2 fun x => g (y, x) k ∧ g (x, y) k) := fun σ F H Q k V q w => by
  refine he _ V q ?_
  rintro y v F0 H0 q0 A0 V0 ⟨p, C, dx, fs0, fs1, rfl, hp, hC, hs, hn⟩
  refine h _ V0 q0 ?_
  rintro x v F1 H1 q1 A1 V1 ⟨p2, D, dx2, gs0, gs1, rfl, hp2, hD, hs2, hn2⟩
  have hp1 := A1.ff _ _ hp
  have r1 : (rFm Cs s xs).h y (.ref p) F1 := ⟨p, C, dx, fs0, fs1, rfl, hp1, hC, s.ex A1.ff hs, hn⟩
  have r2 : (rFm Cs s xs).h x (.ref p2) F1 := ⟨p2, D, dx2, gs0, gs1, rfl, hp2, hD, hs2, hn2⟩
  have fin : ∀ z v F2 H2, k z → After F1 H1 [] F2 H2 → r.h z v F2 → Q v H2 := fun z v F2 H2 q2 A2 r3 => w z v F2 H2 q2 ((A0.trans A1).trans (A2.mono fun _ h => nomatch h)) (V1.step A2) r3
  exact ⟨p, p2, C, D, rfl, rfl, hC, hD, ⟨dx, _, V1.fh _ _ hp1⟩, ⟨dx2, _, V1.fh _ _ hp2⟩, ⟨(y, x), F1, k, V1.fh, ⟨.ref p, [.ref p2], rfl, r1, ⟨.ref p2, rfl, r2⟩⟩, q1.1, fin⟩, ⟨(x, y), F1, k, V1.fh, ⟨.ref p2, [.ref p], rfl, r2, ⟨.ref p, rfl, r1⟩⟩, q1.2, fin⟩⟩
end
end Mi
/-! OpBin -/
set_option Elab.async false
set_option linter.all false
set_option maxRecDepth 100000
set_option maxHeartbeats 4000000
/-! a op b, the things of two own classes; attributes that a class lacks -/
namespace Dh
open PySem PySem.Spec PyProof.Rows L2
section
variable {α : Type} {prog : Program} {w : World} {A : Around} {E : Value → Shared → Prop} {s : Shared} {K : PySem.W.Frag} {x y C D L f : Addr} {h₀ : Heap} {m : Str → Option Value} {ox oy : Obj} {od oe : Option Obj} {name : Str} {tk : Tok}
theorem raise_attr {msg : Str} {Q : α → Shared → Prop} (hh : A.handled = none)
    (h : ∀ h' tk e, (∀ b ob, s.heap.get? b = some ob → h'.get? b = some ob) → (∃ o, h'.get? e = some o ∧ o.cls = .type "AttributeError") → E (.ref e) { s with heap := h', toks := tk }) (hm : msg.length ≤ sizeLine) :
    wpAny (model prog w) A (raiseErrorStr "AttributeError" msg : Sem α) Q E s := by
  unfold raiseErrorStr
  refine wpAny_bind (wpAny_mkStr (wpAny_bind ?_) hm)
  unfold newExc newTuple
  refine wpAny_bind (wpAny_newObj_type ?_ (by size_fits))
  refine wpAny_bind (m := firstArgMember _ _) (wpAny_of_eq (a := Value.none) (by simp only [firstArgMember, attrError_no_first]; rfl) ?_)
  rw [ownMembersOf_AttributeError]
  refine wpAny_newObj_type ?_ (by size_fits)
  unfold raiseNew
  refine wpAny_bind (wpAny_handled ?_)
  rw [hh]
  first
    | refine wpAny_throw ?_
    | refine wpAny_bind (wpAny_pure (wpAny_throw ?_))
  exact h _ _ _ (fun b o hb => Heap.get?_push_of_some _ (Heap.get?_push_of_some _ hb)) ⟨_, Heap.get?_push_size _ rfl, rfl⟩
/-- the class's name is short -/
def cutCd (cd : ClassData) : Bool := decide (cd.name.cps.foldl (fun k c => k + (Str.utf8Of c).length) 0 ≤ 100) && decide (cd.name.toString.length ≤ 200)
def AttrE (s : Shared) (E : Value → Shared → Prop) : Prop := ∀ h' tk e, (∀ b ob, s.heap.get? b = some ob → h'.get? b = some ob) → (∃ o, h'.get? e = some o ∧ o.cls = .type "AttributeError") → E (.ref e) { s with heap := h', toks := tk }
/-- what of the text a class must have that lacks the name -/
structure LacksA (K : PySem.W.Frag) (C : Addr) (name : Str) : Prop where
  rd : PySem.W.readsIn K C (.type "type") = true
  mt : PySem.W.findIn K (.type "type") name = some none
  at_ : PySem.W.findIn K (.ref C) name = some none
  cd : ∃ cd, PySem.W.clsIn K C = some cd ∧ cutCd cd = true
  short : name.length ≤ 100
theorem tga_miss {Q : Fin → Shared → Prop} (X : K.In s.heap) (c : LacksA K C name) (hh : A.handled = none) (h : AttrE s E) : wpAny (model prog w) A (Builtin.«type.__getattribute__» ⟨[.ref C, .str name tk], []⟩) Q E s := by
  obtain ⟨rd, mt, at_, ⟨cd, hcd, hcut⟩, short⟩ := c
  simp only [PySem.W.readsIn, Bool.and_eq_true, beq_iff_eq] at rd
  obtain ⟨⟨⟨⟨r1, r2⟩, r3⟩, r4⟩, r5⟩ := rd
  obtain ⟨hp, g, d, t, os⟩ := s
  have ho := PySem.W.looks_opaque (M := model prog w) (C := C) X r1
  have ht := PySem.W.looks_typeIn (M := model prog w) X r2
  have L1 := PySem.W.looks_findIn (M := model prog w) X mt
  have L2 := PySem.W.looks_findIn (M := model prog w) X at_
  have L3 := PySem.W.looks_clsIn (M := model prog w) X hcd
  unfold cutCd at hcut
  rw [Bool.and_eq_true, decide_eq_true_iff, decide_eq_true_iff] at hcut
  unfold Builtin.«type.__getattribute__»
  refine wpAny_bind (wpAny_pure (wpAny_bind (ho.at (wpAny_bind (ht.at (wpAny_bind (L1.at ?_)))))))
  refine wpAny_bind (wpAny_pure ?_)
  refine wpAny_bind (L2.at ?_)
  refine wpAny_bind (wpAny_rule ?_)
  unfold typeNameCut
  refine wpAny_bind (wpAny_bind (L3.at ?_))
  rw [if_pos hcut.1]
  refine wpAny_pure ?_
  refine raise_attr hh (fun h' tk e k n => h h' tk e k n) ?_
  have := hcut.2
  have big : (1000 : Nat) < sizeLine := by decide
  rw [strLen_append, strLen_append, PySem.ofString_length, PySem.ofString_length]
  have e1 : "'".length = 1 := by decide
  have e2 : "type object '".length = 13 := by decide
  have e3 : "' has no attribute '".length = 20 := by decide
  simp only [String.length_append, toString] at *
  omega
theorem attr_miss {Q : Option Value → Shared → Prop} (X : K.In s.heap) (c : LacksA K C name) (hh : A.handled = none) (h : ∀ h' tk, (∀ b ob, s.heap.get? b = some ob → h'.get? b = some ob) → Q none { s with heap := h', toks := tk }) :
    wpAny (model prog w) A (getAttrBy? (.ref C) (.str name tk)) Q E s := by
  have c0 := c
  obtain ⟨rd, mt, at_, _, short⟩ := c
  simp only [PySem.W.readsIn, Bool.and_eq_true, beq_iff_eq] at rd
  obtain ⟨⟨⟨⟨r1, r2⟩, r3⟩, r4⟩, r5⟩ := rd
  have ht := PySem.W.looks_typeIn (M := model prog w) X r2
  have hi := PySem.W.looks_subIn (M := model prog w) X r5
  have f1 := sub_AttributeError
  unfold getAttrBy? getAttrBy
  refine wpAny_bind (wpAny_attempt (wpAny_holding (wpAny_bind (ht.here (wpAny_bind ((PySem.W.looks_findIn X r3).here ?_))))))
  dsimp only
  rw [show (onTheHeap (Value.type "type") && Value.builtin "type.__getattribute__" == Value.builtin "object.__getattribute__") = false from rfl, if_neg (by decide)]
  unfold getAttrByItsOwn
  refine wpAny_bind ?_
  show wpAny _ _ (hookBefore (.type "type")) _ _ _
  unfold hookBefore
  refine wpAny_pure ?_
  refine wpAny_bind (wpAny_attempt (wpAny_holding ?_))
  unfold callGetattribute
  rw [show (false && onTheHeap (Value.builtin "type.__getattribute__")) = false from rfl, if_neg (by decide)]
  unfold boundAndCalled
  rw [PySem.W.KF.slot_tga.bind]
  refine wpAny_bind (wpAny_pure ?_)
  show wpAny _ _ (call (.builtin "type.__getattribute__") [.ref C, .str name tk]) _ _ _
  refine wpAny_call ?_
  refine codeAny_call_builtin PySem.W.KF.slot_tga.plain PySem.W.KF.entry_tga ?_
  refine @PySem.W.check_slot (model prog w) _ _ s "type.__getattribute__" "type" "__getattribute__" (.ref C) [.str name tk] [] _ (by decide +kernel) (by decide +kernel) (ht.andThen hi) (PySem.W.KF.args_tga (.ref C) (.str name tk)) ?_
  refine tga_miss X c0 hh (fun h' tk' e k n => ?_)
  obtain ⟨⟨oc, od, odat, osl⟩, ho, hc⟩ := n
  simp only at hc
  subst hc
  show wpAny _ _ (getattributeRaised _ _ _ _ _ _ _) _ _ _
  unfold getattributeRaised
  obtain ⟨hp, g, d, t, os⟩ := s
  have m1 : typeLookup (.type "type") "__getattr__" = pure none := am_miss_of_fast (by kernel_rfl)
  repeat (any_goals (first | assumption | wp_step))
  exact h _ _ k
theorem refl_miss {nm : String} {Q : Bool → Shared → Prop} (X : K.In s.heap) (L6 : PySem.W.Looks (model prog w) s.heap (numberSlotInPython (.ref C) nm) true) (L7 : PySem.W.Looks (model prog w) s.heap (numberSlotInPython (.ref D) nm) true) (c : LacksA K D (dunderR nm)) (hh : A.handled = none)
    (h : ∀ h' tk, (∀ b ob, s.heap.get? b = some ob → h'.get? b = some ob) → Q false { s with heap := h', toks := tk }) : wpAny (model prog w) A (reflectedDiffers (.ref C) (.ref D) nm) Q E s := by
  obtain ⟨hp, g, d, tt, os⟩ := s
  unfold reflectedDiffers
  refine wpAny_bind (L6.at ?_)
  simp only [Bool.not_true, Bool.false_eq_true, if_false]
  refine wpAny_bind (L7.at ?_)
  simp only [Bool.not_true, Bool.false_eq_true, if_false]
  refine wpAny_bind (wpAny_mkStr ?_ (by have := c.short; have : (1000 : Nat) < sizeLine := by decide
                                        omega))
  refine wpAny_bind (attr_miss X c hh fun h' tk k => ?_)
  exact wpAny_pure (h h' tk k)
theorem inst_keeps {h h' : Heap} (I : PySem.W.InstAt h x ox C od) (k : ∀ b ob, h.get? b = some ob → h'.get? b = some ob) : PySem.W.InstAt h' x ox C od := by
  obtain ⟨a, b, c, d⟩ := I
  refine ⟨k _ _ a, b, c, ?_⟩
  revert d
  cases ox.dict with
  | none => cases od <;> exact fun d => d
  | some dx =>
    cases od with
    | none => exact fun d => d
    | some o => exact fun d => k _ _ d
/-- a op b, the things of two own classes that have the operator and not the turned one -/
theorem bin_own {g : Addr} {op : Operator} {Q : Value → Shared → Prop} (Fr0 : PyProof.Rows.Fr h₀ L s.heap m) (X₀ : K.In h₀) (I : PySem.W.InstAt s.heap x ox C od) (J : PySem.W.InstAt s.heap y oy D oe) (hc : PySem.W.selfFirst K C = true) (hcD : PySem.W.selfFirst K D = true)
    (hs : PySem.W.findIn K (.ref C) (PySem.dunder op.info.2) = some (some (.ref f))) (hf : PySem.W.isFn K (.ref f) = true) (hr : PySem.W.findIn K (.ref C) (dunderR op.info.2) = some none)
    (hs2 : PySem.W.findIn K (.ref D) (PySem.dunder op.info.2) = some (some (.ref g))) (hr2 : LacksA K D (dunderR op.info.2)) (hsub : ∃ r, PySem.W.subIn K (.ref D) (.ref C) = some r) (hh : A.handled = none)
    (h : ∀ h' tk, (∀ b ob, s.heap.get? b = some ob → h'.get? b = some ob) → wpAny (model prog w) A (call (.ref f) [.ref x, .ref y]) (PySem.W.CmpBack Q) E { s with heap := h', toks := tk }) : wpAny (model prog w) A (binaryOp op (.ref x) (.ref y)) Q E s := by
  have X := X₀.keeps Fr0.keep
  obtain ⟨cd, rest, hcd, hm⟩ := PySem.W.ksp_first hc
  obtain ⟨cd2, rest2, hcd2, hm2⟩ := PySem.W.ksp_first hcD
  have r2 := hr2.at_
  have short := hr2.short
  rcases hi : op.info with ⟨sym, nm'⟩
  rw [hi] at hs hr hs2 r2 hr2 short
  dsimp only at hs hr hs2 r2 hr2 short
  obtain ⟨rr, hsub⟩ := hsub
  have one : ∀ h' tk, (∀ b ob, s.heap.get? b = some ob → h'.get? b = some ob) → wpAny (model prog w) A (tryMethod (.ref x) (PySem.dunder nm') (.ref y)) (fun r s' => ∃ v, r = some v ∧ Q v s') E { s with heap := h', toks := tk } := fun h' tk k => PySem.W.ksp_try (X.keeps k) (inst_keeps I k) hs hf (h h' tk k)
  obtain ⟨hp, g', d, tt, os⟩ := s
  have L1 : PySem.W.Looks (model prog w) hp (typeOf (.ref x)) (.ref C) := I.type
  have L2 : PySem.W.Looks (model prog w) hp (typeOf (.ref y)) (.ref D) := J.type
  have L3 : PySem.W.Looks (model prog w) hp (fillsNumberSlot (.ref C) nm') true := PySem.W.fills_K X hcd hm hs
  have L4 : PySem.W.Looks (model prog w) hp (fillsNumberSlot (.ref D) nm') true := PySem.W.fills_K X hcd2 hm2 hs2
  have L5 : PySem.W.Looks (model prog w) hp (isSubtype (.ref D) (.ref C)) rr := PySem.W.looks_subIn X hsub
  have L6 : PySem.W.Looks (model prog w) hp (numberSlotInPython (.ref C) nm') true := PySem.W.ksp_inPy X hs hr (.inl rfl)
  have L7 : PySem.W.Looks (model prog w) hp (numberSlotInPython (.ref D) nm') true := PySem.W.ksp_inPy X hs2 r2 (.inl rfl)
  simp only [binaryOp, hi]
  refine wpAny_holding (wpAny_bind ?_)
  unfold binaryOp1
  refine wpAny_bind (L1.at (wpAny_bind (L2.at (wpAny_bind (L3.at ?_)))))
  by_cases e : (Value.ref C == Value.ref D) = true
  · simp only [e, if_true]
    ksp_lk
    refine wpAny_mono (one hp tt fun _ _ z => z) (fun r s' hr' => ?_) fun _ _ e => e
    obtain ⟨v, rfl, hq⟩ := hr'
    ksp_lk
    exact hq
  · have e : (Value.ref C == Value.ref D) = false := by simpa using e
    simp only [e, Bool.false_eq_true, if_false]
    refine wpAny_bind (L4.at ?_)
    simp only [Bool.and_self, if_true]
    refine wpAny_bind (L5.at ?_)
    cases rr with
    | false =>
      simp only [Bool.false_eq_true, if_false]
      ksp_lk
      refine wpAny_mono (one hp tt fun _ _ z => z) (fun r s' hr' => ?_) fun _ _ e => e
      obtain ⟨v, rfl, hq⟩ := hr'
      ksp_lk
      exact hq
    | true =>
      simp only [if_true]
      refine wpAny_bind (refl_miss (s := ⟨hp, g', d, tt, os⟩) X L6 L7 hr2 hh fun h' tk k => ?_)
      have L1 := L1.keeps k
      have L2 := L2.keeps k
      have L6 := L6.keeps k
      have L7 := L7.keeps k
      simp only [Bool.false_eq_true, if_false]
      ksp_lk
      refine wpAny_mono (one h' tk k) (fun r s' hr' => ?_) fun _ _ e => e
      obtain ⟨v, rfl, hq⟩ := hr'
      ksp_lk
      exact hq
end
end Dh
/-! OpGe -/
set_option Elab.async false
set_option linter.all false
set_option maxRecDepth 100000
set_option maxHeartbeats 4000000
/-! a <= b of two own classes, the class of b below that of a: b's turned one is object's, and declines -/
namespace Dh
open PySem PySem.Spec PyProof.Rows L2 PySem.F
section
variable {prog : Program} {w : World} {A : Around} {E : Value → Shared → Prop} {s : Shared} {K : PySem.W.Frag} {x y C D L f : Addr} {h₀ : Heap} {m : Str → Option Value} {ox oy : Obj} {od oe : Option Obj}
theorem ge_run (a b : Value) : Builtin.«object.__ge__» ⟨[a, b], []⟩ = pure (.done (.ret .notImplemented)) := by kernel_rfl
theorem ge_no {b : Value} {Q : Option Value → Shared → Prop} (X : K.In s.heap) (I : PySem.W.InstAt s.heap y oy D oe) (hs : PySem.W.findIn K (.ref D) "__ge__" = some (some (.builtin "object.__ge__"))) (hi : PySem.W.subIn K (.ref D) (.type "object") = some true)
    (h : Q none s) : wpAny (model prog w) A (tryCompare (.ref y) "__ge__" b) Q E s := by
  unfold tryCompare
  have go : wpAny (model prog w) A (call (.builtin "object.__ge__") ([.ref y] ++ [b]) >>= fun v => pure (some v)) (fun r s' => wpAny (model prog w) A (match r with | some .notImplemented | none => pure none | some v => pure (some v)) Q E s') E s := by
    refine wpAny_bind (wpAny_call (codeAny_call_builtin slot_object_ge.plain entry_object_ge (@PySem.W.check_slot (model prog w) _ _ s "object.__ge__" "object" "__ge__" (.ref y) [b] [] _ (by decide +kernel) (by decide +kernel) (I.type.andThen (PySem.W.looks_subIn X hi)) (args_object_ge_2 (.ref y) b) ?_)))
    show wpAny _ _ (Builtin.«object.__ge__» ⟨[.ref y, b], []⟩) _ _ _
    rw [ge_run]
    exact wpAny_pure (wpAny_pure (wpAny_pure h))
  refine wpAny_bind ?_
  simp only [callSpecialIfBound?, bindSpecialIfBound?]
  refine wpAny_holding (wpAny_bind (wpAny_bind (wpAny_bind (I.type.here ((PySem.W.looks_findIn X hs).here ?_)))))
  refine wpAny_bind (wpAny_askSetting (wpAny_ite ?_))
  split
  · rw [slot_object_ge.bind]
    exact wpAny_bind (wpAny_pure (wpAny_pure go))
  · rw [slot_object_ge.bind]
    exact wpAny_tryCatch (wpAny_bind (wpAny_pure (wpAny_pure go)))
/-- what two classes of a family have for <= -/
structure LeP (K : PySem.W.Frag) (C D f : Addr) : Prop where
  at1 : PySem.W.findIn K (.ref C) "__le__" = some (some (.ref f))
  fn : PySem.W.isFn K (.ref f) = true
  sb : ∃ r, PySem.W.subIn K (.ref D) (.ref C) = some r
  ge : PySem.W.findIn K (.ref D) "__ge__" = some (some (.builtin "object.__ge__"))
  ob : PySem.W.subIn K (.ref D) (.type "object") = some true
theorem cmp_le {Q : Value → Shared → Prop} (hu : A.units < cLine) (F : Fr h₀ L s.heap m) (X₀ : K.In h₀) (I : PySem.W.InstAt s.heap x ox C od) (J : PySem.W.InstAt s.heap y oy D oe) (c : LeP K C D f)
    (h : wpAny (model prog w) A (call (.ref f) [.ref x, .ref y]) (PySem.W.CmpBack Q) E s) : wpAny (model prog w) A (richCompare .LtE (.ref x) (.ref y)) Q E s := by
  obtain ⟨r, hr⟩ := c.sb
  have X := X₀.keeps F.keep
  by_cases e : D = C
  · exact PySem.W.cmp_K (op := .LtE) (tb := .ref D) hu F X₀ I J.type (by unfold PySem.W.notFirst; rw [e, beq_self_eq_true]; rfl) c.at1 c.fn h
  cases r with
  | false => exact PySem.W.cmp_K (op := .LtE) (tb := .ref D) hu F X₀ I J.type (by unfold PySem.W.notFirst; rw [hr]; simp) c.at1 c.fn h
  | true =>
    have one : wpAny (model prog w) A (tryCompare (.ref x) "__le__" (.ref y)) (fun r s' => ∃ v, r = some v ∧ Q v s') E s := by
      unfold tryCompare
      refine wpAny_bind (PySem.W.ifBound_K X I c.at1 c.fn (wpAny_mono h (fun v s' hv => ?_) fun _ _ e => e))
      cases v <;> first | exact hv.elim | exact wpAny_pure ⟨_, rfl, hv⟩
    unfold richCompare
    simp only [oneThing_ref]
    refine wpAny_holding (wpAny_bind (wpAny_cRoomFor hu ?_))
    refine wpAny_bind (I.type.here (wpAny_bind (J.type.here ?_)))
    split
    · refine wpAny_bind ((PySem.W.looks_subIn X hr).here ?_)
      simp only [if_true]
      refine wpAny_bind (ge_no X J c.ge c.ob ?_)
      refine wpAny_bind (wpAny_mono one (fun r s' z => ?_) fun _ _ e => e)
      obtain ⟨v, rfl, hq⟩ := z
      exact wpAny_pure hq
    · rename_i q
      exact absurd (by simpa using q) (fun z : C = D => e z.symm)
end
end Dh
/-! Mir38 -/
set_option Elab.async false
set_option linter.all false
set_option maxRecDepth 100000
set_option maxHeartbeats 4000000
/-! operators of things of one of several own classes; written tuples of numbers that are constants -/
namespace Dh
open PySem PySem.Spec PyProof.Rows L2
section
variable {X : Cx} {CX : CXT} {k : Nat} {E : L2.St → XK} {pos : Pos} {a b : Expr} {ta tb : TE} {op : Operator} {ι : Type} {C : ι → Addr} {sp : ι → Sp}
structure BinT (P : Program) (w : World) (K : PySem.W.Frag) (mg : Str → Option Value) (base : Heap) (CX : CXT) (k : Nat) (nm : Str) (C : Addr) (sp : Sp) : Prop where
  it : ∃ (f : Addr) (fd : FuncData) (ps : List Str), PySem.W.findIn K (.ref C) nm = some (some (.ref f)) ∧ PySem.W.isFn K (.ref f) = true ∧ FnOk P w K mg base CX k f fd ps sp ∧ Binds K fd ps []
structure BinC (K : PySem.W.Frag) (op : Operator) (C D : Addr) : Prop where
  s1 : PySem.W.selfFirst K C = true
  s2 : PySem.W.selfFirst K D = true
  r1 : PySem.W.findIn K (.ref C) (dunderR op.info.2) = some none
  h2 : ∃ g : Addr, PySem.W.findIn K (.ref D) (PySem.dunder op.info.2) = some (some (.ref g))
  r2 : LacksA K D (dunderR op.info.2)
  sb : ∃ r, PySem.W.subIn K (.ref D) (.ref C) = some r
def tBinI (C : ι → Addr) (sp : ι → Sp) (E : L2.St → XK) (ta tb : TE) : TE := fun σ H Q => ta σ H fun x H1 => tb σ H1 fun y H2 => ∃ i j a c, x = V.ref a ∧ y = V.ref c ∧ InsAt H2 a (C i) ∧ InsAt H2 c (C j) ∧ sp i [x, y] H2 Q (E σ)
theorem pe_binI (ha : PE X a ta) (hb : PE X b tb) (bt : ∀ i, BinT X.prog X.w X.K X.mg X.base CX k (PySem.dunder op.info.2) (C i) (sp i)) (bc : ∀ i j, BinC X.K op (C i) (C j)) (hr : Room k X.A) (hx : ∀ σ, PassesAt CX X σ (E σ)) : PE X (.BinOp a op b pos) (tBinI C sp E ta tb) := by
  refine ⟨fun pins s σ H Q I h => ?_⟩
  refine wpAny_BinOp (binT (R := fun x y H2 => ∃ i j a c, x = V.ref a ∧ y = V.ref c ∧ InsAt H2 a (C i) ∧ InsAt H2 c (C j) ∧ sp i [x, y] H2 Q (E σ)) ha hb I h fun v u s2 x y H2 I2 rx ry q => ?_)
  obtain ⟨i, j, p, q', ex, ey, h1, h2, q⟩ := q
  subst ex; subst ey
  obtain rfl : v = Value.ref p := rx
  obtain rfl : u = Value.ref q' := ry
  obtain ⟨ox, od, J, _⟩ := insAt_at I2 h1
  obtain ⟨oy, oe, J2, _⟩ := insAt_at I2 h2
  obtain ⟨m, hF⟩ := I2.fr
  obtain ⟨f, fd, ps, hf, hfn, F, hbd⟩ := (bt i).it
  obtain ⟨g, hg⟩ := (bc i j).h2
  exact bin_own hF I2.ok.mod.kin J J2 (bc i j).s1 (bc i j).s2 hf hfn (bc i j).r1 hg (bc i j).r2 (bc i j).sb hr.hd fun h' tk k => wpAny_mono (run_fnA (A1 := X.A) (us := [.ref p, .ref q']) (vs := [.ref p, .ref q']) ⟨hr, rfl⟩ F hbd (hx σ) (I2.kept (t' := tk) k) (.cons rfl (.cons rfl .nil)) q) (fun u s' z => cmpBack_of z) fun _ _ e => e
/-! ### a <= b -/
structure LeC (K : PySem.W.Frag) (C D : Addr) : Prop where
  sb : ∃ r, PySem.W.subIn K (.ref D) (.ref C) = some r
  ge : PySem.W.findIn K (.ref D) "__ge__" = some (some (.builtin "object.__ge__"))
  ob : PySem.W.subIn K (.ref D) (.type "object") = some true
theorem pe_leI (ha : PE X a ta) (hb : PE X b tb) (bt : ∀ i, BinT X.prog X.w X.K X.mg X.base CX k "__le__" (C i) (sp i)) (bc : ∀ i j, LeC X.K (C i) (C j)) (hr : Room k X.A) (hx : ∀ σ, PassesAt CX X σ (E σ)) (hm : behindInMarks .LtE b = false) : PE X (.Compare a [.LtE] [b] pos) (tBinI C sp E ta tb) := by
  refine ⟨fun pins s σ H Q I h => ?_⟩
  refine wpAny_Compare1 (binT (R := fun x y H2 => ∃ i j a c, x = V.ref a ∧ y = V.ref c ∧ InsAt H2 a (C i) ∧ InsAt H2 c (C j) ∧ sp i [x, y] H2 Q (E σ)) ha hb I h fun v u s2 x y H2 I2 rx ry q => ?_) hm
  obtain ⟨i, j, p, q', ex, ey, h1, h2, q⟩ := q
  subst ex; subst ey
  obtain rfl : v = Value.ref p := rx
  obtain rfl : u = Value.ref q' := ry
  obtain ⟨ox, od, J, _⟩ := insAt_at I2 h1
  obtain ⟨oy, oe, J2, _⟩ := insAt_at I2 h2
  obtain ⟨m, hF⟩ := I2.fr
  obtain ⟨f, fd, ps, hf, hfn, F, hbd⟩ := (bt i).it
  exact cmp_le hr.units0 hF I2.ok.mod.kin J J2 ⟨hf, hfn, (bc i j).sb, (bc i j).ge, (bc i j).ob⟩ (wpAny_mono (run_fnA (A1 := X.A) (us := [.ref p, .ref q']) (vs := [.ref p, .ref q']) ⟨hr, rfl⟩ F hbd (hx σ) I2 (.cons rfl (.cons rfl .nil)) q) (fun u s' z => cmpBack_of z) fun _ _ e => e)
end
end Dh
namespace Mi
open PySem PySem.Spec L2 Dh
open _root_.Evl (Ex)
section
variable {K : PySem.W.Frag} {b : Bs} {G Gx : List Sl} {α β γ γ' δ τ τ' ρ ε ε' θ : Type} {σ : L2.St} {F H F' H' : Hp}
/-- a op b -/
theorem e_binI {fm : Fam γ} {r : R β} {g : γ → γ → (β → Prop) → Prop} {Ek : L2.St → XK} {te ti : TE} {f f2 : (γ → Prop) → Prop} (he : E b G te (rFam fm) f) (h : E b G ti (rFam fm) f2) :
    E b G (tBinI fm.C (fun i => spP (rCons (rIns (fm.C i) (fm.s i)) (rOne (rFam fm))) r (fun x k => g (fm.val i x.1) x.2 k)) Ek te ti) r (fun k => f fun c => f2 fun x => g c x k) := fun σ F H Q k V q w => by
  refine he _ V q ?_
  rintro c v F0 H0 q0 A0 V0 ⟨i, d, rfl, p, dx, fs, rfl, hp, hs⟩
  refine h _ V0 q0 ?_
  rintro x v F1 H1 q1 A1 V1 ⟨j, d2, rfl, p2, dx2, fs2, rfl, hp2, hs2⟩
  have hp1 := A1.ff _ _ hp
  exact ⟨i, j, p, p2, rfl, rfl, ⟨dx, fs, V1.fh _ _ hp1⟩, ⟨dx2, fs2, V1.fh _ _ hp2⟩, (d, fm.val j d2), F1, k, V1.fh, ⟨.ref p, [.ref p2], rfl, ⟨p, dx, fs, rfl, hp1, (fm.s i).ex A1.ff hs⟩, .ref p2, rfl, j, d2, rfl, p2, dx2, fs2, rfl, hp2, hs2⟩, q1, fun z v F2 H2 q2 A2 r2 => w z v F2 H2 q2 ((A0.trans A1).trans (A2.mono fun _ h => nomatch h)) (V1.step A2) r2⟩
/-- a value that stands before the program runs -/
theorem e_const {r : R α} {v : V} {d : α} (h : ∀ F, r.h d v F) : E b G (tC v) r (fun k => k d) := fun _ F _ _ k V q w => w d v F _ q (.refl V.fh _) V (h F)
theorem const_t3 {a : Addr} {x y z : Int} (h : ∃ (o : Obj) (n : Nat) (t u w : Tok), K.lookup a = some o ∧ o.cls = .type "tuple" ∧ o.data = .seq #[.int x t, .int y u, .int z w] n) : ∀ F, (rTup K rInt).h [x, y, z] (.ref a) F := fun F => by
  obtain ⟨o, n, t, u, w, h1, h2, h3⟩ := h
  exact ⟨a, [.int x, .int y, .int z], rfl, .inr ⟨o, _, n, h1, h2, h3, Nat.le_of_ble_eq_true (by rw [sizeLine_eq]; rfl), .cons ⟨t, rfl⟩ (.cons ⟨u, rfl⟩ (.cons ⟨w, rfl⟩ .nil))⟩, .cons rfl (.cons rfl (.cons rfl .nil))⟩
end
end Mi
namespace Mi
open PySem PySem.Spec L2 Dh
open _root_.Evl (Ex)
section
variable {b : Bs} {G : List Sl}
/-- a.split(y) -/
theorem en_split {ta tb : TE} {f g : (Str → Prop) → Prop} (ha : E b G ta rStr f) (hb : E b G tb rStr g) :
    EN b G (tM1 (fun x xs H Q => ∃ a b, x = .str a ∧ xs = [.str b] ∧ (b.length == 0) = false ∧ a.length + 2 ≤ sizeLine ∧ rNewStrs (Txt.split a b) H Q) ta tb) rStr (fun k => f fun x => g fun y => ((y.length == 0) = false ∧ x.length + 2 ≤ sizeLine) ∧ k (Txt.split x y)) := fun σ F H Q k V q w => by
  refine ha _ V q ?_
  rintro x v F1 H1 q1 A1 V1 rfl
  refine ⟨⟨x, rfl⟩, hb _ V1 q1 ?_⟩
  rintro y v F2 H2 q2 A2 V2 rfl
  refine ⟨x, y, rfl, rfl, q2.1.1, q2.1.2, fun p hp => ?_⟩
  exact en_lay (A1.trans A2) V2 q2.2 all_str w hp
end
end Mi
/-! Mir39 -/
set_option Elab.async false
set_option linter.all false
set_option maxRecDepth 100000
set_option maxHeartbeats 4000000
/-! < and <= of data of any depth (numbers, texts, tuples and lists of these) -/
namespace L2
open PySem PySem.Spec PyProof.Rows
section
variable {X : Cx}
def rLtD (K : PySem.W.Frag) : R2 := fun x y H Q => ∃ d e, Dp K H x d ∧ Dp K H y e ∧ PySem.W.alike d e = true ∧ d ≠ .none ∧ d.depth ≤ 64 ∧ Q (.bl (PySem.W.dataLt d e)) H
def rLeD (K : PySem.W.Frag) : R2 := fun x y H Q => ∃ d e, Dp K H x d ∧ Dp K H y e ∧ PySem.W.alike d e = true ∧ d ≠ .none ∧ d.depth ≤ 64 ∧ Q (.bl (!PySem.W.dataLt e d)) H
theorem op_ltD (hu : X.A.units + 64 < cLine) : OpR X (compareOp .Lt) (rLtD X.K) := by
  intro pins s σ H x y v u Q I rx ry h
  obtain ⟨d, e, hd, he, al, nn, dep, q⟩ := h
  obtain ⟨as, r1⟩ := Dp.reads I d x v hd rx
  obtain ⟨bs, r2⟩ := Dp.reads I e y u he ry
  exact PySem.W.lt_data r1 r2 al nn (by have := Nat.min_le_left d.depth e.depth; omega) ⟨.bl _, H, I, rfl, q⟩
theorem op_leD (hu : X.A.units + 64 < cLine) : OpR X (compareOp .LtE) (rLeD X.K) := by
  intro pins s σ H x y v u Q I rx ry h
  obtain ⟨d, e, hd, he, al, nn, dep, q⟩ := h
  obtain ⟨as, r1⟩ := Dp.reads I d x v hd rx
  obtain ⟨bs, r2⟩ := Dp.reads I e y u he ry
  exact PySem.W.le_data r1 r2 al nn (by have := Nat.min_le_left d.depth e.depth; omega) ⟨.bl _, H, I, rfl, q⟩
end
end L2
namespace Mi
open PySem PySem.Spec L2 Dh
open _root_.Evl (Ex)
/-- two things of one kind can be compared -/
structure Al {K : PySem.W.Frag} {α : Type} [DecidableEq α] {r : R α} (d : Da K r) : Prop where
  al : ∀ a c, PySem.W.alike (d.dat a) (d.dat c) = true
  nn : ∀ a, d.dat a ≠ .none
structure AlI {K : PySem.W.Frag} {α : Type} [DecidableEq α] {s : RI α} (d : DaI K s) : Prop where
  al : ∀ a c, PySem.W.alikeAll (d.dat a) (d.dat c) = true
section
variable {K : PySem.W.Frag} {α β : Type} [DecidableEq α] [DecidableEq β]
theorem alInt : Al (daInt (K := K)) := ⟨fun _ _ => rfl, fun _ h => by cases h⟩
theorem alStr : Al (daStr (K := K)) := ⟨fun _ _ => rfl, fun _ h => by cases h⟩
theorem al_all {r : R α} {d : Da K r} (A : Al d) : ∀ xs ys : List α, PySem.W.alikeAll (xs.map d.dat) (ys.map d.dat) = true
  | [], [] => rfl
  | [], _ :: _ => rfl
  | _ :: _, [] => rfl
  | x :: xs, y :: ys => by
    show (PySem.W.alike (d.dat x) (d.dat y) && PySem.W.alikeAll (xs.map d.dat) (ys.map d.dat)) = true
    rw [A.al, al_all A xs ys]; rfl
theorem alLst {r : R α} {d : Da K r} (A : Al d) : Al (daLst d) := ⟨fun a c => al_all A a c, fun _ h => by cases h⟩
theorem alTup {r : R α} {d : Da K r} (A : Al d) : Al (daTup d) := ⟨fun a c => al_all A a c, fun _ h => by cases h⟩
theorem alOne {r : R α} {d : Da K r} (A : Al d) : AlI (daOne d) := ⟨fun a c => by
  show (PySem.W.alike (d.dat a) (d.dat c) && true) = true
  rw [A.al]; rfl⟩
theorem alCons {r : R α} {s : RI β} {d : Da K r} {t : DaI K s} (A : Al d) (B : AlI t) : AlI (daCons d t) := ⟨fun a c => by
  show (PySem.W.alike (d.dat a.1) (d.dat c.1) && PySem.W.alikeAll (t.dat a.2) (t.dat c.2)) = true
  rw [A.al, B.al]; rfl⟩
theorem alTp {s : RI α} {t : DaI K s} (A : AlI t) : Al (daTp t) := ⟨fun a c => A.al a c, fun _ h => by cases h⟩
/-! the data as functions of plain things -/
def dxLst (f : α → PyData) (xs : List α) : PyData := .list (xs.map f)
def dxTup (f : α → PyData) (xs : List α) : PyData := .tuple (xs.map f)
def dxOne (f : α → PyData) (a : α) : List PyData := [f a]
def dxCons (f : α → PyData) (g : β → List PyData) (a : α × β) : List PyData := f a.1 :: g a.2
def dxTp (f : α → List PyData) (a : α) : PyData := .tuple (f a)
/-- a < c -/
def ltX (f : α → PyData) (a c : α) : Bool := PySem.W.dataLt (f a) (f c)
theorem o_ltD {r : R α} {f : α → PyData} (d : Da K r) (hf : d.dat = f) (A : Al d) (hn : d.n ≤ 64) : Op2 (rLtD K) r r rBl (fun x y k => k (ltX f x y)) := fun a c v w F H Q k h1 h2 e q w' =>
  ⟨_, _, dp_ex e (d.dp h1), dp_ex e (d.dp h2), A.al _ _, A.nn _, Nat.le_trans (d.dep _) hn, w' _ _ _ _ q (.refl e _) (by subst hf; rfl)⟩
theorem o_leD {r : R α} {f : α → PyData} (d : Da K r) (hf : d.dat = f) (A : Al d) (hn : d.n ≤ 64) : Op2 (rLeD K) r r rBl (fun x y k => k (!ltX f y x)) := fun a c v w F H Q k h1 h2 e q w' =>
  ⟨_, _, dp_ex e (d.dp h1), dp_ex e (d.dp h2), A.al _ _, A.nn _, Nat.le_trans (d.dep _) hn, w' _ _ _ _ q (.refl e _) (by subst hf; rfl)⟩
end
end Mi
/-! Mir40 -/
set_option Elab.async false
set_option linter.all false
set_option maxRecDepth 100000
set_option maxHeartbeats 4000000
/-! a new own thing or None: as what a def gives, in a variable, in a while -/
namespace Mi
open PySem PySem.Spec L2 Dh
open _root_.Evl (Ex)
section
variable {K : PySem.W.Frag} {b : Bs} {G Gx : List Sl} {α β γ γ' δ τ τ' ρ ε ε' θ : Type} {Gn : τ → List Sl} {Gl : θ → List Sl} {ro : ρ → V → Hp → Hp → Prop} {σ : L2.St} {F H F' H' : Hp}
/-- None, or an own thing -/
def slO (c : C γ) : Option (Addr × γ) → Sl
  | none => val rNon ()
  | some (p, y) => own p c y
def spNO (s : RI α) (c : C β) (g : α → (Option β → Prop) → Prop) : Sp := fun vs H Q _ => ∃ (x : α) (F : Hp) (k : Option β → Prop), Ex F H ∧ s.h x vs F ∧ g x k ∧ (∀ F' H', k none → After F H [] F' H' → Q .non H') ∧
  ∀ y p u F' H', k (some y) → After F H [] F' H' → H p = none → F' p = none → H' p = some u → c.h y u F' → Q (.ref p) H'
theorem spNO_len {s : RI α} {c : C β} {g : α → (Option β → Prop) → Prop} {vs : List V} {Q : VK} {Ek : XK} (h : spNO s c g vs H Q Ek) : vs.length = s.n := by
  obtain ⟨a, F, k, _, hs, _⟩ := h; exact s.ln hs
theorem spNO_imp {s : RI α} {c : C β} {g g' : α → (Option β → Prop) → Prop} (h : ∀ x k, g' x k → g x k) {vs : List V} {H : Hp} {Q : VK} {Ek : XK} (q : spNO s c g' vs H Q Ek) : spNO s c g vs H Q Ek := by
  obtain ⟨x, F, k, e, hs, hg, w⟩ := q
  exact ⟨x, F, k, e, hs, h _ _ hg, w⟩
def RNO (b : Bs) (c : C β) (y : Option β) (v : V) (F H : Hp) : Prop := match y with
  | none => v = .non
  | some y => RN b c y v F H
theorem run_NO {s : RI α} {c : C β} {g : α → (Option β → Prop) → Prop} {N : List Str} {m : Nat} {t : TS} {vs : List V} {Q : VK} {Ek : XK} {Gn : Bs → α → τ → List Sl} {f : α → Pd τ Unit (Option β) → Prop} (h : spNO s c g vs H Q Ek) (hN : N.length = s.n + m)
    (hS : ∀ b x, b.M = [] → S b (s.sl x ++ List.replicate m any) t (Gn b x) (fun _ : Unit => []) (RNO b c) (f x)) (hg : ∀ x k, g x k → f x ⟨fun _ => False, fun _ => False, fun _ => False, k⟩) :
    t { nx := fun _ H' => Q .non H', rt := Q } (L2.start N vs) H := by
  obtain ⟨x, F, k, e, hs, q, w0, w⟩ := h
  have hl := s.ln hs
  refine S.go (hS ⟨F, H, [], fun _ h => nomatch h⟩ x rfl) (L2.start N vs) F H _ ⟨fun _ => False, fun _ => False, fun _ => False, k⟩ ?_ (hg x k q) (fun _ _ _ _ h => h.elim) (fun _ _ _ _ h => h.elim) (fun _ _ _ _ h => h.elim) (fun y v F' H' hk A z => ?_)
  · have ow : owns (s.sl x ++ List.replicate m any) = [] := by rw [owns_app, s.no, owns_any]; rfl
    refine ⟨Ex.refl _, e, fun _ _ _ h => h, fun _ h => h, fun _ h _ => h, ?_, by rw [ow]; exact List.nodup_nil, fun p hp => by rw [ow] at hp; nomatch hp⟩
    unfold L2.start
    have : N.length - vs.length = m := by omega
    rw [this]
    exact paired_app' (s.hs hs) holds_any
  · cases y with
    | none =>
      have z : v = .non := z
      rw [z]; exact w0 F' H' hk A
    | some y =>
      obtain ⟨p, u, e1, e2, e3, e4, e5⟩ := (z : RN _ c y v F' H')
      rw [e1]; exact w y p u F' H' hk A e2 e3 e4 e5
/-- an expression that gives a new own thing or None -/
def ENO (b : Bs) (G : List Sl) (te : TE) (c : C γ) (f : (Option γ → Prop) → Prop) : Prop := ∀ ⦃σ : L2.St⦄ ⦃F H : Hp⦄ ⦃Q : VK⦄ (k : Option γ → Prop), Env b G σ F H → f k → (∀ F' H', k none → After F H (owns G) F' H' → Env b G σ F' H' → Q .non H') →
  (∀ a p u F' H', k (some a) → After F H (owns G) F' H' → Env b G σ F' H' → H p = none → F' p = none → H' p = some u → c.h a u F' → Q (.ref p) H') → te σ H Q
theorem eno_none {c : C γ} : ENO b G (tC .non) c (fun k => k none) := fun σ F H Q k V q w _ => w F H q (.refl V.fh _) V
theorem eno_c {te : TE} {c : C γ} {f : (γ → Prop) → Prop} (h : ENc b G te c f) : ENO b G te c (fun k => f fun y => k (some y)) := fun _ _ _ _ k V q _ w => h _ V q w
theorem eno_if {t : TT} {ta te : TE} {c : C γ} {fc : (Bool → Prop) → Prop} {f g : (Option γ → Prop) → Prop} (hc : Tt b G t fc) (h1 : ENO b G ta c f) (h2 : ENO b G te c g) : ENO b G (tIf t ta te) c (fun k => fc fun a => (a = true → f k) ∧ (a = false → g k)) := fun _ _ _ _ k V q w0 w => by
  refine hc _ V q ?_
  intro a F' H' q' A V'
  have kp : ∀ p, H' p = none → ∀ H0 : Hp, (∀ x, H0 x ≠ none → H' x ≠ none) → H0 p = none := fun p hp H0 k0 => by
    cases e : H0 p with
    | none => rfl
    | some z => exact absurd hp (k0 p (by rw [e]; exact fun z => nomatch z))
  cases a with
  | true => exact iteT (h1 k V' (q'.1 rfl) (fun F2 H2 q2 A2 V2 => w0 F2 H2 q2 (A.trans A2) V2) fun x p u F2 H2 q2 A2 V2 hp => w x p u F2 H2 q2 (A.trans A2) V2 (kp p hp _ A.kp))
  | false => exact iteF (h2 k V' (q'.2 rfl) (fun F2 H2 q2 A2 V2 => w0 F2 H2 q2 (A.trans A2) V2) fun x p u F2 H2 q2 A2 V2 hp => w x p u F2 H2 q2 (A.trans A2) V2 (kp p hp _ A.kp))
theorem eno_call {s : RI α} {c : C β} {g : α → (Option β → Prop) → Prop} {Ek : XK} {ta : TA} {f : (α → Prop) → Prop} (h : Ar b G ta s f) : ENO b G (tCall (spNO s c g) [] Ek ta) c (fun k => f fun x => g x k) := fun σ F H Q k V q w0 w => by
  refine h _ V q ?_
  intro x vs F1 H1 q1 A1 V1 r1
  show spNO s c g (vs ++ []) H1 _ _
  rw [List.append_nil]
  refine ⟨x, F1, k, V1.fh, r1, q1, fun F2 H2 q2 A2 => w0 F2 H2 q2 (A1.trans (A2.mono fun _ h => nomatch h)) (V1.step A2), fun y p u F2 H2 q2 A2 h0 fp hp hc => w y p u F2 H2 q2 (A1.trans (A2.mono fun _ h => nomatch h)) (V1.step A2) ?_ fp hp hc⟩
  cases e : H p with
  | none => rfl
  | some z => exact absurd h0 (A1.kp p (by rw [e]; exact fun z => nomatch z))
/-- as a value -/
theorem e_ofno {te : TE} {c : C α} {r : R α} {f : (Option α → Prop) → Prop} (hr : ∀ {a : α} {p : Addr} (u : HO) (F : Hp), c.h a u F → F p = some u → r.h a (.ref p) F) (h : ENO b G te c f) : E b G te (rOpt r) f := fun _ _ _ _ k V q w => h k V q (fun F' H' q' A V' => w none .non F' H' q' A V' rfl) fun a p u F' H' q' A V' h1 h2 h3 h4 => by
  obtain ⟨A2, V2⟩ := thaw V A V' h1 h2 h3
  exact w (some a) _ _ H' q' A2 V2 ⟨hr u _ (c.ex (Ex.new h2) h4) upd_same, fun z => nomatch z⟩
theorem s_retNO {te : TE} {c : C α} {f : (Option α → Prop) → Prop} (h : ENO b G te c f) : S b G (tRet te) Gn Gl (RNO b c) (fun d => f d.rt) := fun _ _ _ _ d V q _ _ _ w4 =>
  h _ V q (fun F' H' q' A V' => w4 none .non F' H' q' V'.after rfl) fun a p u F' H' q' A V' h1 h2 h3 h4 => w4 (some a) (.ref p) F' H' q' V'.after ⟨p, u, rfl, V.bnone h1, h2, h3, h4⟩
/-- what is wanted of None or of a new own thing, wherever it lies -/
def optP (k : Option (Addr × γ) → Prop) : Option γ → Prop
  | none => k none
  | some y => ∀ p, k (some (p, y))
/-- x = .. -/
theorem s_newNO {te : TE} {c : C γ} {i : Nat} {f : (Option γ → Prop) → Prop} {g : Option (Addr × γ) → Pd τ θ ρ → Prop} {t : TS} (h : ENO b G te c f) (ht : ∀ x : Option (Addr × γ), (∀ z, x = some z → z.1 ∉ b.M) → S b (G.set i (slO c x)) t Gn Gl ro (g x)) :
    S b G (tSeq (tAsg te (gName i)) t) Gn Gl ro (fun d => f (optP fun x => g x d)) := fun σ F H D d V q w1 w2 w3 w4 => by
  refine h _ V q ?_ ?_
  · intro F1 H1 q1 A1 V1
    have e1 := A1.ff
    refine ht none (fun z h => by cases h) d ?_ q1 (fun y σ2 F2 H2 q2 e2 => w1 y σ2 F2 H2 q2 (e1.trans e2)) (fun y σ2 F2 H2 q2 e2 => w2 y σ2 F2 H2 q2 (e1.trans e2)) (fun y σ2 F2 H2 q2 e2 => w3 y σ2 F2 H2 q2 (e1.trans e2)) w4
    exact V1.set (s := val rNon ()) (o := some L2.V.non) ⟨L2.V.non, rfl, rfl⟩ rfl
  · intro a p u F1 H1 q1 A1 V1 hp fp hp1 hA
    have hb : b.H p = none := by
      cases e : b.H p with
      | none => rfl
      | some u => exact absurd hp (V.kp p (by rw [e]; exact fun z => nomatch z))
    have nO : p ∉ owns G := fun z => V.hold.live p z hp
    have nM : p ∉ b.M := fun z => b.ml p z hb
    have e1 := A1.ff
    refine ht (some (p, a)) (fun z h => by cases h; exact nM) d ?_ (q1 p) (fun y σ2 F2 H2 q2 e2 => w1 y σ2 F2 H2 q2 (e1.trans e2)) (fun y σ2 F2 H2 q2 e2 => w2 y σ2 F2 H2 q2 (e1.trans e2)) (fun y σ2 F2 H2 q2 e2 => w3 y σ2 F2 H2 q2 (e1.trans e2)) w4
    show Env b (G.set i (own p c a)) _ _ _
    obtain ⟨o1, o2⟩ := owns_setN (s := own p c a) (G := G) (i := i) rfl nO V1.nd
    refine ⟨V1.ff, V1.fh, V1.hh, V1.kp, V1.nf, V1.hold.set (s := own p c a) (show _ ∧ _ from ⟨rfl, _, hp1, hA⟩), o2, fun q hq => ?_⟩
    rcases o1 q hq with z | z
    · subst z; exact ⟨fp, .inr hb⟩
    · exact V1.on q z
theorem s_newNO1 {te : TE} {c : C γ} {i : Nat} {f : (Option γ → Prop) → Prop} (h : ENO b G te c f) : S b G (tAsg te (gName i)) (fun x : Option (Addr × γ) => G.set i (slO c x)) Gl ro (fun d => f (optP d.nx)) := fun σ F H D d V q w1 w2 w3 w4 => by
  refine h _ V q ?_ ?_
  · intro F1 H1 q1 A1 V1
    exact w1 none _ F1 H1 q1 A1.ff (V1.set (s := val rNon ()) (o := some L2.V.non) ⟨L2.V.non, rfl, rfl⟩ rfl)
  · intro a p u F1 H1 q1 A1 V1 hp fp hp1 hA
    have hb : b.H p = none := by
      cases e : b.H p with
      | none => rfl
      | some u => exact absurd hp (V.kp p (by rw [e]; exact fun z => nomatch z))
    have nO : p ∉ owns G := fun z => V.hold.live p z hp
    refine w1 (some (p, a)) _ F1 H1 (q1 p) A1.ff ?_
    show Env b (G.set i (own p c a)) _ _ _
    obtain ⟨o1, o2⟩ := owns_setN (s := own p c a) (G := G) (i := i) rfl nO V1.nd
    refine ⟨V1.ff, V1.fh, V1.hh, V1.kp, V1.nf, V1.hold.set (s := own p c a) (show _ ∧ _ from ⟨rfl, _, hp1, hA⟩), o2, fun q hq => ?_⟩
    rcases o1 q hq with z | z
    · subst z; exact ⟨fp, .inr hb⟩
    · exact V1.on q z
/-- x is None -/
theorem e_isNO {c : C γ} {x : Option (Addr × γ)} {i : Nat} (hi : G[i]? = some (slO c x)) : E b G (tOp (fun x y H Q => y = .non ∧ Q (.bl (decide (x = .non))) H) (tVar i) (tC .non)) rBl (fun k => k x.isNone) := fun σ F H Q k V q w => by
  cases x with
  | none =>
    obtain ⟨o, h1, v, h2, h3⟩ := V.hold.at_ hi
    have h3 : v = L2.V.non := h3
    subst h3
    exact ⟨.non, by rw [h1, h2], rfl, w true _ F H q (.refl V.fh _) V rfl⟩
  | some z =>
    obtain ⟨p, y⟩ := z
    have hi : G[i]? = some (own p c y) := hi
    obtain ⟨o, h1, rfl, _⟩ := V.hold.at_ hi
    exact ⟨.ref p, h1, rfl, w false _ F H q (.refl V.fh _) V rfl⟩
theorem s_retSO {c : C γ} {x : Option (Addr × γ)} {i : Nat} (hi : G[i]? = some (slO c x)) (hm : b.M = []) : S b G (tRet (tVar i)) Gn Gl (RN b c) (fun d => ∃ z, x = some z ∧ d.rt z.2) := fun σ F H D d V q w1 w2 w3 w4 => by
  obtain ⟨⟨p, y⟩, rfl, q⟩ := q
  exact s_retO (p := p) (c := c) (a := y) hi hm d V q w1 w2 w3 w4
end
end Mi
/-! Mir41 -/
set_option Elab.async false
set_option linter.all false
set_option maxRecDepth 100000
set_option maxHeartbeats 4000000
/-! list(d.values()); a new own thing of a def that may raise, where it never does -/
namespace Dh
open PySem PySem.Spec PyProof.Rows L2
def tListVals (te : TE) : TE := fun σ H Q => te σ H fun x H1 => ∃ (d : Addr) (kvs : List (Key × V)), x = .ref d ∧ H1 d = some (.dK kvs) ∧ ∀ p, H1 p = none → Q (.ref p) (upd H1 p (.lst (kvs.map (·.2))))
section
variable {X : Cx} {e : Expr} {te : TE} {p apos cpos pos : Pos}
theorem kv_vals : ∀ {kvs : List (Key × V)} {vs : List (Key × Value)}, KV kvs vs → Vals (kvs.map (·.2)) (vs.map (·.2))
  | _, _, .nil => .nil
  | _, _, .cons h t => .cons h.2 (kv_vals t)
theorem pe_listVals (hc : X.calm = true) (he : PE X e te) (hg : Gl X "list") (hm : X.mg "list" = none) (hbase : attributeBase e "values" X.env (eval e X.env) = eval e X.env := by rfl) (hline : (apos.endLine == cpos.line) = true := by rfl)
    (hs : starEach [.Call (.Attribute e "values" apos) [] [] cpos] X.env = (false, eval (.Call (.Attribute e "values" apos) [] [] cpos) X.env) :: starEach [] X.env := by rfl) (hv : bootBuiltins "list" = some (.type "list") := by rfl) :
    PE X (.Call (.Name "list" p) [.Call (.Attribute e "values" apos) [] [] cpos] [] pos) (tListVals te) := by
  refine ⟨fun pins s σ H Q I hq => ?_⟩
  refine wpAny_Call_Name_kw (ld_blt I hg hm hv ?_)
  refine PyProof.Rows.callWith_type1 ?_ hs rfl
  rw [hs]
  show wpAny _ _ (spliced ((false, eval (.Call (.Attribute e "values" apos) [] [] cpos) X.env) :: backTo pos (starEach [] X.env))) _ _ s
  refine Calls.spliced_cons ?_
  refine wpAny_Call_method (T := "dict") (id := "dict.values") hbase rfl hline F.plainAttrs_dict F.slot_dict_values F.type_dict_values (thn (he.run pins s σ H _ I hq) fun u s1 ⟨x, H1, I1, rx, d, kvs, ex, hd, q⟩ => ?_)
  subst ex
  obtain rfl : u = Value.ref d := rx
  obtain ⟨hz, hs0, vs, kv, hdo⟩ := I1.hok d _ hd
  obtain ⟨ep, hat⟩ := hdo.dictAt
  have lk : kvs.length = vs.length := Paired.length kv
  have I2 : Inv X pins σ H1 { s1 with heap := s1.heap.push { cls := .type "dict_values", data := .fields #[.ref d] } } := I1.kept (t' := s1.toks) fun b ob q => Heap.get?_push_of_some _ q
  refine ⟨hdo.typeIs, hdo.mapOf.noDict, ?_⟩
  show wpAny _ _ (callWith cpos (.builtin "dict.values") [.ref d] [] []) _ X.xe s1
  refine method_meetsIn F.slot_dict_values F.entry_dict_values rfl (PySem.evalArgs_none ⟨rfl, hdo.typeIs, F.args_dict_values_1 _, _, meets_dict_values (mixKind X.prog X.w) d hs0, ⟨vs, hdo⟩, ?_⟩)
  refine Calls.spliced_nil ?_
  refine PySem.W.kdl_call (PySem.W.kdl_values (knd := mixKind X.prog X.w) (kvs := vs) (ep := ep)) (I1.ok.hd hc) ⟨⟨_, Heap.get?_push_size _ rfl, rfl, rfl⟩, hat.push _⟩ (by omega) fun h' tk acc c hk hS hacc => ?_
  have ea : acc.toList = vs.map (·.2) := PySem.W.kdl_vals_eq acc.toList (by rw [Array.length_toList, hacc.1]) (fun j v hj => hacc.2 j v (by rw [← Array.getElem?_toList]; exact hj))
  refine ⟨.ref _, _, I2.laid (o := .lst (kvs.map (·.2))) (t' := tk) hk (Nat.le_refl _) ⟨by rw [List.length_map]; omega, vs.map (·.2), c, kv_vals kv, ?_⟩, rfl, q _ (I2.hok.fresh (Nat.le_refl _))⟩
  rw [← ea, Array.toArray_toList]
  exact hS
end
end Dh
namespace Mi
open PySem PySem.Spec L2 Dh
open _root_.Evl (Ex)
section
variable {K : PySem.W.Frag} {b : Bs} {G Gx : List Sl} {α β γ γ' δ τ τ' ρ ε ε' θ : Type} {σ : L2.St} {F H F' H' : Hp} {x' : Xp ε'}
/-- a def that gives a new own thing or an error, where the error never comes -/
theorem enc_callXO0 {s : RI α} {c : C β} {g : α → (β → Prop) → (ε' → Prop) → Prop} {Ek : XK} {ta : TA} {f : (α → Prop) → Prop} (h : Ar b G ta s f) : ENc b G (tCall (spXO s c x' g) [] Ek ta) c (fun k => f fun a => g a k fun _ => False) := fun σ F H Q k V q w => by
  refine h _ V q ?_
  intro a vs F1 H1 q1 A1 V1 r1
  show spXO s c x' g (vs ++ []) H1 _ _
  rw [List.append_nil]
  refine ⟨a, F1, k, fun _ => False, V1.fh, r1, q1, fun y v F2 H2 q2 A2 ⟨p, u, e, h0, fp, hp, hc⟩ => ?_, fun e cls d F2 H2 q2 => q2.elim⟩
  subst e
  refine w y p u F2 H2 q2 (A1.trans (A2.mono fun _ h => nomatch h)) (V1.step A2) ?_ fp hp hc
  cases e : H p with
  | none => rfl
  | some z => exact absurd h0 (A1.kp p (by rw [e]; exact fun z => nomatch z))
/-- list(d.values()) -/
theorem en_vals {κ : Type} {ke : κ → Key} {r : R α} {te : TE} {f : (List (κ × α) → Prop) → Prop} (h : E b G te (rDct ke r) f) : EN b G (tListVals te) r (fun k => f fun d => k (d.map (·.2))) := fun σ F H Q k V q w => by
  refine h _ V q ?_
  rintro d v F1 H1 q1 A1 V1 ⟨p, vs, rfl, hp, hv⟩
  refine ⟨p, _, rfl, V1.fh _ _ hp, fun l hl => ?_⟩
  have hv : All r F1 (d.map (·.2)) (vs.map (·.2)) := by
    clear hp q1 w
    induction hv with
    | nil => exact .nil
    | cons h t ih => exact .cons h.2 ih
  exact en_lay A1 V1 q1 hv w hl
theorem e_min2 {ta te : TE} {f g : (Int → Prop) → Prop} (h : E b G ta rInt f) (h2 : E b G te rInt g) : E b G (tCB (fun xs H Q => ∃ i j, xs = [.int i, .int j] ∧ Q (.int (if j < i then j else i)) H) (tCons ta (tCons te tNil))) rInt (fun k => f fun i => g fun j => k (if j < i then j else i)) := fun _ _ _ _ k V q w => by
  refine h _ V q ?_
  rintro i v F1 H1 q1 A1 V1 rfl
  refine h2 _ V1 q1 ?_
  rintro j v F2 H2 q2 A2 V2 rfl
  exact ⟨i, j, rfl, w _ _ F2 H2 q2 (A1.trans A2) V2 rfl⟩
/-! == and != of dicts of ints, where they are the same -/
theorem kv_ints {κ : Type} {ke : κ → Key} {ps : List (κ × Int)} {kvs : List (Key × V)} (h : KV' ke rInt F ps kvs) : kvs = ps.map fun p => (ke p.1, V.int p.2) := by
  induction h with
  | nil => rfl
  | @cons a b c d h t ih =>
    obtain ⟨h1, h2⟩ := h
    obtain ⟨b1, b2⟩ := b
    have h2 : b2 = V.int a.2 := h2
    rw [List.map_cons, ← ih, h2, ← show b1 = ke a.1 from h1]
theorem dctA {κ : Type} {ke : κ → Key} (inj : ∀ a c, ke a = ke c → a = c) {ps : List (κ × Int)} (nd : (ps.map (·.1)).Nodup) : ∀ p ∈ ps.map (fun p => (ke p.1, V.int p.2)), valV (ps.map fun p => (ke p.1, V.int p.2)) p.1 = some p.2 ∧ flatB p.2 = true := fun p hp => by
  obtain ⟨n, hn⟩ := List.mem_iff_getElem?.mp hp
  obtain ⟨k, v⟩ := p
  refine ⟨find_nd ?_ hn, ?_⟩
  · rw [List.map_map]
    have : (ps.map (·.1)).map ke = ps.map ((fun x : Key × V => x.1) ∘ fun p => (ke p.1, V.int p.2)) := by rw [List.map_map]; rfl
    rw [← this]
    exact List.Pairwise.map _ (fun a c h e => h (inj a c e)) nd
  · obtain ⟨z, _, e⟩ := List.mem_map.mp hp
    cases e; rfl
theorem o_eqDA {κ : Type} {ke : κ → Key} (inj : ∀ a c, ke a = ke c → a = c) : Op2 rEqDA (rDct ke rInt) (rDct ke rInt) rBl (fun x y k => (x = y ∧ (x.map (·.1)).Nodup) ∧ k true) := fun a c v w F H Q k h1 h2 e ⟨⟨q1, nd⟩, q⟩ w' => by
  subst q1
  obtain ⟨p, ks, rfl, hp, hk⟩ := h1
  obtain ⟨p2, ls, rfl, hp2, hl⟩ := h2
  rw [kv_ints hk] at hp
  rw [kv_ints hl] at hp2
  exact ⟨p, p2, _, _, rfl, rfl, e _ _ hp, e _ _ hp2, rfl, dctA inj nd, w' _ _ _ _ q (.refl e _) rfl⟩
theorem o_neDA {κ : Type} {ke : κ → Key} (inj : ∀ a c, ke a = ke c → a = c) : Op2 rNeDA (rDct ke rInt) (rDct ke rInt) rBl (fun x y k => (x = y ∧ (x.map (·.1)).Nodup) ∧ k false) := fun a c v w F H Q k h1 h2 e ⟨⟨q1, nd⟩, q⟩ w' => by
  subst q1
  obtain ⟨p, ks, rfl, hp, hk⟩ := h1
  obtain ⟨p2, ls, rfl, hp2, hl⟩ := h2
  rw [kv_ints hk] at hp
  rw [kv_ints hl] at hp2
  exact ⟨p, p2, _, _, rfl, rfl, e _ _ hp, e _ _ hp2, rfl, dctA inj nd, w' _ _ _ _ q (.refl e _) rfl⟩
end
end Mi
namespace Mi
open PySem PySem.Spec L2 Dh
open _root_.Evl (Ex)
section
variable {K : PySem.W.Frag} {b : Bs} {G Gx : List Sl} {α β γ γ' δ τ τ' ρ ε ε' θ : Type} {σ : L2.St} {F H F' H' : Hp}
/-! an own thing lent to a def as its only or its second thing; an own list compared -/
theorem lent {p : Addr} {u : HO} (V : Env b G σ F H) (fp : F p = none) (hu : H p = some u) : Ex F (upd F p u) ∧ Ex (upd F p u) H := by
  refine ⟨Ex.new fp, fun z o hz => ?_⟩
  by_cases q : z = p
  · subst q; rw [upd_same] at hz; cases hz; exact hu
  · rw [upd_ne q] at hz; exact V.fh _ _ hz
theorem e_lendO {i : Nat} {p : Addr} {c : C γ} {r : R γ'} {y : γ} {wv : γ → γ'} {rr : R β} (sc : Free rr) {g : γ' → (β → Prop) → Prop} {Ek : XK} (hi : G[i]? = some (own p c y)) (hr : ∀ u F, c.h y u F → F p = some u → r.h (wv y) (.ref p) F) :
    E b G (tCall (spP (rOne r) rr g) [] Ek (tCons (tVar i) tNil)) rr (fun k => g (wv y) k) := fun σ F H Q k V q w => by
  obtain ⟨o, h1, rfl, _⟩ := V.hold.at_ hi
  refine ⟨.ref p, h1, ?_⟩
  obtain ⟨fp, u, hu, hc⟩ := V.cAt hi
  obtain ⟨e1, e2⟩ := lent V fp hu
  refine ⟨wv y, upd F p u, k, e2, ⟨.ref p, rfl, hr u _ (c.ex e1 hc) upd_same⟩, q, fun z v F2 H2 q2 A2 r2 => ?_⟩
  have B : After F H [] F H2 := ⟨Ex.refl _, (e1.trans A2.ff).trans A2.fh, A2.hh, A2.kp, fun _ h _ => h⟩
  exact w z v F H2 q2 (B.mono fun _ h => nomatch h) (V.step B) (sc r2)
theorem e_lend2 {i : Nat} {p : Addr} {c : C γ} {r : R γ'} {r1 : R α} {y : γ} {wv : γ → γ'} {rr : R β} (sc : Free rr) {g : α × γ' → (β → Prop) → Prop} {Ek : XK} {te : TE} {f : (α → Prop) → Prop} (hi : G[i]? = some (own p c y)) (hr : ∀ u F, c.h y u F → F p = some u → r.h (wv y) (.ref p) F) (h : E b G te r1 f) :
    E b G (tCall (spP (rCons r1 (rOne r)) rr g) [] Ek (tCons te (tCons (tVar i) tNil))) rr (fun k => f fun a => g (a, wv y) k) := fun σ F H Q k V q w => by
  refine h _ V q ?_
  intro a v F1 H1 q1 A1 V1 r1'
  obtain ⟨o, h1, rfl, _⟩ := V1.hold.at_ hi
  refine ⟨.ref p, h1, ?_⟩
  obtain ⟨fp, u, hu, hc⟩ := V1.cAt hi
  obtain ⟨e1, e2⟩ := lent V1 fp hu
  refine ⟨(a, wv y), upd F1 p u, k, e2, ⟨v, [.ref p], rfl, r1.ex e1 r1', .ref p, rfl, hr u _ (c.ex e1 hc) upd_same⟩, q1, fun z v F2 H2 q2 A2 r2 => ?_⟩
  have B : After F1 H1 [] F1 H2 := ⟨Ex.refl _, (e1.trans A2.ff).trans A2.fh, A2.hh, A2.kp, fun _ h _ => h⟩
  exact w z v F1 H2 q2 (A1.trans (B.mono fun _ h => nomatch h)) (V1.step B) (sc r2)
theorem e_neOwn [DecidableEq α] {i : Nat} {p : Addr} {c : C α} {r : R α} {y : α} (d : Da K r) (hn : d.n ≤ 64) {te : TE} {f : (α → Prop) → Prop} (hi : G[i]? = some (own p c y)) (hr : ∀ u F, c.h y u F → F p = some u → r.h y (.ref p) F) (h : E b G te r f) :
    E b G (tOp (rNeD K) (tVar i) te) rBl (fun k => f fun x => (d.ok y ∧ d.ok x) ∧ k (!decide (y = x))) := fun σ F H Q k V q w => by
  obtain ⟨o, h0, e0, _⟩ := V.hold.at_ hi
  refine ⟨.ref p, by rw [h0, e0], ?_⟩
  refine h _ V q ?_
  rintro x v F1 H1 ⟨⟨o1, o2⟩, q1⟩ A1 V1 r1
  obtain ⟨fp, u, hu, hc⟩ := V1.cAt hi
  obtain ⟨e1, e2⟩ := lent V1 fp hu
  exact ⟨_, _, dp_ex e2 (d.dp (hr u _ (c.ex e1 hc) upd_same)), dp_ex V1.fh (d.dp r1), d.shaped hn o1, d.shaped hn o2, w _ _ F1 H1 q1 A1 V1 (by rw [d.eq]; rfl)⟩
end
end Mi
namespace Mi
open PySem PySem.Spec L2 Dh
open _root_.Evl (Ex)
section
variable {K : PySem.W.Frag} {b : Bs} {G Gx : List Sl} {α β γ γ' δ τ τ' ρ ε ε' θ : Type} {Gl : θ → List Sl} {ro : ρ → V → Hp → Hp → Prop}
/-- in, with the instance of DecidableEq -/
def memX {α : Type} [DecidableEq α] (a : α) (l : List α) : Bool := decide (a ∈ l)
/-- x, y = e1, e2 -/
theorem s_par {i j : Nat} {t1 t2 : TE} {r1 : R α} {r2 : R β} {f1 : (α → Prop) → Prop} {f2 : (β → Prop) → Prop} (h1 : E b G t1 r1 f1) (h2 : E b G t2 r2 f2) :
    S b G (tPar i j (tCons t1 (tCons t2 tNil))) (fun p : α × β => (G.set i (val r1 p.1)).set j (val r2 p.2)) Gl ro (fun d => f1 fun a => f2 fun c => d.nx (a, c)) := fun σ F H D d V q w1 _ _ _ =>
  h1 _ V q fun a v F1 H1 q1 A1 V1 r1' => h2 _ V1 q1 fun c u F2 H2 q2 A2 V2 r2' => ⟨v, u, rfl, w1 (a, c) _ F2 H2 q2 (A1.trans A2).ff ((V2.set (s := val r1 a) (o := some v) ⟨v, rfl, r1.ex A2.ff r1'⟩ rfl).set (s := val r2 c) (o := some u) ⟨u, rfl, r2'⟩ rfl)⟩
end
end Mi
/-! K47Txt -/
set_option Elab.async false
set_option linter.all false
set_option maxRecDepth 100000
set_option maxHeartbeats 4000000
namespace Dh
open PySem PySem.Spec L2
def top (i : Nat) : Stmt := PySem.Challenge.pw_duehouse_k47_whole_cleared.main.body.getD i (.Pass ⟨0, 0, 0, 0⟩)
abbrev s_Unknown_XinitX : Stmt := inClass (top 2) 0
theorem sc_Unknown_XinitX : FnScope ["self", "name"] ["self", "name"] (defScope s_Unknown_XinitX) := ⟨rfl, rfl, rfl, by decide +kernel, rfl, by decide +kernel, by decide +kernel⟩
abbrev s_ascending : Stmt := top 4
theorem sc_ascending : FnScope ["things", "ordered", "thing", "at"] ["things"] (defScope s_ascending) := ⟨rfl, rfl, rfl, by decide +kernel, rfl, by decide +kernel, by decide +kernel⟩
abbrev s_check_office : Stmt := top 6
theorem sc_check_office : FnScope ["offices", "office"] ["offices", "office"] (defScope s_check_office) := ⟨rfl, rfl, rfl, by decide +kernel, rfl, by decide +kernel, by decide +kernel⟩
abbrev s_are_opposed : Stmt := top 8
theorem sc_are_opposed : FnScope ["balances", "amounts", "amount"] ["balances"] (defScope s_are_opposed) := ⟨rfl, rfl, rfl, by decide +kernel, rfl, by decide +kernel, by decide +kernel⟩
abbrev s_transfers_of : Stmt := top 9
theorem sc_transfers_of : FnScope ["balances", "offices", "transfers", "giver", "taker", "given", "lacking"] ["balances"] (defScope s_transfers_of) := ⟨rfl, rfl, rfl, by decide +kernel, rfl, by decide +kernel, by decide +kernel⟩
abbrev s_first_list : Stmt := top 10
theorem sc_first_list : FnScope ["balances", "many", "transfer", "further"] ["balances", "many"] (defScope s_first_list) := ⟨rfl, rfl, rfl, by decide +kernel, rfl, by decide +kernel, by decide +kernel⟩
abbrev s_cleared : Stmt := top 11
theorem sc_cleared : FnScope ["balances", "many", "found"] ["balances"] (defScope s_cleared) := ⟨rfl, rfl, rfl, by decide +kernel, rfl, by decide +kernel, by decide +kernel⟩
abbrev s_made : Stmt := top 12
theorem sc_made : FnScope ["balances", "transfers", "offices", "giver", "taker", "_", "behind", "office", "amount"] ["balances", "transfers"] (defScope s_made) := ⟨rfl, rfl, rfl, by decide +kernel, rfl, by decide +kernel, by decide +kernel⟩
abbrev s_l_mixed : Stmt := top 14
theorem sc_l_mixed : FnScope ["_law_number_here", "_law_turn", "_law_low", "_law_high"] ["_law_number_here", "_law_turn"] (defScope s_l_mixed) := ⟨rfl, rfl, rfl, by decide +kernel, rfl, by decide +kernel, by decide +kernel⟩
abbrev s_l_bag : Stmt := top 15
theorem sc_l_bag : FnScope ["_law_script", "_law_numbers", "_law_cell", "_law_seed", "_law_at"] ["_law_script"] (defScope s_l_bag) := ⟨rfl, rfl, rfl, by decide +kernel, rfl, by decide +kernel, by decide +kernel⟩
abbrev s_l_pick : Stmt := top 16
theorem sc_l_pick : FnScope ["_law_bag_here", "_law_many", "_law_turn", "_law_cell", "_law_worth"] ["_law_bag_here", "_law_many"] (defScope s_l_pick) := ⟨rfl, rfl, rfl, by decide +kernel, rfl, by decide +kernel, by decide +kernel⟩
abbrev s_l_sorted : Stmt := top 17
theorem sc_l_sorted : FnScope ["_law_things", "_law_out", "_law_thing", "_law_at"] ["_law_things"] (defScope s_l_sorted) := ⟨rfl, rfl, rfl, by decide +kernel, rfl, by decide +kernel, by decide +kernel⟩
abbrev s_l_number : Stmt := top 18
theorem sc_l_number : FnScope ["_law_thing"] ["_law_thing"] (defScope s_l_number) := ⟨rfl, rfl, rfl, by decide +kernel, rfl, by decide +kernel, by decide +kernel⟩
abbrev s_l_new_name : Stmt := top 19
theorem sc_l_new_name : FnScope ["_law_bag_here", "_law_used", "_law_letters", "_law_told", "_law_step", "_law_near", "_law_at", "_law_tails", "_law_k", "_law_tail"] ["_law_bag_here", "_law_used"] (defScope s_l_new_name) := ⟨rfl, rfl, rfl, by decide +kernel, rfl, by decide +kernel, by decide +kernel⟩
abbrev s_l_balance : Stmt := top 20
theorem sc_l_balance : FnScope ["_law_bag_here", "_law_way"] ["_law_bag_here"] (defScope s_l_balance) := ⟨rfl, rfl, rfl, by decide +kernel, rfl, by decide +kernel, by decide +kernel⟩
abbrev s_l_balances : Stmt := top 21
theorem sc_l_balances : FnScope ["_law_bag_here", "_law_names", "_law_out", "_law_turn", "_law_last", "_law_others", "_law_name", "_law_way"] ["_law_bag_here", "_law_names"] (defScope s_l_balances) := ⟨rfl, rfl, rfl, by decide +kernel, rfl, by decide +kernel, by decide +kernel⟩
abbrev s_l_next : Stmt := top 22
theorem sc_l_next : FnScope ["_law_balances_here", "_law_out", "_law_giver", "_law_taker"] ["_law_balances_here"] (defScope s_l_next) := ⟨rfl, rfl, rfl, by decide +kernel, rfl, by decide +kernel, by decide +kernel⟩
abbrev s_l_behind : Stmt := top 23
theorem sc_l_behind : FnScope ["_law_balances_here", "_law_transfer", "_law_out"] ["_law_balances_here", "_law_transfer"] (defScope s_l_behind) := ⟨rfl, rfl, rfl, by decide +kernel, rfl, by decide +kernel, by decide +kernel⟩
abbrev s_l_best : Stmt := top 24
theorem sc_l_best : FnScope ["_law_balances_here", "_law_level", "_law_turn", "_law_ended", "_law_transfers", "_law_state", "_law_following", "_law_transfer"] ["_law_balances_here"] (defScope s_l_best) := ⟨rfl, rfl, rfl, by decide +kernel, rfl, by decide +kernel, by decide +kernel⟩
abbrev s_l_is_list : Stmt := top 25
theorem sc_l_is_list : FnScope ["_law_told", "_law_transfer"] ["_law_told"] (defScope s_l_is_list) := ⟨rfl, rfl, rfl, by decide +kernel, rfl, by decide +kernel, by decide +kernel⟩
abbrev s_l_clears : Stmt := top 26
theorem sc_l_clears : FnScope ["_law_balances_here", "_law_told", "_law_state", "_law_transfer", "_law_below", "_law_name", "_law_above", "_law_whole", "_law_back"] ["_law_balances_here", "_law_told"] (defScope s_l_clears) := ⟨rfl, rfl, rfl, by decide +kernel, rfl, by decide +kernel, by decide +kernel⟩
abbrev s_law : Stmt := top 27
theorem sc_law : FnScope ["_law_script", "_law_bag_here", "_law_names", "_law_other_names", "_law_worlds", "_law_k", "_law_handed", "_law_told"] ["_law_script"] (defScope s_law) := ⟨rfl, rfl, rfl, by decide +kernel, rfl, by decide +kernel, by decide +kernel⟩
structure Ad where
  f_Unknown_XinitX : Addr
  d_Unknown_XinitX : FuncData
  f_ascending : Addr
  d_ascending : FuncData
  f_check_office : Addr
  d_check_office : FuncData
  f_are_opposed : Addr
  d_are_opposed : FuncData
  f_transfers_of : Addr
  d_transfers_of : FuncData
  f_first_list : Addr
  d_first_list : FuncData
  f_cleared : Addr
  d_cleared : FuncData
  f_made : Addr
  d_made : FuncData
  f_l_mixed : Addr
  d_l_mixed : FuncData
  f_l_bag : Addr
  d_l_bag : FuncData
  f_l_pick : Addr
  d_l_pick : FuncData
  f_l_sorted : Addr
  d_l_sorted : FuncData
  f_l_number : Addr
  d_l_number : FuncData
  f_l_new_name : Addr
  d_l_new_name : FuncData
  f_l_balance : Addr
  d_l_balance : FuncData
  f_l_balances : Addr
  d_l_balances : FuncData
  f_l_next : Addr
  d_l_next : FuncData
  f_l_behind : Addr
  d_l_behind : FuncData
  f_l_best : Addr
  d_l_best : FuncData
  f_l_is_list : Addr
  d_l_is_list : FuncData
  f_l_clears : Addr
  d_l_clears : FuncData
  f_law : Addr
  d_law : FuncData
  C_Unknown : Addr
structure Txt (K : PySem.W.Frag) (mg : Str → Option Value) (A : Ad) : Prop where
  F_Unknown_XinitX : Fun K "__init__" "Unknown.__init__" s_Unknown_XinitX A.f_Unknown_XinitX A.d_Unknown_XinitX
  bi_Unknown_XinitX : Binds K A.d_Unknown_XinitX ["self", "name"] []
  F_ascending : Fun K "ascending" "ascending" s_ascending A.f_ascending A.d_ascending
  bi_ascending : Binds K A.d_ascending ["things"] []
  g_ascending : mg "ascending" = some (.ref A.f_ascending)
  F_check_office : Fun K "check_office" "check_office" s_check_office A.f_check_office A.d_check_office
  bi_check_office : Binds K A.d_check_office ["offices", "office"] []
  g_check_office : mg "check_office" = some (.ref A.f_check_office)
  F_are_opposed : Fun K "are_opposed" "are_opposed" s_are_opposed A.f_are_opposed A.d_are_opposed
  bi_are_opposed : Binds K A.d_are_opposed ["balances"] []
  g_are_opposed : mg "are_opposed" = some (.ref A.f_are_opposed)
  F_transfers_of : Fun K "transfers_of" "transfers_of" s_transfers_of A.f_transfers_of A.d_transfers_of
  bi_transfers_of : Binds K A.d_transfers_of ["balances"] []
  g_transfers_of : mg "transfers_of" = some (.ref A.f_transfers_of)
  F_first_list : Fun K "first_list" "first_list" s_first_list A.f_first_list A.d_first_list
  bi_first_list : Binds K A.d_first_list ["balances", "many"] []
  g_first_list : mg "first_list" = some (.ref A.f_first_list)
  F_cleared : Fun K "cleared" "cleared" s_cleared A.f_cleared A.d_cleared
  bi_cleared : Binds K A.d_cleared ["balances"] []
  g_cleared : mg "cleared" = some (.ref A.f_cleared)
  F_made : Fun K "made" "made" s_made A.f_made A.d_made
  bi_made : Binds K A.d_made ["balances", "transfers"] []
  g_made : mg "made" = some (.ref A.f_made)
  F_l_mixed : Fun K "_law_mixed" "_law_mixed" s_l_mixed A.f_l_mixed A.d_l_mixed
  bi_l_mixed : Binds K A.d_l_mixed ["_law_number_here", "_law_turn"] []
  g_l_mixed : mg "_law_mixed" = some (.ref A.f_l_mixed)
  F_l_bag : Fun K "_law_bag" "_law_bag" s_l_bag A.f_l_bag A.d_l_bag
  bi_l_bag : Binds K A.d_l_bag ["_law_script"] []
  g_l_bag : mg "_law_bag" = some (.ref A.f_l_bag)
  F_l_pick : Fun K "_law_pick" "_law_pick" s_l_pick A.f_l_pick A.d_l_pick
  bi_l_pick : Binds K A.d_l_pick ["_law_bag_here", "_law_many"] []
  g_l_pick : mg "_law_pick" = some (.ref A.f_l_pick)
  F_l_sorted : Fun K "_law_sorted" "_law_sorted" s_l_sorted A.f_l_sorted A.d_l_sorted
  bi_l_sorted : Binds K A.d_l_sorted ["_law_things"] []
  g_l_sorted : mg "_law_sorted" = some (.ref A.f_l_sorted)
  F_l_number : Fun K "_law_number" "_law_number" s_l_number A.f_l_number A.d_l_number
  bi_l_number : Binds K A.d_l_number ["_law_thing"] []
  g_l_number : mg "_law_number" = some (.ref A.f_l_number)
  F_l_new_name : Fun K "_law_new_name" "_law_new_name" s_l_new_name A.f_l_new_name A.d_l_new_name
  bi_l_new_name : Binds K A.d_l_new_name ["_law_bag_here", "_law_used"] []
  g_l_new_name : mg "_law_new_name" = some (.ref A.f_l_new_name)
  F_l_balance : Fun K "_law_balance" "_law_balance" s_l_balance A.f_l_balance A.d_l_balance
  bi_l_balance : Binds K A.d_l_balance ["_law_bag_here"] []
  g_l_balance : mg "_law_balance" = some (.ref A.f_l_balance)
  F_l_balances : Fun K "_law_balances" "_law_balances" s_l_balances A.f_l_balances A.d_l_balances
  bi_l_balances : Binds K A.d_l_balances ["_law_bag_here", "_law_names"] []
  g_l_balances : mg "_law_balances" = some (.ref A.f_l_balances)
  F_l_next : Fun K "_law_next" "_law_next" s_l_next A.f_l_next A.d_l_next
  bi_l_next : Binds K A.d_l_next ["_law_balances_here"] []
  g_l_next : mg "_law_next" = some (.ref A.f_l_next)
  F_l_behind : Fun K "_law_behind" "_law_behind" s_l_behind A.f_l_behind A.d_l_behind
  bi_l_behind : Binds K A.d_l_behind ["_law_balances_here", "_law_transfer"] []
  g_l_behind : mg "_law_behind" = some (.ref A.f_l_behind)
  F_l_best : Fun K "_law_best" "_law_best" s_l_best A.f_l_best A.d_l_best
  bi_l_best : Binds K A.d_l_best ["_law_balances_here"] []
  g_l_best : mg "_law_best" = some (.ref A.f_l_best)
  F_l_is_list : Fun K "_law_is_list" "_law_is_list" s_l_is_list A.f_l_is_list A.d_l_is_list
  bi_l_is_list : Binds K A.d_l_is_list ["_law_told"] []
  g_l_is_list : mg "_law_is_list" = some (.ref A.f_l_is_list)
  F_l_clears : Fun K "_law_clears" "_law_clears" s_l_clears A.f_l_clears A.d_l_clears
  bi_l_clears : Binds K A.d_l_clears ["_law_balances_here", "_law_told"] []
  g_l_clears : mg "_law_clears" = some (.ref A.f_l_clears)
  F_law : Fun K "law" "law" s_law A.f_law A.d_law
  bi_law : Binds K A.d_law ["_law_script"] []
  g_law : mg "law" = some (.ref A.f_law)
  g_Unknown : mg "Unknown" = some (.ref A.C_Unknown)
  ox_Unknown : OexC K A.C_Unknown
  nx_Unknown : PySem.W.findIn K (.ref A.C_Unknown) "name" = some none
  ix_Unknown : PySem.W.findIn K (.ref A.C_Unknown) "__init__" = some (some (.ref A.f_Unknown_XinitX))
  tx_Unknown : PySem.W.typeIn K (.ref A.f_Unknown_XinitX) = some (.type "function")
  b_abs : mg "abs" = none
  b_any : mg "any" = none
  b_bool : mg "bool" = none
  b_dict : mg "dict" = none
  b_enumerate : mg "enumerate" = none
  b_int : mg "int" = none
  b_isinstance : mg "isinstance" = none
  b_len : mg "len" = none
  b_list : mg "list" = none
  b_max : mg "max" = none
  b_min : mg "min" = none
  b_range : mg "range" = none
  b_str : mg "str" = none
  b_sum : mg "sum" = none
  b_tuple : mg "tuple" = none
end Dh
/-! K47Pre -/
set_option Elab.async false
set_option linter.all false
set_option maxRecDepth 100000
set_option maxHeartbeats 4000000
namespace Dh
open PySem PySem.Spec L2
open _root_.Evl (Ex)
local macro_rules | `(tactic| walk_at "ex") => `(tactic| first | assumption | ((with_reducible apply ex_mut); (focus assumption); walk_at "ex") | ((with_reducible apply ex_both); walk_at "ex") | ((with_reducible apply ex_new); (focus assumption); walk_at "ex"))
local macro_rules | `(tactic| walk_at "hp") => `(tactic| first | assumption | with_reducible exact upd_same | ((with_reducible apply upd_old); (focus assumption); walk_at "hp") | ((with_reducible apply upd_oth); (focus walk_at "neq"); walk_at "hp") | ((with_reducible apply ex_by); (focus assumption); walk_at "ex") | ((with_reducible apply ex_at); (focus assumption); walk_at "hp"))
local macro_rules | `(tactic| walk_at "neq") => `(tactic| first | assumption | (apply Ne.symm; assumption))
local macro_rules | `(tactic| walk_at "sq") => `(tactic| first | assumption | ((with_reducible apply SqL.of); walk_at "hp") | ((with_reducible apply SqT.of); walk_at "hp"))
local macro_rules | `(tactic| walk_at "side") => `(tactic| first | assumption | decide | exact cm_fmod (by decide) (by decide) | (show _ ≠ (0 : Int); decide) | (show _ ≠ (0 : Int); omega) | exact Or.inr ⟨by decide, by decide⟩ | exact Or.inl ⟨by decide, by decide⟩ | (show CDivN _ _; exact ⟨by decide, by decide⟩) | (show CDivN _ _; exact ⟨by omega, by omega⟩) | exact Or.inl ⟨by omega, by omega⟩ | exact Or.inr ⟨by omega, by omega⟩ | exact ⟨by decide, by decide, by decide⟩)
local macro_rules | `(tactic| walk_at "ix") => `(tactic| first | exact rfl | assumption | exact atI_nat (by assumption))
local macro_rules | `(tactic| walk_at "step0") => `(tactic| first
  | with_reducible refine i_seq ?_
  | with_reducible refine i_asg ?_
  | with_reducible refine i_op ?_
  | ((with_reducible refine' i_var ?hv ?_); (case hv => exact rfl))
  | with_reducible refine i_c ?_
  | with_reducible refine i_cons ?_
  | with_reducible refine i_nil ?_
  | with_reducible refine i_cb ?_
  | with_reducible refine i_call ?_
  | with_reducible refine i_call' ?_
  | with_reducible refine i_un ?_
  | with_reducible refine i_I0 ?_
  | ((with_reducible refine i_I ?hv ?_); (case hv => walk_at "side"))
  | with_reducible refine i_eqI ?_
  | with_reducible refine i_neI ?_
  | with_reducible refine i_eqS ?_
  | with_reducible refine i_neS ?_
  | ((with_reducible refine i_eq ?hv ?_); (case hv => exact rfl))
  | ((with_reducible refine i_ne ?hv ?_); (case hv => exact rfl))
  | with_reducible refine i_int1 ?_
  | with_reducible refine i_abs ?_
  | ((with_reducible refine' i_ixL ?hv ?hw ?_); (case hv => walk_at "sq"); (case hw => walk_at "ix"))
  | ((with_reducible refine' i_ixT ?hv ?hw ?_); (case hv => walk_at "sq"); (case hw => walk_at "ix"))
  | ((with_reducible refine' i_lenL ?hv ?_); (case hv => walk_at "sq"))
  | ((with_reducible refine' i_lenT ?hv ?_); (case hv => walk_at "sq"))
  | with_reducible refine i_addIB ?_
  | with_reducible refine i_mulIB ?_
  | ((with_reducible refine i_lenS ?hv ?_); (case hv => walk_at "side"))
  | with_reducible refine i_tup ?_
  | with_reducible refine i_lst ?_
  | with_reducible refine i_asgG ?_
  | with_reducible refine i_gname ?_
  | with_reducible refine i_gsub ?_
  | ((with_reducible refine' i_setL ?hv ?hw ?_); (case hv => walk_at "hp"); (case hw => exact rfl))
  | with_reducible refine i_ret ?_
  | with_reducible refine i_drop ?_
  | with_reducible refine i_next ?_
  | with_reducible refine i_test ?_
  | with_reducible refine i_B ?_
  | with_reducible refine i_bl ?_
  | with_reducible refine i_not ?_
  | with_reducible refine i_and ?_
  | with_reducible refine i_or ?_
  | ((with_reducible refine' i_app ?hv ?hw ?_); (case hv => walk_at "hp"); (case hw => walk_at "side"))
  | with_reducible refine iteT ?_
  | with_reducible refine iteF ?_
  | with_reducible refine iteNT ?_
  | with_reducible refine iteNF ?_
  | ((with_reducible refine iteT' ?hv ?_); (case hv => first | exact decide_eq_true (by assumption) | exact notF (by assumption) | exact decide_eq_true rfl | exact notF (by decide) | exact decide_eq_true (by decide) | exact decide_eq_true (by simp only [List.length_cons, List.length_nil]; decide)))
  | ((with_reducible refine iteF' ?hv ?_); (case hv => first | exact decide_eq_false (by assumption) | exact notT (by assumption) | exact notT rfl | exact decide_eq_false (by decide) | exact decide_eq_false (by simp only [List.length_cons, List.length_nil]; decide)))
  | with_reducible refine i_forL ?_
  | with_reducible refine i_forT ?_
  | with_reducible refine i_forR ?_
  | with_reducible refine i_forR2 ?_
  | with_reducible refine i_forE ?_
  | with_reducible refine i_forV ?_
  | with_reducible refine i_forS ?_
  | with_reducible refine i_forK ?_
  | with_reducible refine i_lcL ?_
  | with_reducible refine i_lcT ?_
  | with_reducible refine i_lcR ?_
  | with_reducible refine i_lcR2 ?_
  | with_reducible refine i_lcS ?_
  | with_reducible refine i_lcK ?_
  | ((with_reducible refine' fl_L ?hv ?_); (case hv => walk_at "sq"))
  | ((with_reducible refine' fl_T ?hv ?_); (case hv => walk_at "sq"))
  | ((with_reducible refine fl_R ?hv ?hw ?_); (case hv => (first | decide | omega)); (case hw => (first | decide | omega)))
  | ((with_reducible refine fl_R2 ?hv ?_); (case hv => (first | decide | (refine ⟨?_, ?_, ?_, ?_⟩ <;> omega))))
  | ((with_reducible refine' fl_E ?hv ?_); (case hv => walk_at "sq"))
  | ((with_reducible refine' fl_V ?hv ?_); (case hv => walk_at "sq"))
  | with_reducible refine fl_S ?_
  | ((with_reducible refine' fc_L ?hv ?_); (case hv => walk_at "sq"))
  | ((with_reducible refine' fc_T ?hv ?_); (case hv => walk_at "sq"))
  | ((with_reducible refine fc_R ?hv ?hw ?_); (case hv => (first | decide | omega)); (case hw => (first | decide | omega)))
  | with_reducible refine fc_S ?_
  | with_reducible refine i_sl ?_
  | with_reducible refine i_nopart ?_
  | with_reducible refine i_part ?_
  | with_reducible refine i_isint ?_
  | ((with_reducible refine' i_slL ?hv ?_); (case hv => walk_at "sq"))
  | ((with_reducible refine i_slS ?hv ?_); (case hv => walk_at "side"))
  | ((with_reducible refine' i_gtup ?hv ?hw ?_); (case hv => walk_at "sq"); (case hw => exact rfl))
  | with_reducible refine i_gcons ?_
  | with_reducible refine i_gnil ?_
  | ((with_reducible refine' i_listL ?hv ?_); (case hv => walk_at "sq"))
  | ((with_reducible refine' i_listT ?hv ?_); (case hv => walk_at "sq"))
  | ((with_reducible refine' i_tupL ?hv ?_); (case hv => walk_at "sq"))
  | ((with_reducible refine' i_lenD ?hv ?_); (case hv => walk_at "hp"))
  | ((with_reducible refine' i_ty ?hv ?_); (case hv => walk_at "hp"))
  | ((with_reducible refine And.intro ?hv ?_); (case hv => first | exact (by decide : (0 : Nat) ≤ sizeLine) | exact (by decide : (1 : Nat) ≤ sizeLine) | exact (by decide : (2 : Nat) ≤ sizeLine) | exact (by decide : (3 : Nat) ≤ sizeLine) | exact (by decide : (4 : Nat) ≤ sizeLine) | exact (by decide : (5 : Nat) ≤ sizeLine) | exact (by decide : (6 : Nat) ≤ sizeLine)))
  | with_reducible refine i_inC ?_
  | ((with_reducible refine i_addT ?hv ?_); (case hv => walk_at "side"))
  | with_reducible refine i_m1 ?_
  | with_reducible refine i_isstr ?_
  | with_reducible refine is_int_int ?_
  | with_reducible refine is_int_bool ?_
  | with_reducible refine is_str_str ?_
  | ((with_reducible refine' is_tup_tup ?hv ?_); (case hv => walk_at "hp"))
  | with_reducible refine i_ifExp ?_
  | with_reducible refine i_andV ?_
  | with_reducible refine i_orV ?_
  | with_reducible refine i_notV ?_
  | with_reducible refine i_chain ?_
  | ((with_reducible refine' i_inS ?hv ?_); (case hv => walk_at "sq"))
  | ((with_reducible refine' i_niS ?hv ?_); (case hv => walk_at "sq"))
  | ((with_reducible refine' i_inI ?hv ?_); (case hv => walk_at "sq"))
  | ((with_reducible refine' i_niI ?hv ?_); (case hv => walk_at "sq"))
  | with_reducible refine i_dnew ?_
  | with_reducible refine i_dput ?_
  | ((with_reducible refine' i_dputI ?hv ?hw ?_); (case hv => walk_at "hp"); (case hw => walk_at "side"))
  | with_reducible refine i_dget ?_
  | ((with_reducible refine' i_dgetI ?hv ?hw ?_); (case hv => walk_at "hp"); (case hw => assumption))
  | with_reducible refine i_dnotin ?_
  | with_reducible refine i_din ?_
  | ((with_reducible refine' i_dnotinI ?hv ?_); (case hv => walk_at "hp"))
  | with_reducible refine i_dsetd ?_
  | ((with_reducible refine' i_isd ?hv ?_); (case hv => walk_at "hp"))
  | with_reducible refine i_fld ?_
  | with_reducible refine i_sfld ?_
  | with_reducible refine i_dcT ?_
  | with_reducible refine i_dcL ?_
  | with_reducible refine i_truT ?_
  | ((with_reducible refine' i_truL ?hv ?_); (case hv => walk_at "sq"))
  | with_reducible refine i_revL ?_
  | ((with_reducible refine' i_atLx ?hv ?_); (case hv => walk_at "sq"))
  | with_reducible refine i_bm ?_
  | with_reducible refine i_bm0 ?_)
local macro_rules | `(tactic| walk_at "step") => `(tactic| first | walk_at "step0" | with_reducible refine i_ifS ?_)
local macro_rules | `(tactic| walk_at "goj") => `(tactic| repeat (first | walk_at "step0" | with_reducible refine i_ifS (c := tTest _) ?_ | with_reducible refine i_ifS (c := tB _) ?_))
local macro_rules | `(tactic| walk_at "tj") => `(tactic| (intro q hq; repeat (first | exact hq | walk_at "step" | (refine and_q hq (fun h => ?_); clear hq; rename_i hq) | (refine or_q hq (fun h => ?_); clear hq; rename_i hq))))
local macro_rules | `(tactic| walk_at "go") => `(tactic| repeat walk_at "step")

/-! ### heaps -/
def BgL (F : Hp) (l : List V) : Prop := ∃ (n : Addr) (ns : List Int) (i h t s : Int), l = [.ref n, .int i, .int h, .int t, .int s] ∧ F n = some (.lst (ns.map V.int)) ∧ 0 ≤ i ∧ 0 ≤ h
structure Bg (F H : Hp) (b : Addr) : Prop where
  fr : F b = none
  ex : ∃ l, H b = some (.lst l) ∧ BgL F l
def spMixed : Sp := fun vs H Q _ => ∃ x t : Int, vs = [.int x, .int t] ∧ ∀ r : Int, Q (.int r) H
def spPick : Sp := fun vs H Q _ => ∃ (b : Addr) (m : Int) (F : Hp), vs = [.ref b, .int m] ∧ 0 < m ∧ m < 1073741824 ∧ Ex F H ∧ Bg F H b ∧ ∀ (r : Int) (l : List V), 0 ≤ r → r < m → BgL F l → Q (.int r) (upd H b (.lst l))
section
variable {P : Program} {w : World} {K : PySem.W.Frag} {mg : Str → Option Value} {base : Heap} {A : Ad}
theorem ok_l_mixed (T : Txt K mg A) : FnOk P w K mg base CX0 1 A.f_l_mixed A.d_l_mixed ["_law_number_here", "_law_turn"] spMixed := by
  refine T.F_l_mixed.ok sc_l_mixed (fun vs H Q E h => ?_) (fun cdv Ar outer s H vs Q E hr h => ?_)
  · obtain ⟨x, t, rfl, _⟩ := h; rfl
  · obtain ⟨x, t, rfl, k⟩ := h
    refine ⟨_, (pss_cons (ps_set (i := 2) sc_l_mixed.nd rfl (Or.inl rfl) (pe_op op_modN (pe_callTy cl_int (by rfl) T.b_int (by decide +kernel) (pa_cons (pe_op op_add (pe_op op_mul (pe_op op_add (pv 0) pe_int) pe_int) (pe_op op_mul (pe_op op_add (pv 1) pe_int) pe_int)) pa_nil)) pe_int))
  (pss_cons (ps_set (i := 3) sc_l_mixed.nd rfl (Or.inl rfl) (pe_op op_modN (pe_callTy cl_int (by rfl) T.b_int (by decide +kernel) (pa_cons (pe_op op_add (pe_op op_add (pe_op op_mul (pv 2) (pv 2)) (pe_op op_mul (pv 2) pe_int)) (pe_op op_mul (pe_op op_add (pv 1) pe_int) pe_int)) pa_nil)) pe_int))
  (pss_one (ps_ret (pe_op op_modN (pe_callTy cl_int (by rfl) T.b_int (by decide +kernel) (pa_cons (pe_op op_add (pe_op op_add (pe_op op_fdivN (pv 3) pe_int) (pe_op op_mul (pv 3) pe_int)) (pv 1)) pa_nil)) pe_int))))), ?_⟩
    walk_at "go"
    exact k _
theorem ok_l_pick (T : Txt K mg A) : FnOk P w K mg base CX0 2 A.f_l_pick A.d_l_pick ["_law_bag_here", "_law_many"] spPick := by
  refine T.F_l_pick.ok sc_l_pick (fun vs H Q E h => ?_) (fun cdv Ar outer s H vs Q E hr h => ?_)
  · obtain ⟨b, m, F, rfl, _⟩ := h; rfl
  · obtain ⟨b, m, F, rfl, m0, m1, e, ⟨fr, l, hb, n, ns, i, hh, t, sd, rfl, hn, i0, h0⟩, k⟩ := h
    refine ⟨_, (pss_cons (ps_set (i := 2) sc_l_pick.nd rfl (Or.inl rfl) (pe_ix ix_list (pv 0) pe_int (fun _ _ => rfl)))
  (pss_cons (ps_asg (pe_op op_add (pv 2) pe_int) (pg_sub (pv 0) pe_int set_list))
  (pss_cons (ps_if (PW.pt (pw_and (pt_cmpR op_eq (pe_ix ix_list (pv 0) pe_int (fun _ _ => rfl)) pe_int (nomark _)) (pw_and1 (pt_cmpR op_lt (pe_ix ix_list (pv 0) pe_int (fun _ _ => rfl)) (pe_callB cl_len (by rfl) T.b_len (by decide +kernel) (pa_cons (pe_ix ix_list (pv 0) pe_int (fun _ _ => rfl)) pa_nil)) (nomark _))))) (pss_cons (ps_set (i := 3) sc_l_pick.nd rfl (Or.inl rfl) (pe_ix ix_list (pe_ix ix_list (pv 0) pe_int (fun _ _ => rfl)) (pe_ix ix_list (pv 0) pe_int (fun _ _ => rfl)) (fun _ _ => rfl)))
  (pss_cons (ps_asg (pe_op op_add (pe_ix ix_list (pv 0) pe_int (fun _ _ => rfl)) pe_int) (pg_sub (pv 0) pe_int set_list))
  (pss_cons (ps_if (pt_cmpR op_lt (pe_callB cl_abs (by rfl) T.b_abs (by decide +kernel) (pa_cons (pv 3) pa_nil)) (pe_op op_pow pe_int pe_int) (nomark _)) (pss_one (ps_ret (pe_op op_modN (pe_callTy cl_int (by rfl) T.b_int (by decide +kernel) (pa_cons (pe_call (ok_l_mixed T) (hr.mono (by decide)) rfl T.g_l_mixed T.F_l_mixed.kp T.bi_l_mixed .nil pass0 (pa_cons (pe_op op_addIB (pe_op op_mul pe_int (pe_callB cl_abs (by rfl) T.b_abs (by decide +kernel) (pa_cons (pv 3) pa_nil))) (pe_cmpR op_lt (pv 3) pe_int (nomark _))) (pa_cons (pv 2) pa_nil))) pa_nil)) (pv 1)))) pss_nil)
  (pss_one (ps_asg (pe_callB cl_abs (by rfl) T.b_abs (by decide +kernel) (pa_cons (pv 3) pa_nil)) (pg_sub (pv 0) pe_int set_list)))))) pss_nil)
  (pss_cons (ps_if (pt_cmpR op_eq (pe_ix ix_list (pv 0) pe_int (fun _ _ => rfl)) pe_int (nomark _)) (pss_one (ps_ret (pe_op op_modN (pe_callTy cl_int (by rfl) T.b_int (by decide +kernel) (pa_cons (pe_call (ok_l_mixed T) (hr.mono (by decide)) rfl T.g_l_mixed T.F_l_mixed.kp T.bi_l_mixed .nil pass0 (pa_cons (pe_ix ix_list (pv 0) pe_int (fun _ _ => rfl)) (pa_cons (pv 2) pa_nil))) pa_nil)) (pv 1)))) pss_nil)
  (pss_cons (ps_set (i := 4) sc_l_pick.nd rfl (Or.inl rfl) (pe_op op_modN (pe_callTy cl_int (by rfl) T.b_int (by decide +kernel) (pa_cons (pe_ix ix_list (pv 0) pe_int (fun _ _ => rfl)) pa_nil)) (pv 1)))
  (pss_cons (ps_asg (pe_op op_fdivN (pe_ix ix_list (pv 0) pe_int (fun _ _ => rfl)) (pv 1)) (pg_sub (pv 0) pe_int set_list))
  (pss_one (ps_ret (pv 4))))))))), ?_⟩
    dsimp only [cxOf, Cx.nox, Cx.wish]
    have fin : ∀ (z : Int) (l : List V), BgL F l → Q (.int (z.fmod m)) (upd H b (.lst l)) := fun z l hl => k _ l (fmod_lt m0).1 (fmod_lt m0).2 hl
    walk_at "go"
    refine iteD (fun c1 => ?_) (fun c1 => ?_)
    · walk_at "go"
      refine iteD (fun c2 => ?_) (fun c2 => ?_)
      · rw [List.length_map] at c2
        obtain ⟨z, hz, _⟩ := atI_ints i0 c2
        walk_at "go"
        refine iteD (fun c3 => ?_) (fun c3 => ?_)
        · walk_at "go"
          refine ⟨_, _, rfl, fun r => ?_⟩
          walk_at "go"
          rw [upd_upd]
          exact fin _ _ ⟨n, ns, i + 1, hh, t + 1, sd, rfl, hn, by omega, h0⟩
        · walk_at "go"
          rw [upd_upd, upd_upd]
          have a0 : 0 ≤ (if z < 0 then -z else z) := by split <;> omega
          generalize (if z < 0 then -z else z) = az at a0 c3 ⊢
          refine iteD (fun c4 => ?_) (fun c4 => ?_)
          · walk_at "go"
            refine ⟨_, _, rfl, fun r => ?_⟩
            walk_at "go"
            exact fin _ _ ⟨n, ns, i + 1, az, t + 1, sd, rfl, hn, by omega, a0⟩
          · walk_at "go"
            rw [upd_upd]
            exact fin _ _ ⟨n, ns, i + 1, az.fdiv m, t + 1, sd, rfl, hn, by omega, Int.fdiv_nonneg a0 (by omega)⟩
      · walk_at "go"
        refine ⟨_, _, rfl, fun r => ?_⟩
        walk_at "go"
        exact fin _ _ ⟨n, ns, i, hh, t + 1, sd, rfl, hn, i0, h0⟩
    · walk_at "go"
      rw [upd_upd]
      exact fin _ _ ⟨n, ns, i, hh.fdiv m, t + 1, sd, rfl, hn, i0, Int.fdiv_nonneg h0 (by omega)⟩
/-- law's bag: a new list [numbers, 0, 0, 0, seed] over a new list of the numbers -/
def spBag (K : PySem.W.Frag) : Sp := fun vs H Q _ => ∃ (a : Addr) (ns : List Int), vs = [.ref a] ∧ SqL K H a (ns.map V.int) ∧ ns.length ≤ 63 ∧ ∀ (b n : Addr) (sd : Int) (H' : Hp), Ex H H' → H b = none → H n = none → b ≠ n → H' n = some (.lst (ns.map V.int)) → H' b = some (.lst [.ref n, .int 0, .int 0, .int 0, .int sd]) → Q (.ref b) H'
theorem ok_l_bag (T : Txt K mg A) : FnOk P w K mg base CX0 1 A.f_l_bag A.d_l_bag ["_law_script"] (spBag K) := by
  refine T.F_l_bag.ok sc_l_bag (fun vs H Q E h => ?_) (fun cdv Ar outer s H vs Q E hr h => ?_)
  · obtain ⟨a, ns, rfl, _⟩ := h; rfl
  · obtain ⟨a, ns, rfl, hS, hl, k⟩ := h
    refine ⟨_, (pss_cons (ps_setLc (i := 1) (own := [("_law_cell", 2)]) (g := gName 2) (tt := tYes) rfl sc_l_bag.nd rfl rfl (sw_true rfl rfl rfl (by decide +kernel)) (pi_list (pv 0)) (blkOk_by (N := ["_law_script", "_law_numbers", "_law_cell", "_law_seed", "_law_at"]) (sc := defScope s_l_bag) (by decide +kernel)) (fun _ _ _ _ _ => (pg_name (i := 2) sc_l_bag.nd rfl (Or.inl rfl))) (fun _ _ _ _ _ => pts_nil) (fun _ _ _ _ _ => (pe_callTy cl_int (by rfl) T.b_int (by decide +kernel) (pa_cons (pv 2) pa_nil))))
  (pss_cons (ps_set (i := 3) sc_l_bag.nd rfl (Or.inl rfl) (pe_callB cl_len (by rfl) T.b_len (by decide +kernel) (pa_cons (pv 1) pa_nil)))
  (pss_cons (ps_for PassesOwn.never rfl (pi_enum (by rfl) T.b_enumerate (pa_cons (pe_slice sl_list (pv 1) po_none (po_some pe_int)) pa_nil)) (pg_tup (n := 2) rfl (pgs_cons (pg_name (i := 4) sc_l_bag.nd rfl (Or.inl rfl)) (pgs_cons (pg_name (i := 2) sc_l_bag.nd rfl (Or.inl rfl)) pgs_nil)) (by rfl))
   (pss_one (ps_set (i := 3) sc_l_bag.nd rfl (Or.inl rfl) (pe_op op_modN (pe_callTy cl_int (by rfl) T.b_int (by decide +kernel) (pa_cons (pe_op op_add (pe_op op_add (pe_op op_mul (pv 3) pe_int) (pe_op op_modN (pe_callTy cl_int (by rfl) T.b_int (by decide +kernel) (pa_cons (pe_callB cl_abs (by rfl) T.b_abs (by decide +kernel) (pa_cons (pv 2) pa_nil)) pa_nil)) pe_int)) (pe_op op_mulIB (pe_op op_add (pv 4) pe_int) (pe_cmpR op_lt (pv 2) pe_int (nomark _)))) pa_nil)) pe_int))))
  (pss_one (ps_ret (pe_lst (pa_cons (pv 1) (pa_cons pe_int (pa_cons pe_int (pa_cons pe_int (pa_cons (pv 3) pa_nil))))))))))), ?_⟩
    dsimp only [cxOf, Cx.nox, Cx.wish]
    walk_at "go"
    refine lc_pure (fun i => .int (ns.getD i 0)) (by simp; have : (63 : Nat) < sizeLine := by decide
                                                     omega) (fun i => .int (ns.getD i 0)) (fun H' e => _root_.Evl.ex_l e hS) (fun i H0 v H' hi y => ⟨y.1, ?_⟩) (fun i H' Q' hi e q => ?_) (fun n hn => ?_)
    · have := y.2; simp at hi this; simp [hi] at this ⊢; exact this.symm
    · walk_at "go"; exact q
    · rw [map_range_getD]
      walk_at "go"
      intro p hp
      walk_at "go"
      refine ⟨fun i σ H' => ∃ (c : Option V) (sd : Int) (t : Option V), σ = [some (.ref a), some (.ref n), c, some (.int sd), t] ∧ Ex (upd (upd H n (.lst (ns.map V.int))) p (.lst (cutV (ns.map V.int) none (some 63)))) H', ⟨none, _, none, rfl, Ex.refl _⟩, fun i σ H' hi ⟨c, sd, t, h1, e1⟩ => ?_, fun i x σ H1 H2 hi ⟨c, sd, t, h1, e1⟩ y => ?_, fun σ H' ⟨c, sd, t, h1, e1⟩ => ?_⟩
      · walk_at "sq"
      · obtain ⟨T', x', y', rfl, hT, rfl, h3, h4⟩ := y
        subst h1
        obtain rfl : V.int (i : Nat) = x' := Option.some.inj h3
        have h5 : ∃ z, y' = V.int z := by
          have h4' := List.mem_of_getElem? h4
          have h6 := List.mem_of_mem_drop (List.mem_of_mem_take h4')
          obtain ⟨z, _, e⟩ := List.mem_map.mp h6
          exact ⟨z, e.symm⟩
        obtain ⟨z, rfl⟩ := h5
        walk_at "go"
        exact ⟨_, _, _, rfl, e1.trans (Ex.new hT)⟩
      · subst h1
        walk_at "go"
        intro b hb
        have eH : Ex H H' := (Ex.new hn).trans ((Ex.new hp).trans e1)
        have hn' : H' n = some (.lst (ns.map V.int)) := e1 _ _ (upd_old hp upd_same)
        exact k b n sd _ (eH.trans (Ex.new hb)) (ex_none eH hb) hn (ne_of_none hn' hb).symm (upd_old hb hn') upd_same
end
end Dh
/-! K47Na -/
set_option Elab.async false
set_option linter.all false
set_option maxRecDepth 100000
set_option maxHeartbeats 4000000
namespace Dh
open PySem PySem.Spec L2
open _root_.Evl (Ex)
local macro_rules | `(tactic| walk_at "ex") => `(tactic| first | assumption | ((with_reducible apply ex_mut); (focus assumption); walk_at "ex") | ((with_reducible apply ex_both); walk_at "ex") | ((with_reducible apply ex_new); (focus assumption); walk_at "ex"))
local macro_rules | `(tactic| walk_at "hp") => `(tactic| first | assumption | with_reducible exact upd_same | ((with_reducible apply upd_old); (focus assumption); walk_at "hp") | ((with_reducible apply upd_oth); (focus walk_at "neq"); walk_at "hp") | ((with_reducible apply ex_by); (focus assumption); walk_at "ex") | ((with_reducible apply ex_at); (focus assumption); walk_at "hp"))
local macro_rules | `(tactic| walk_at "neq") => `(tactic| first | assumption | (apply Ne.symm; assumption))
local macro_rules | `(tactic| walk_at "sq") => `(tactic| first | assumption | ((with_reducible apply SqL.of); walk_at "hp") | ((with_reducible apply SqT.of); walk_at "hp"))
local macro_rules | `(tactic| walk_at "side") => `(tactic| first | assumption | decide | exact cm_fmod (by decide) (by decide) | (show _ ≠ (0 : Int); decide) | (show _ ≠ (0 : Int); omega) | exact Or.inr ⟨by decide, by decide⟩ | exact Or.inl ⟨by decide, by decide⟩ | (show CDivN _ _; exact ⟨by decide, by decide⟩) | (show CDivN _ _; exact ⟨by omega, by omega⟩) | exact Or.inl ⟨by omega, by omega⟩ | exact Or.inr ⟨by omega, by omega⟩ | exact ⟨by decide, by decide, by decide⟩)
local macro_rules | `(tactic| walk_at "ix") => `(tactic| first | exact rfl | assumption | exact atI_nat (by assumption))
local macro_rules | `(tactic| walk_at "step0") => `(tactic| first
  | with_reducible refine i_seq ?_
  | with_reducible refine i_asg ?_
  | with_reducible refine i_op ?_
  | ((with_reducible refine' i_var ?hv ?_); (case hv => exact rfl))
  | with_reducible refine i_c ?_
  | with_reducible refine i_cons ?_
  | with_reducible refine i_nil ?_
  | with_reducible refine i_cb ?_
  | with_reducible refine i_call ?_
  | with_reducible refine i_call' ?_
  | with_reducible refine i_un ?_
  | with_reducible refine i_I0 ?_
  | ((with_reducible refine i_I ?hv ?_); (case hv => walk_at "side"))
  | with_reducible refine i_eqI ?_
  | with_reducible refine i_neI ?_
  | with_reducible refine i_eqS ?_
  | with_reducible refine i_neS ?_
  | ((with_reducible refine i_eq ?hv ?_); (case hv => exact rfl))
  | ((with_reducible refine i_ne ?hv ?_); (case hv => exact rfl))
  | with_reducible refine i_int1 ?_
  | with_reducible refine i_abs ?_
  | ((with_reducible refine' i_ixL ?hv ?hw ?_); (case hv => walk_at "sq"); (case hw => walk_at "ix"))
  | ((with_reducible refine' i_ixT ?hv ?hw ?_); (case hv => walk_at "sq"); (case hw => walk_at "ix"))
  | ((with_reducible refine' i_lenL ?hv ?_); (case hv => walk_at "sq"))
  | ((with_reducible refine' i_lenT ?hv ?_); (case hv => walk_at "sq"))
  | with_reducible refine i_addIB ?_
  | with_reducible refine i_mulIB ?_
  | ((with_reducible refine i_lenS ?hv ?_); (case hv => walk_at "side"))
  | with_reducible refine i_tup ?_
  | with_reducible refine i_lst ?_
  | with_reducible refine i_asgG ?_
  | with_reducible refine i_gname ?_
  | with_reducible refine i_gsub ?_
  | ((with_reducible refine' i_setL ?hv ?hw ?_); (case hv => walk_at "hp"); (case hw => exact rfl))
  | with_reducible refine i_ret ?_
  | with_reducible refine i_drop ?_
  | with_reducible refine i_next ?_
  | with_reducible refine i_test ?_
  | with_reducible refine i_B ?_
  | with_reducible refine i_bl ?_
  | with_reducible refine i_not ?_
  | with_reducible refine i_and ?_
  | with_reducible refine i_or ?_
  | ((with_reducible refine' i_app ?hv ?hw ?_); (case hv => walk_at "hp"); (case hw => walk_at "side"))
  | with_reducible refine iteT ?_
  | with_reducible refine iteF ?_
  | with_reducible refine iteNT ?_
  | with_reducible refine iteNF ?_
  | ((with_reducible refine iteT' ?hv ?_); (case hv => first | exact decide_eq_true (by assumption) | exact notF (by assumption) | exact decide_eq_true rfl | exact notF (by decide) | exact decide_eq_true (by decide) | exact decide_eq_true (by simp only [List.length_cons, List.length_nil]; decide)))
  | ((with_reducible refine iteF' ?hv ?_); (case hv => first | exact decide_eq_false (by assumption) | exact notT (by assumption) | exact notT rfl | exact decide_eq_false (by decide) | exact decide_eq_false (by simp only [List.length_cons, List.length_nil]; decide)))
  | with_reducible refine i_forL ?_
  | with_reducible refine i_forT ?_
  | with_reducible refine i_forR ?_
  | with_reducible refine i_forR2 ?_
  | with_reducible refine i_forE ?_
  | with_reducible refine i_forV ?_
  | with_reducible refine i_forS ?_
  | with_reducible refine i_forK ?_
  | with_reducible refine i_lcL ?_
  | with_reducible refine i_lcT ?_
  | with_reducible refine i_lcR ?_
  | with_reducible refine i_lcR2 ?_
  | with_reducible refine i_lcS ?_
  | with_reducible refine i_lcK ?_
  | ((with_reducible refine' fl_L ?hv ?_); (case hv => walk_at "sq"))
  | ((with_reducible refine' fl_T ?hv ?_); (case hv => walk_at "sq"))
  | ((with_reducible refine fl_R ?hv ?hw ?_); (case hv => (first | decide | omega)); (case hw => (first | decide | omega)))
  | ((with_reducible refine fl_R2 ?hv ?_); (case hv => (first | decide | (refine ⟨?_, ?_, ?_, ?_⟩ <;> omega))))
  | ((with_reducible refine' fl_E ?hv ?_); (case hv => walk_at "sq"))
  | ((with_reducible refine' fl_V ?hv ?_); (case hv => walk_at "sq"))
  | with_reducible refine fl_S ?_
  | ((with_reducible refine' fc_L ?hv ?_); (case hv => walk_at "sq"))
  | ((with_reducible refine' fc_T ?hv ?_); (case hv => walk_at "sq"))
  | ((with_reducible refine fc_R ?hv ?hw ?_); (case hv => (first | decide | omega)); (case hw => (first | decide | omega)))
  | with_reducible refine fc_S ?_
  | with_reducible refine i_sl ?_
  | with_reducible refine i_nopart ?_
  | with_reducible refine i_part ?_
  | with_reducible refine i_isint ?_
  | ((with_reducible refine' i_slL ?hv ?_); (case hv => walk_at "sq"))
  | ((with_reducible refine i_slS ?hv ?_); (case hv => walk_at "side"))
  | ((with_reducible refine' i_gtup ?hv ?hw ?_); (case hv => walk_at "sq"); (case hw => exact rfl))
  | with_reducible refine i_gcons ?_
  | with_reducible refine i_gnil ?_
  | ((with_reducible refine' i_listL ?hv ?_); (case hv => walk_at "sq"))
  | ((with_reducible refine' i_listT ?hv ?_); (case hv => walk_at "sq"))
  | ((with_reducible refine' i_tupL ?hv ?_); (case hv => walk_at "sq"))
  | ((with_reducible refine' i_lenD ?hv ?_); (case hv => walk_at "hp"))
  | ((with_reducible refine' i_ty ?hv ?_); (case hv => walk_at "hp"))
  | ((with_reducible refine And.intro ?hv ?_); (case hv => first | exact (by decide : (0 : Nat) ≤ sizeLine) | exact (by decide : (1 : Nat) ≤ sizeLine) | exact (by decide : (2 : Nat) ≤ sizeLine) | exact (by decide : (3 : Nat) ≤ sizeLine) | exact (by decide : (4 : Nat) ≤ sizeLine) | exact (by decide : (5 : Nat) ≤ sizeLine) | exact (by decide : (6 : Nat) ≤ sizeLine)))
  | with_reducible refine i_inC ?_
  | ((with_reducible refine i_addT ?hv ?_); (case hv => walk_at "side"))
  | with_reducible refine i_m1 ?_
  | with_reducible refine i_isstr ?_
  | with_reducible refine is_int_int ?_
  | with_reducible refine is_int_bool ?_
  | with_reducible refine is_str_str ?_
  | ((with_reducible refine' is_tup_tup ?hv ?_); (case hv => walk_at "hp"))
  | with_reducible refine i_ifExp ?_
  | with_reducible refine i_andV ?_
  | with_reducible refine i_orV ?_
  | with_reducible refine i_notV ?_
  | with_reducible refine i_chain ?_
  | ((with_reducible refine' i_inS ?hv ?_); (case hv => walk_at "sq"))
  | ((with_reducible refine' i_niS ?hv ?_); (case hv => walk_at "sq"))
  | ((with_reducible refine' i_inI ?hv ?_); (case hv => walk_at "sq"))
  | ((with_reducible refine' i_niI ?hv ?_); (case hv => walk_at "sq"))
  | with_reducible refine i_dnew ?_
  | with_reducible refine i_dput ?_
  | ((with_reducible refine' i_dputI ?hv ?hw ?_); (case hv => walk_at "hp"); (case hw => walk_at "side"))
  | with_reducible refine i_dget ?_
  | ((with_reducible refine' i_dgetI ?hv ?hw ?_); (case hv => walk_at "hp"); (case hw => assumption))
  | with_reducible refine i_dnotin ?_
  | with_reducible refine i_din ?_
  | ((with_reducible refine' i_dnotinI ?hv ?_); (case hv => walk_at "hp"))
  | with_reducible refine i_dsetd ?_
  | ((with_reducible refine' i_isd ?hv ?_); (case hv => walk_at "hp"))
  | with_reducible refine i_fld ?_
  | with_reducible refine i_sfld ?_
  | with_reducible refine i_dcT ?_
  | with_reducible refine i_dcL ?_
  | with_reducible refine i_truT ?_
  | ((with_reducible refine' i_truL ?hv ?_); (case hv => walk_at "sq"))
  | with_reducible refine i_revL ?_
  | ((with_reducible refine' i_atLx ?hv ?_); (case hv => walk_at "sq"))
  | with_reducible refine i_bm ?_
  | with_reducible refine i_bm0 ?_)
local macro_rules | `(tactic| walk_at "step") => `(tactic| first | walk_at "step0" | with_reducible refine i_ifS ?_)
local macro_rules | `(tactic| walk_at "goj") => `(tactic| repeat (first | walk_at "step0" | with_reducible refine i_ifS (c := tTest _) ?_ | with_reducible refine i_ifS (c := tB _) ?_))
local macro_rules | `(tactic| walk_at "tj") => `(tactic| (intro q hq; repeat (first | exact hq | walk_at "step" | (refine and_q hq (fun h => ?_); clear hq; rename_i hq) | (refine or_q hq (fun h => ?_); clear hq; rename_i hq))))
local macro_rules | `(tactic| walk_at "go") => `(tactic| repeat walk_at "step")

/-- behind H0: F stands frozen, the bag at b is one, all else of H0 is kept -/
structure Sb (F : Hp) (b : Addr) (H0 H : Hp) : Prop where
  ex : Ex F H
  bg : Bg F H b
  kp : Kp b H0 H
theorem Sb.ne {F H0 H : Hp} {b p : Addr} (S : Sb F b H0 H) (n : H p = none) : p ≠ b := by
  obtain ⟨l, hb, _⟩ := S.bg.ex
  exact (ne_of_none hb n).symm
theorem Sb.free {F H0 H : Hp} {b p : Addr} (S : Sb F b H0 H) (n : H p = none) : H0 p = none := by
  obtain ⟨l, hb, _⟩ := S.bg.ex
  exact S.kp.free hb n
theorem Sb.fr {F H0 H : Hp} {b p : Addr} (S : Sb F b H0 H) (n : H p = none) : F p = none := ex_none S.ex n
theorem Sb.start {F H : Hp} {b : Addr} (e : Ex F H) (B : Bg F H b) : Sb F b H H := ⟨e, B, Kp.refl⟩
theorem Sb.pick {F H0 H : Hp} {b : Addr} {l : List V} (S : Sb F b H0 H) (hl : BgL F l) : Sb F b H0 (upd H b (.lst l)) :=
  ⟨ex_mut S.bg.fr S.ex, ⟨S.bg.fr, l, upd_same, hl⟩, S.kp.trans Kp.upd⟩
theorem Sb.new {F H0 H : Hp} {b p : Addr} {o : HO} (S : Sb F b H0 H) (n : H p = none) : Sb F b H0 (upd H p o) := by
  obtain ⟨l, hb, hl⟩ := S.bg.ex
  exact ⟨ex_new n S.ex, ⟨S.bg.fr, l, upd_old n hb, hl⟩, S.kp.mut (S.free n)⟩
theorem Sb.mut {F H0 H : Hp} {b p : Addr} {o : HO} (S : Sb F b H0 H) (f : F p = none) (n : H0 p = none) (ne : p ≠ b) : Sb F b H0 (upd H p o) := by
  obtain ⟨l, hb, hl⟩ := S.bg.ex
  exact ⟨ex_mut f S.ex, ⟨S.bg.fr, l, upd_oth ne.symm hb, hl⟩, S.kp.mut n⟩
theorem i_pick {F H : Hp} {b : Addr} {m : Int} {Q : VK} {E : XK} (e : Ex F H) (B : Bg F H b) (h0 : 0 < m) (h1 : m < 1073741824) (k : ∀ (r : Int) (l : List V), 0 ≤ r → r < m → BgL F l → Q (.int r) (upd H b (.lst l))) : spPick [.ref b, .int m] H Q E := ⟨b, m, F, rfl, h0, h1, e, B, k⟩
theorem BgL.ex {F F' : Hp} {l : List V} (x : Ex F F') (h : BgL F l) : BgL F' l := by
  obtain ⟨n, ns, i, hh, t, s, e, hn, r⟩ := h
  exact ⟨n, ns, i, hh, t, s, e, x _ _ hn, r⟩
theorem Sb.frz {F H0 H : Hp} {b p : Addr} {o : HO} (S : Sb F b H0 H) (n : H p = none) : Sb (upd F p o) b H0 (upd H p o) := by
  obtain ⟨l, hb, hl⟩ := S.bg.ex
  have ne := S.ne n
  exact ⟨ex_both S.ex, ⟨by rw [upd_ne ne.symm]; exact S.bg.fr, l, upd_old n hb, hl.ex (Ex.new (S.fr n))⟩, S.kp.mut (S.free n)⟩
/-- what stands already is frozen -/
theorem Sb.fix {F H0 H : Hp} {b p : Addr} {o : HO} (S : Sb F b H0 H) (h : H p = some o) (f : F p = none) (ne : p ≠ b) : Sb (upd F p o) b H0 H := by
  obtain ⟨l, hb, hl⟩ := S.bg.ex
  refine ⟨fun a u e => ?_, ⟨by rw [upd_ne ne.symm]; exact S.bg.fr, l, hb, hl.ex (Ex.new f)⟩, S.kp⟩
  by_cases q : a = p
  · subst q; rw [upd_same] at e; cases e; exact h
  · rw [upd_ne q] at e; exact S.ex a u e
theorem paired_snoc {α β : Type} {R : α → β → Prop} : ∀ {xs : List α} {ys : List β} {x : α} {y : β}, Paired R xs ys → R x y → Paired R (xs ++ [x]) (ys ++ [y])
  | _, _, _, _, .nil, h => .cons h .nil
  | _, _, _, _, .cons r t, h => .cons r (paired_snoc t h)
theorem name_app {a : Str} {l : List Nat} (h : ∀ c ∈ a.cps.toList, c ∈ l) {b : Str} (h' : ∀ c ∈ b.cps.toList, c ∈ l) : ∀ c ∈ (a ++ b).cps.toList, c ∈ l := by
  intro c hc
  rw [app_L] at hc
  rcases List.mem_append.mp hc with q | q
  · exact h c q
  · exact h' c q
/-- H without what stands at u -/
def less (H : Hp) (u : Addr) : Hp := fun a => if a = u then none else H a
theorem less_same {H : Hp} {u : Addr} : less H u u = none := if_pos rfl
theorem less_ne {H : Hp} {u a : Addr} (n : a ≠ u) : less H u a = H a := if_neg n
theorem Sb.startL {F H : Hp} {b u : Addr} (e : Ex F H) (B : Bg F H b) : Sb F b (less H u) H := ⟨e, B, fun a o _ h => by
  by_cases q : a = u
  · subst q; rw [less_same] at h; cases h
  · rw [less_ne q] at h; exact h⟩
section
variable {P : Program} {w : World} {K : PySem.W.Frag} {mg : Str → Option Value} {base : Heap} {A : Ad}
def spNewName : Sp := fun vs H Q _ => ∃ (b u : Addr) (us : List Str) (F : Hp), vs = [.ref b, .ref u] ∧ Ex F H ∧ Bg F H b ∧ F u = none ∧ u ≠ b ∧ H u = some (.lst (us.map V.str)) ∧ us.length ≤ 600 ∧ (∀ x ∈ us, NameOk x) ∧
  ∀ (x : Str) (H' : Hp), NameOk x → x ∉ us → H' u = some (.lst ((us ++ [x]).map V.str)) → Sb F b (less H u) H' → Q (.str x) H'
theorem letter_at {r : Int} (r0 : 0 ≤ r) (r1 : r < 26) : ∃ c, atI ("abcdefghijklmnopqrstuvwxyz" : Str).cps.toList r = some c ∧ c ∈ letters := by
  obtain ⟨c, h, m⟩ := atI_lt (xs := ("abcdefghijklmnopqrstuvwxyz" : Str).cps.toList) r0 (by
    have : (("abcdefghijklmnopqrstuvwxyz" : Str).cps.toList).length = 26 := by decide +kernel
    rw [this]; omega)
  exact ⟨c, h, List.mem_of_getElem? m⟩
theorem letters_len : ("abcdefghijklmnopqrstuvwxyz" : Str).length ≤ sizeLine := by decide +kernel
theorem one_L (c : Nat) : (⟨#[c]⟩ : Str).cps.toList = [c] := rfl
theorem ok_l_new_name (T : Txt K mg A) : FnOk P w K mg base CX0 3 A.f_l_new_name A.d_l_new_name ["_law_bag_here", "_law_used"] spNewName := by
  refine T.F_l_new_name.ok sc_l_new_name (fun vs H Q E h => ?_) (fun cdv Ar outer s H vs Q E hr h => ?_)
  · obtain ⟨b, u, us, F, rfl, _⟩ := h; rfl
  · obtain ⟨b, u, us, F, rfl, e, B, Fu, ub, hu, us6, usN, k⟩ := h
    refine ⟨_, (pss_cons (ps_set (i := 2) sc_l_new_name.nd rfl (Or.inr rfl) pe_str)
  (pss_cons (ps_set (i := 3) sc_l_new_name.nd rfl (Or.inr rfl) (pe_joinL pe_str (pe_lc (own := [("_law_step", 4)]) (g := gName 4) (tt := tYes) rfl sc_l_new_name.nd (pi_range1 rfl T.b_range (pa_cons (pe_op op_add pe_int (pe_call (ok_l_pick T) (hr.mono (by decide)) rfl T.g_l_pick T.F_l_pick.kp T.bi_l_pick .nil pass0 (pa_cons (pv 0) (pa_cons pe_int pa_nil)))) pa_nil)) (blkOk_by (N := ["_law_bag_here", "_law_used", "_law_letters", "_law_told", "_law_step", "_law_near", "_law_at", "_law_tails", "_law_k", "_law_tail"]) (sc := defScope s_l_new_name) (by decide +kernel)) (fun _ _ _ _ _ => (pg_name (i := 4) sc_l_new_name.nd rfl (Or.inl rfl))) (fun _ _ _ _ _ => pts_nil) (fun _ _ _ _ _ => (pe_ix ix_str (pv 2) (pe_call (ok_l_pick T) (hr.mono (by decide)) rfl T.g_l_pick T.F_l_pick.kp T.bi_l_pick .nil pass0 (pa_cons (pv 0) (pa_cons pe_int pa_nil))) (fun _ _ => rfl))))))
  (_root_.Evl.pss_cut (ps_if (PW.pt (pw_and (pt_tru (pv 1)) (pw_and1 (pt_cmpR op_eq (pe_call (ok_l_pick T) (hr.mono (by decide)) rfl T.g_l_pick T.F_l_pick.kp T.bi_l_pick .nil pass0 (pa_cons (pv 0) (pa_cons pe_int pa_nil))) pe_int (nomark _))))) (pss_cons (ps_set (i := 5) sc_l_new_name.nd rfl (Or.inl rfl) (pe_slice sl_str (pe_ix ix_list (pv 1) (pe_call (ok_l_pick T) (hr.mono (by decide)) rfl T.g_l_pick T.F_l_pick.kp T.bi_l_pick .nil pass0 (pa_cons (pv 0) (pa_cons (pe_callB cl_len (by rfl) T.b_len (by decide +kernel) (pa_cons (pv 1) pa_nil)) pa_nil))) (fun _ _ => rfl)) po_none (po_some pe_int)))
  (pss_cons (ps_set (i := 6) sc_l_new_name.nd rfl (Or.inl rfl) (pe_call (ok_l_pick T) (hr.mono (by decide)) rfl T.g_l_pick T.F_l_pick.kp T.bi_l_pick .nil pass0 (pa_cons (pv 0) (pa_cons (pe_callB cl_lenS (by rfl) T.b_len (by decide +kernel) (pa_cons (pv 5) pa_nil)) pa_nil))))
  (pss_one (ps_set (i := 3) sc_l_new_name.nd rfl (Or.inr rfl) (pe_op op_addT (pe_op op_addT (pe_slice sl_str (pv 5) po_none (po_some (pv 6))) (pe_ix ix_str (pv 2) (pe_call (ok_l_pick T) (hr.mono (by decide)) rfl T.g_l_pick T.F_l_pick.kp T.bi_l_pick .nil pass0 (pa_cons (pv 0) (pa_cons pe_int pa_nil))) (fun _ _ => rfl))) (pe_slice sl_str (pv 5) (po_some (pe_op op_add (pv 6) pe_int)) po_none)))))) pss_nil)
  (_root_.Evl.pss_cut (ps_if (pt_cmpR op_in_seq (pv 3) (pv 1) rfl) (pss_cons (ps_setLc (i := 7) (own := [("_law_k", 8)]) (g := gName 8) (tt := tYes) rfl sc_l_new_name.nd rfl rfl (sw_true rfl rfl rfl (by decide +kernel)) (pi_range1 rfl T.b_range (pa_cons pe_int pa_nil)) (blkOk_by (N := ["_law_bag_here", "_law_used", "_law_letters", "_law_told", "_law_step", "_law_near", "_law_at", "_law_tails", "_law_k", "_law_tail"]) (sc := defScope s_l_new_name) (by decide +kernel)) (fun _ _ _ _ _ => (pg_name (i := 8) sc_l_new_name.nd rfl (Or.inl rfl))) (fun _ _ _ _ _ => pts_nil) (fun _ _ _ _ _ => (pe_op op_addT (pe_ix ix_str (pv 2) (pe_op op_fdivN (pv 8) pe_int) (fun _ _ => rfl)) (pe_ix ix_str (pv 2) (pe_op op_modN (pe_callTy cl_int (by rfl) T.b_int (by decide +kernel) (pa_cons (pv 8) pa_nil)) pe_int) (fun _ _ => rfl)))))
  (pss_one (ps_set (i := 3) sc_l_new_name.nd rfl (Or.inr rfl) (pe_ix ix_list (pe_lc (own := [("_law_tail", 9)]) (g := gName 9) rfl sc_l_new_name.nd (pi_list (pv 7)) (blkOk_by (N := ["_law_bag_here", "_law_used", "_law_letters", "_law_told", "_law_step", "_law_near", "_law_at", "_law_tails", "_law_k", "_law_tail"]) (sc := defScope s_l_new_name) (by decide +kernel)) (fun _ _ _ _ _ => (pg_name (i := 9) sc_l_new_name.nd rfl (Or.inl rfl))) (fun _ _ _ _ _ => pts_one (pt_cmpR (show OpR _ (compareOp .NotIn) (rIn K true) from op_notIn_seq) (pe_op op_addT (pe_slice sl_str (pv 3) po_none (po_some pe_int)) (pv 9)) (pv 1) rfl)) (fun _ _ _ _ _ => (pe_op op_addT (pe_slice sl_str (pv 3) po_none (po_some pe_int)) (pv 9)))) pe_int (fun _ _ => rfl))))) pss_nil)
  (pss_cons (ps_expr (pe_bm PySem.F.plainAttrs_list PySem.F.slot_list_append PySem.F.type_list_append mt_append (pv 1) (pa_cons (pv 3) pa_nil)))
  (pss_one (ps_ret (pv 3)))))))), ?_⟩
    dsimp only [cxOf, Cx.nox, Cx.wish]
    have S0 := Sb.startL (u := u) e B
    have hu0 : less H u u = none := less_same
    walk_at "go"
    refine i_pick S0.ex S0.bg (by decide) (by decide) fun r l r0 r1 hl => ?_
    have S1 := S0.pick hl
    have hu1 := upd_oth (u' := .lst l) ub hu
    generalize upd H b (.lst l) = H1 at S1 hu1
    walk_at "go"
    refine lc_eff fun D hD => ⟨fun i acc H' => ∃ ys : List Str, acc = ys.map V.str ∧ Sb F b (less H u) H' ∧ H' u = some (.lst (us.map V.str)) ∧ ys.length = i ∧ ∀ y ∈ ys, ∃ c, c ∈ letters ∧ y = ⟨#[c]⟩, ?_, fun _ _ _ _ _ => trivial, fun i x acc H2 H3 hi h hacc y => ?_, fun acc H2 h hacc => ?_⟩
    · exact ⟨[], rfl, S1.new hD, upd_old hD hu1, rfl, by simp⟩
    · obtain ⟨ys, rfl, S, h2, h3, h4⟩ := h
      obtain ⟨rfl, rfl⟩ := y
      have Db := S1.ne hD
      have Du : D ≠ u := (ne_of_none hu1 hD).symm
      walk_at "go"
      refine i_pick S.ex S.bg (by decide) (by decide) fun r l r0 r1 hl => ?_
      have S' := S.pick hl
      obtain ⟨c, hc, lc⟩ := letter_at r0 r1
      refine i_ixS letters_len hc ?_
      have hi' : i < 7 := by omega
      refine lcK (upd_oth Db hacc) (by rw [List.length_map, sizeLine_eq]; omega) ⟨ys ++ [⟨#[c]⟩], by simp, S'.mut (S1.fr hD) (S1.free hD) Db, by walk_at "hp", by simp [h3], ?_⟩
      intro y hy
      rcases List.mem_append.mp hy with q | q
      · exact h4 y q
      · simp at q; exact ⟨c, lc, q⟩
    obtain ⟨ys, rfl, S, h2, h3, h4⟩ := h
    have j1 : ∀ (l : List Str), (∀ y ∈ l, ∃ c, c ∈ letters ∧ y = (⟨#[c]⟩ : Str)) → ((l.map fun y => y.cps.toList).flatten).length = l.length ∧ (l.map (·.length)).sum = l.length ∧ ∀ c ∈ (l.map fun y => y.cps.toList).flatten, c ∈ letters := by
      intro l
      induction l with
      | nil => simp
      | cons a r ih =>
        intro h
        obtain ⟨c, hc, rfl⟩ := h a List.mem_cons_self
        obtain ⟨i1, i2, i3⟩ := ih fun y hy => h y (List.mem_cons_of_mem _ hy)
        have : (⟨#[c]⟩ : Str).length = 1 := rfl
        refine ⟨by simp [i1, Nat.add_comm], by simp [i2, this, Nat.add_comm], ?_⟩
        intro d hd
        simp at hd
        rcases hd with rfl | ⟨y, hy, hd⟩
        · exact hc
        · exact i3 d (by simp; exact ⟨y, hy, hd⟩)
    obtain ⟨j1, j2, j3⟩ := j1 ys h4
    have e0 : (PySem.Str.ofString "").length = 0 := by decide +kernel
    refine i_joinL (SqL.of hacc) (by rw [j2, e0]; omega) ?_
    have T1 : 1 ≤ (Txt.join "" ys).length ∧ (Txt.join "" ys).length ≤ 6 ∧ ∀ c ∈ (Txt.join "" ys).cps.toList, c ∈ letters := by
      rw [len_L, join_L, j1]
      exact ⟨by omega, by omega, j3⟩
    generalize Txt.join "" ys = told at T1
    clear j1 j2 j3 h3 h4 hacc
    clear ys
    walk_at "go"
    refine ⟨fun σ' H' => ∃ (tl : Str) (o4 o5 o6 o7 o8 o9 : Option V), σ' = [some (.ref b), some (.ref u), some (.str "abcdefghijklmnopqrstuvwxyz"), some (.str tl), o4, o5, o6, o7, o8, o9] ∧ Sb F b (less H u) H' ∧ H' u = some (.lst (us.map V.str)) ∧ 1 ≤ tl.length ∧ tl.length ≤ 6 ∧ ∀ c ∈ tl.cps.toList, c ∈ letters, ?_, fun σ' H' h => ?_⟩
    · walk_at "go"
      refine iteB (fun c1 => ?_) (fun c1 => ?_)
      · walk_at "go"
        refine i_pick S.ex S.bg (by decide) (by decide) fun r l r0 r1 hl => ?_
        have S3 := S.pick hl
        have h3 := upd_oth (u' := .lst l) ub h2
        generalize upd H2 b (.lst l) = H3 at S3 h3
        walk_at "go"
        refine iteD (fun c2 => ?_) (fun c2 => ?_)
        · walk_at "go"
          have us0 : 0 < us.length := by
            cases us with
            | nil => simp at c1
            | cons a r => simp
          refine i_pick S3.ex S3.bg (by rw [List.length_map]; omega) (by rw [List.length_map]; omega) fun r l r0 r1 hl => ?_
          have S4 := S3.pick hl
          have h4 := upd_oth (u' := .lst l) ub h3
          generalize upd H3 b (.lst l) = H4 at S4 h4
          obtain ⟨z, hz, hm⟩ := atI_lt (xs := us.map V.str) r0 r1
          obtain ⟨nz, hnz, rfl⟩ := List.mem_map.mp (List.mem_of_getElem? hm)
          have NZ := usN nz hnz
          have lz : nz.length ≤ sizeLine := Nat.le_trans NZ.hi (by decide)
          walk_at "go"
          have N1 : (cutS nz none (some 6)).cps.toList = nz.cps.toList.take 6 := cut_to (by decide)
          have N2 : 1 ≤ (cutS nz none (some 6)).length ∧ (cutS nz none (some 6)).length ≤ 6 ∧ ∀ c ∈ (cutS nz none (some 6)).cps.toList, c ∈ letters := by
            have := NZ.lo
            rw [len_L] at this
            rw [len_L, N1, List.length_take]
            refine ⟨by omega, by omega, fun c hc => NZ.ls c (List.mem_of_mem_take hc)⟩
          clear N1
          generalize cutS nz none (some 6) = near at N2
          have ln : near.length ≤ sizeLine := Nat.le_trans N2.2.1 (by decide)
          walk_at "go"
          refine i_pick S4.ex S4.bg (by omega) (by omega) fun a l a0 a1 hl => ?_
          have S5 := S4.pick hl
          have h5 := upd_oth (u' := .lst l) ub h4
          generalize upd H4 b (.lst l) = H5 at S5 h5
          walk_at "go"
          refine i_pick S5.ex S5.bg (by decide) (by decide) fun r l r0 r1 hl => ?_
          have S6 := S5.pick hl
          have h6 := upd_oth (u' := .lst l) ub h5
          generalize upd H5 b (.lst l) = H6 at S6 h6
          obtain ⟨c, hc, lc⟩ := letter_at r0 r1
          refine i_ixS letters_len hc ?_
          have E1 : (cutS near none (some a)).cps.toList = near.cps.toList.take a.toNat := cut_to a0
          have E2 : (cutS near (some (a + 1)) none).cps.toList = near.cps.toList.drop (a + 1).toNat := cut_from (by omega)
          have L0 : near.length = near.cps.toList.length := len_L near
          have L1 : (cutS near none (some a)).length = a.toNat := by rw [len_L, E1, List.length_take]; omega
          have L2' : (cutS near (some (a + 1)) none).length = near.length - (a + 1).toNat := by rw [len_L, E2, List.length_drop, L0]
          have L3 : (⟨#[c]⟩ : Str).length = 1 := rfl
          have L4 : (cutS near none (some a) ++ ⟨#[c]⟩).length = a.toNat + 1 := by rw [len_L, app_L, List.length_append, ← len_L, L1]; rfl
          have sl : (6 : Nat) < sizeLine := by decide
          refine i_addT (by rw [L1, L3]; omega) ?_
          walk_at "go"
          refine i_addT (by rw [L4, L2']; omega) ?_
          walk_at "go"
          refine ⟨cutS near none (some a) ++ ⟨#[c]⟩ ++ cutS near (some (a + 1)) none, _, _, _, _, _, _, rfl, S6, h6, ?_, ?_, ?_⟩
          · rw [len_L, app_L, List.length_append, ← len_L, L4]; omega
          · rw [len_L, app_L, List.length_append, ← len_L, ← len_L, L4, L2']; omega
          · refine name_app (name_app ?_ ?_) ?_
            · intro d hd; rw [E1] at hd; exact N2.2.2 d (List.mem_of_mem_take hd)
            · intro d hd; rw [one_L] at hd; simp at hd; subst hd; exact lc
            · intro d hd; rw [E2] at hd; exact N2.2.2 d (List.mem_of_mem_drop hd)
        · walk_at "go"
          exact ⟨told, _, _, _, _, _, _, rfl, S3, h3, T1⟩
      · walk_at "go"
        exact ⟨told, _, _, _, _, _, _, rfl, S, h2, T1⟩
    · obtain ⟨tl, o4, o5, o6, o7, o8, o9, rfl, S, hu2, T2⟩ := h
      refine ⟨fun σ' H' => ∃ (x : Str) (o4 o5 o6 o7 o8 o9 : Option V), σ' = [some (.ref b), some (.ref u), some (.str "abcdefghijklmnopqrstuvwxyz"), some (.str x), o4, o5, o6, o7, o8, o9] ∧ Sb F b (less H u) H' ∧ H' u = some (.lst (us.map V.str)) ∧ NameOk x ∧ x ∉ us, ?_, fun σ' H' h => ?_⟩
      · walk_at "go"
        refine iteD (fun c1 => ?_) (fun c1 => ?_)
        · walk_at "go"
          refine lc_pure (fun k => .str (tailOf k)) (by decide) (fun k => .int (0 + (k : Int))) (fun _ _ => trivial) (fun i H0 v H' hi y => y) (fun i H' Q' hi e q => ?_) (fun p hp => ?_)
          · walk_at "go"
            refine i_ixS letters_len (lt_div i hi) ?_
            walk_at "go"
            refine i_ixS letters_len (lt_mod i hi) ?_
            refine i_addT (by show (2 : Nat) ≤ sizeLine; decide) ?_
            exact q
          have S3 := S.new (o := .lst ((List.range (676 : Int).toNat).map fun k => .str (tailOf k))) hp
          have h3 := upd_old (u' := .lst ((List.range (676 : Int).toNat).map fun k => .str (tailOf k))) hp hu2
          walk_at "go"
          have t6 : (cutS tl none (some 6)).cps.toList = tl.cps.toList.take 6 := cut_to (by decide)
          have t6l : (cutS tl none (some 6)).length ≤ 6 ∧ 1 ≤ (cutS tl none (some 6)).length ∧ ∀ c ∈ (cutS tl none (some 6)).cps.toList, c ∈ letters := by
            have := T2.1
            rw [len_L] at this
            rw [len_L, t6, List.length_take]
            exact ⟨by omega, by omega, fun c hc => T2.2.2 c (List.mem_of_mem_take hc)⟩
          have tlz : tl.length ≤ sizeLine := Nat.le_trans T2.2.1 (by decide)
          have tal : ∀ i, (tailOf i).length = 2 := fun i => by rw [tailOf, len_L, app_L]; rfl
          have sl : (8 : Nat) < sizeLine := by decide
          generalize hc6 : cutS tl none (some 6) = six at t6 t6l
          refine lc_pureIf (fun i => .str (six ++ tailOf i)) (fun i => !decide (six ++ tailOf i ∈ us)) (by simp; decide) (fun i => .str (tailOf i)) (fun H' e => ?_) (fun i H0 v H' hi y => ⟨y.1, ?_⟩) (fun i H' Q' hi e q => ?_) (fun i H' Q' hi ci e q => ?_) (fun p2 hp2 => ?_)
          · exact SqL.of (e _ _ upd_same)
          · have := y.2
            rw [List.length_map, List.length_range] at hi
            rw [List.getElem?_map, List.getElem?_range hi] at this
            exact (Option.some.inj this).symm
          · have e3 := e _ _ h3
            walk_at "go"
            rw [hc6]
            refine i_addT (by rw [tal]; omega) ?_
            walk_at "go"
            exact q
          · walk_at "go"
            rw [hc6]
            refine i_addT (by rw [tal]; omega) ?_
            exact q
          · obtain ⟨k0, hk0, hn0⟩ := cand_free six (us := us) (by omega)
            have hpos : 0 < (((List.range ((List.range (676 : Int).toNat).map fun k => V.str (tailOf k)).length).filter fun i => !decide (six ++ tailOf i ∈ us)).map fun i => V.str (six ++ tailOf i)).length := by
              rw [List.length_map]
              apply List.length_pos_of_mem (a := k0)
              rw [List.mem_filter]
              refine ⟨by simp; exact hk0, by simp [hn0]⟩
            obtain ⟨v, hv, hm⟩ := atI_lt (xs := ((List.range ((List.range (676 : Int).toNat).map fun k => V.str (tailOf k)).length).filter fun i => !decide (six ++ tailOf i ∈ us)).map fun i => V.str (six ++ tailOf i)) (i := 0) (by decide) (by omega)
            obtain ⟨k1, hk1, rfl⟩ := List.mem_map.mp (List.mem_of_getElem? hm)
            rw [List.mem_filter] at hk1
            have hk2 : k1 < 676 := by have := hk1.1; simp at this; exact this
            have hk3 : six ++ tailOf k1 ∉ us := by simpa using hk1.2
            have S4 := S3.new (o := .lst (((List.range ((List.range (676 : Int).toNat).map fun k => V.str (tailOf k)).length).filter fun i => !decide (six ++ tailOf i ∈ us)).map fun i => V.str (six ++ tailOf i))) hp2
            have h4 := upd_old (u' := .lst (((List.range ((List.range (676 : Int).toNat).map fun k => V.str (tailOf k)).length).filter fun i => !decide (six ++ tailOf i ∈ us)).map fun i => V.str (six ++ tailOf i))) hp2 h3
            walk_at "go"
            refine ⟨six ++ tailOf k1, _, _, _, _, _, _, rfl, S4, h4, ⟨?_, ?_, ?_⟩, hk3⟩
            · rw [len_L, app_L, List.length_append, ← len_L, ← len_L, tal]; omega
            · rw [len_L, app_L, List.length_append, ← len_L, ← len_L, tal]; omega
            · exact name_app t6l.2.2 (tail_ls k1 hk2).2
        · walk_at "go"
          exact ⟨tl, _, _, _, _, _, _, rfl, S, hu2, ⟨T2.1, by omega, T2.2.2⟩, c1⟩
      · obtain ⟨x, o4, o5, o6, o7, o8, o9, rfl, S, hu2, N, nin⟩ := h
        have zl : (us.map V.str).length < sizeLine := by rw [List.length_map, sizeLine_eq]; omega
        walk_at "go"
        refine k x _ N nin ?_ (S.mut Fu hu0 ub)
        rw [upd_same, List.map_append]; rfl
end
end Dh
/-! K47Ma -/
set_option Elab.async false
set_option linter.all false
set_option maxRecDepth 100000
set_option maxHeartbeats 4000000
namespace Mi
open PySem PySem.Spec L2 Dh
open _root_.Evl (Ex)
section
variable {K : PySem.W.Frag} {b : Bs} {G : List Sl} {α β γ δ τ τ' ρ ε : Type} {Gn : τ → List Sl} {Gl : ε → List Sl} {ro : ρ → V → Hp → Hp → Prop} {σ : L2.St} {F H F' H' : Hp}
def spLaw (K : PySem.W.Frag) : Sp := fun vs H Q _ => ∃ (a : Addr) (ns : List Int), vs = [.ref a] ∧ SqL K H a (ns.map V.int) ∧ ns.length ≤ 63 ∧ ∀ H', Q (.bl true) H'
theorem run_law {n j : Nat} {N : List Str} {t : TS} {vs : List V} {Q : VK} {Ek Ek' : XK} {Gn : Bs → Addr → τ → List Sl} {f : Pd τ Unit Bool → Prop} (h : spLaw K vs H Q Ek) (hN : N.length = n) (h0 : 0 < n) (hj : j < n)
    (hS : ∀ b p, b.M = [] → S b ((List.replicate n any).set j (own p cBag ())) t (Gn b p) (fun _ : Unit => []) (fun y v F _ => rBl.h y v F) f) (hf : f ⟨fun _ => False, fun _ => False, fun _ => False, fun r => r = true⟩) :
    tSeq (tAsg (tCall (spBag K) [] Ek' (tCons (tVar 0) tNil)) (gName j)) t { nx := fun _ H' => Q .non H', rt := Q } (L2.start N vs) H := by
  obtain ⟨a, ns, rfl, hs, hl, k⟩ := h
  have s0 : (L2.start N [V.ref a])[0]? = some (some (.ref a)) := by
    unfold L2.start
    simp
  refine ⟨.ref a, s0, ?_⟩
  refine ⟨a, ns, rfl, hs, hl, fun b n' sd H1 e hb hn bn hn' hb' => ?_⟩
  have F0 : ∀ x, x ≠ n' → upd (fun _ => none) n' (.lst (ns.map V.int)) x = none := fun x h => by rw [upd_ne h]
  have eF : Ex (upd (fun _ => none) n' (.lst (ns.map V.int))) H1 := fun x o h => by
    by_cases z : x = n'
    · subst z; rw [upd_same] at h; cases h; exact hn'
    · rw [F0 x z] at h; cases h
  refine S.go (hS ⟨fun _ => none, H, [], fun _ h => nomatch h⟩ b rfl) ((L2.start N [V.ref a]).set j (some (.ref b))) (upd (fun _ => none) n' (.lst (ns.map V.int))) H1 _ ⟨fun _ => False, fun _ => False, fun _ => False, fun r => r = true⟩ ?_ hf (fun _ _ _ _ h => h.elim) (fun _ _ _ _ h => h.elim) (fun _ _ _ _ h => h.elim) (fun y v F' H' hk _ (hr : v = .bl y) => by
    rw [hr, show y = true from hk]; exact k H')
  have hG : owns (List.replicate n any) = [] := owns_any
  have ow := owns_setN (s := own b cBag ()) (p := b) rfl (G := List.replicate n any) (i := j) (by rw [hG]; simp) (by rw [hG]; simp)
  refine ⟨fun _ _ h => (nomatch h), eF, fun x o _ h => e x o h, fun x h => ?_, fun x _ h => F0 x fun z => h (by rw [z]; exact hn), ?_, ow.2, fun q hq => ?_⟩
  · cases z : H x with
    | none => exact absurd z h
    | some u => rw [e x u z]; exact fun z => nomatch z
  · have hl2 : (L2.start N [V.ref a]).length = n := by unfold L2.start; simp; omega
    have : Holds (List.replicate n any) (L2.start N [V.ref a]) (upd (fun _ => none) n' (.lst (ns.map V.int))) H1 := Holds.of (by rw [List.length_replicate, hl2]) fun i s o h1 h2 => by
      rw [List.getElem?_replicate] at h1
      split at h1
      · cases h1; exact trivial
      · cases h1
    exact this.set (s := own b cBag ()) ⟨rfl, _, hb', _, rfl, n', ns, 0, 0, 0, sd, rfl, by rw [upd_same], by decide, by decide⟩
  · rcases ow.1 q hq with z | z
    · subst z; exact ⟨F0 q bn, .inr hb⟩
    · rw [hG] at z; nomatch z
end
section
variable {P : Program} {w : World} {K : PySem.W.Frag} {mg : Str → Option Value} {base : Heap} {A : Ad} {α : Type}
def W_l_pick (m : Int) (k : Int → Prop) : Prop := 0 < m ∧ m < 1073741824 ∧ ∀ r, 0 ≤ r → r < m → k r
theorem After.bag {F H : Hp} {b : Addr} {l l' : List V} (e : Ex F H) (fb : F b = none) (hb : H b = some (.lst l)) : After F H [b] F (upd H b (.lst l')) :=
  ⟨Ex.refl _, ex_mut fb e, fun x o hm hx => by rw [upd_ne (fun z => hm (by rw [z]; exact List.mem_cons_self))]; exact hx, fun x hx => by
    by_cases z : x = b
    · subst z; rw [upd_same]; exact fun z => nomatch z
    · rw [upd_ne z]; exact hx, fun _ h _ => h⟩
theorem okM_l_pick (T : Txt K mg A) : FnOk P w K mg base CX0 2 A.f_l_pick A.d_l_pick ["_law_bag_here", "_law_many"] (spB (rOne rInt) rInt (fun x k => W_l_pick x k)) := (ok_l_pick T).imp fun vs H Q E h => by
  obtain ⟨b, ws, m, F, k, rfl, fb, ⟨l, hb, hl⟩, e, ⟨v, rfl, rfl⟩, ⟨m0, m1, q⟩, w⟩ := h
  exact ⟨b, m, F, rfl, m0, m1, e, ⟨fb, l, hb, hl⟩, fun r l' r0 r1 hl' => w r _ F _ (q r r0 r1) (After.bag e fb hb) ⟨l', upd_same, hl'⟩ rfl⟩
theorem flip_paired {β γ : Type} {R : β → γ → Prop} {xs : List β} {ys : List γ} (h : Paired R xs ys) : Paired (fun y x => R x y) ys xs := by
  induction h with
  | nil => exact .nil
  | cons r _ ih => exact .cons r ih
theorem okM_l_bag (T : Txt K mg A) : FnOk P w K mg base CX0 1 A.f_l_bag A.d_l_bag ["_law_script"] (spBag K) := ok_l_bag T
def W_l_new_name (us : List Str) (k : Str × List Str → Prop) : Prop := us.length ≤ 600 ∧ (∀ x ∈ us, NameOk x) ∧ ∀ x, NameOk x → x ∉ us → k (x, us ++ [x])
theorem okM_l_new_name (T : Txt K mg A) : FnOk P w K mg base CX0 3 A.f_l_new_name A.d_l_new_name ["_law_bag_here", "_law_used"] (spBL rStr rStr W_l_new_name) := (ok_l_new_name T).imp fun vs H Q E h => by
  obtain ⟨p, q, us, F, k, rfl, pq, fp, fq, ⟨l, hb, hl⟩, ⟨u, hu, ws, rfl, hA⟩, e, ⟨l6, ok, hk⟩, w⟩ := h
  cases map_str hA
  refine ⟨p, q, us, F, rfl, e, ⟨fp, l, hb, hl⟩, fq, pq.symm, hu, l6, ok, fun x H' hx hn hu' S => ?_⟩
  refine w (x, us ++ [x]) _ F H' (hk x hx hn) ⟨Ex.refl _, S.ex, fun a o m ha => ?_, fun a ha => ?_, fun _ h _ => h⟩ ?_ ⟨_, hu', _, rfl, all_str⟩ rfl
  · have n1 : a ≠ p := fun z => m (by rw [z]; exact List.mem_cons_self)
    have n2 : a ≠ q := fun z => m (by rw [z]; exact List.mem_cons_of_mem _ List.mem_cons_self)
    exact S.kp a o n1 (by rw [less_ne n2]; exact ha)
  · by_cases n1 : a = p
    · obtain ⟨l', h1, _⟩ := S.bg.ex
      rw [n1, h1]; exact fun z => nomatch z
    · by_cases n2 : a = q
      · rw [n2, hu']; exact fun z => nomatch z
      · cases z : H a with
        | none => exact absurd z ha
        | some u => rw [S.kp a u n1 (by rw [less_ne n2]; exact z)]; exact fun z => nomatch z
  · obtain ⟨l', h1, h2⟩ := S.bg.ex
    exact ⟨l', h1, h2⟩
end
end Mi
/-! K47Mb -/
set_option Elab.async false
set_option linter.all false
set_option maxRecDepth 100000
set_option maxHeartbeats 4000000
namespace Mi
open PySem PySem.Spec L2 Dh
open _root_.Evl (Ex)
section
variable {P : Program} {w : World} {K : PySem.W.Frag} {mg : Str → Option Value} {base : Heap} {A : Ad}
theorem okE_Unknown (T : Txt K mg A) : FnOk P w K mg base CX0 1 A.f_Unknown_XinitX A.d_Unknown_XinitX ["self", "name"] (spE A.C_Unknown "name") := by
  refine T.F_Unknown_XinitX.ok sc_Unknown_XinitX (fun vs H Q E h => ?_) (fun cdv Ar outer s0 H vs Q E hr h => ?_)
  · obtain ⟨a, v, rfl, _⟩ := h; rfl
  · obtain ⟨a, v, rfl, ha, k⟩ := h
    refine ⟨_, (pss_one (ps_ost (pv 0) (pv 1) rfl)), ?_⟩
    dsimp only [cxOf, Cx.nox, Cx.wish]
    exact ⟨_, rfl, _, rfl, a, A.C_Unknown, rfl, T.ox_Unknown, T.nx_Unknown, .inl ⟨ha, fun dx n0 ne => k dx n0 ne⟩⟩
def W_ascending (things0 : (List Str)) (k : (List Str) → Prop) : Prop :=
  let ordered1 : (List Str) := ([] : List Str); forP things0 ordered1 (fun (a7 : Str) (x4 : (List Str)) (n5 : (List Str) → Prop) => let at8 : Int := (x4.length : Int); whileP at8 (fun (x9 : Int) (q14 : Bool → Prop) => (fun (k15 : Bool → Prop) => ((decide (x9 > (0 : Int))) = true → ∃ v17, atI x4 (x9 - (1 : Int)) = some v17 ∧ k15 (ltX PyData.str a7 v17)) ∧ ((decide (x9 > (0 : Int))) = false → k15 false)) fun c16 => q14 c16) (fun (x9 : Int) (n10 : Int → Prop) => let at12 : Int := (x9 - (1 : Int)); n10 at12) fun x9 => (x4.length < sizeLine ∧ 0 ≤ x9 ∧ x9 < 2 ^ 63) ∧ let y13 : Int × Str := (x9, a7); n5 (x4.take y13.1.toNat ++ [y13.2] ++ x4.drop y13.1.toNat)) fun x4 => k x4
theorem okM_ascending (T : Txt K mg A) : FnOk P w K mg base CX0 1 A.f_ascending A.d_ascending ["things"] (spP (rOne (rLst rStr)) (rLst rStr) (fun x k => W_ascending x k)) := by
  refine T.F_ascending.ok sc_ascending (fun vs H Q E h => spP_len h) (fun cdv Ar outer s0 H vs Q E hr h => ?_)
  refine ⟨_, (pss_cons (ps_set (i := 1) sc_ascending.nd rfl (Or.inl rfl) (pe_lst pa_nil))
  (pss_cons (ps_for PassesOwn.never rfl (pi_list (pv 0)) (pg_name (i := 2) sc_ascending.nd rfl (Or.inl rfl))
   (pss_cons (ps_set (i := 3) sc_ascending.nd rfl (Or.inl rfl) (pe_callB cl_len (by rfl) T.b_len (by decide +kernel) (pa_cons (pv 1) pa_nil)))
  (pss_cons (ps_while PassesOwn.never (PW.pt (pw_and (pt_cmpR op_gt (pv 3) pe_int (nomark _)) (pw_and1 (pt_cmpR (op_ltD hr.units) (pv 2) (pe_ix ix_list (pv 1) (pe_op op_sub (pv 3) pe_int) (fun _ _ => rfl)) (nomark _))))) (pss_one (ps_set (i := 3) sc_ascending.nd rfl (Or.inl rfl) (pe_op op_sub (pv 3) pe_int))))
  (pss_one (ps_expr (pe_bm PySem.F.plainAttrs_list PySem.F.slot_list_insert PySem.F.type_list_insert mt_insert (pv 1) (pa_cons (pv 3) (pa_cons (pv 2) pa_nil))))))))
  (pss_one (ps_ret (pv 1))))), ?_⟩
  try dsimp only [cxOf, Cx.nox, Cx.wish]
  exact run_P (m := 3) (τ := Unit) h rfl (fun b x hM => s_cq (Gn := fun _ : Unit => [])
    (s_newc (i := 1) (enc_lst (en_lst al_nil (by decide))) fun p2 ordered1 hm3 =>
  (s_seq (s_for (Gt := (fun x4 : (List Str) => [val (rLst rStr) x, own p2 (cLst rStr) x4, any, any])) (x0 := ordered1) (wk_list (e_var (i := 0) rfl)) g_name (Sub.keep (Sub.keep (Sub.keep (Sub.keep Sub.nil)))) (fun a7 x4 =>
  (s_seq (s_asg (i := 3) (e_lenL (lv_own (i := 1) rfl))) fun at8 =>
  (s_seq (s_while (Gt := (fun x9 : Int => [val (rLst rStr) x, own p2 (cLst rStr) x4, val rStr a7, val rInt x9])) (x0 := at8) (Sub.keep (Sub.keep (Sub.keep (Sub.keep Sub.nil)))) (fun x9 => (t_and (t_test (e_op o_I0b (e_var (i := 3) rfl) e_int)) (t_test (e_op (o_ltD (f := PyData.str) daStr rfl alStr (Nat.le_of_ble_eq_true rfl)) (e_var (i := 2) rfl) (e_ixL (lv_own (i := 1) rfl) (e_op o_I0 (e_var (i := 3) rfl) e_int)))))) (fun x9 =>
  (s_wk (G := [val (rLst rStr) x, own p2 (cLst rStr) x4, val rStr a7, val rInt x9]) (g := fun (at12 : Int) => at12) (s_asg (i := 3) (e_op o_I0 (e_var (i := 3) rfl) e_int)) (fun (at12 : Int) => (Sub.keep (Sub.keep (Sub.keep (Sub.keep Sub.nil)))))))) fun x9 =>
  (s_wk (G := [val (rLst rStr) x, own p2 (cLst rStr) x4, val rStr a7, val rInt x9]) (g := fun (y13 : Int × Str) => (x4.take y13.1.toNat ++ [y13.2] ++ x4.drop y13.1.toNat)) (s_ins (i := 1) rfl (e_var (i := 3) rfl) (e_var (i := 2) rfl)) (fun (y13 : Int × Str) => (Sub.keep (Sub.keep (Sub.drop (Sub.drop Sub.nil)))))))))) fun x4 =>
  (s_frz (i := 1) (r := (rLst rStr)) rfl hm3 frz_lst (s_retP (e_var (i := 1) rfl))))) (fun d h => h)) (fun x k h => by
    unfold W_ascending at h
    dsimp only at h ⊢
    exact h)
def W_check_office (offices0 : (List Str)) (office0 : Str) (k : Unit → Prop) (kx : Str → Prop) : Prop :=
  (fun (n3 : Unit → Prop) => ((!decide (office0 ∈ offices0)) = true → kx office0) ∧ ((!decide (office0 ∈ offices0)) = false → n3 ())) fun x1 => k ()
theorem okM_check_office (T : Txt K mg A) : FnOk P w K mg base (L2N.CX P w) 3 A.f_check_office A.d_check_office ["offices", "office"] (spX (rCons (rLst rStr) (rOne rStr)) rNon (x1 A.C_Unknown "name" rStr) (fun x k kx => W_check_office x.1 x.2 k kx)) := by
  refine okN T.F_check_office sc_check_office (fun vs H Q E h => spX_len h) (fun cdv Ar outer s0 H vs Q E hr h => ?_)
  refine ⟨_, (pss_one (ps_if (pt_cmpR op_notIn_seq (pv 1) (pv 0) rfl) (pss_one (ps_raiseT rfl (L2N.takes_of rfl rfl rfl rfl) (mkN T.ox_Unknown T.ix_Unknown T.tx_Unknown (okE_Unknown T) (hr.mono (by decide)) T.bi_Unknown_XinitX pass0 rfl T.g_Unknown (pa_cons (pv 1) pa_nil)))) pss_nil)), ?_⟩
  try dsimp only [cxOf, Cx.nox, Cx.wish]
  exact run_XN (m := 0) (τ := Unit) h rfl (fun b x kx hM O => s_cq (Gn := fun _ : Unit => [any, any])
    (s_wk (G := [val (rLst rStr) x.1, val rStr x.2]) (g := fun (x1 : Unit) => ()) (s_if (Gn := (fun x1 : Unit => [val (rLst rStr) x.1, val rStr x.2])) (t_test (e_inLN flat_str (e_var (i := 1) rfl) (lv_e (e_var (i := 0) rfl))))
  (s_raise (i := fun e => e) O trivial xs_id (e_var (i := 1) rfl))
  (s_wk (G := [val (rLst rStr) x.1, val rStr x.2]) (g := fun _ => ()) s_nil (fun _ => (Sub.keep (Sub.keep Sub.nil))))) (fun (x1 : Unit) => (Sub.drop (Sub.drop Sub.nil)))) (fun d h => h)) (fun x k kx h => by
    unfold W_check_office at h
    dsimp only at h ⊢
    exact h)
def W_are_opposed (balances0 : (List (Str × Int))) (k : Bool → Prop) : Prop :=
  let amounts1 : (List Int) := (balances0.map (·.2)); (fun (k4 : Bool → Prop) => amounts1.length ≤ sizeLine ∧ (((amounts1.map fun (a2 : Int) => (decide (a2 > (0 : Int)))).any id) = true → amounts1.length ≤ sizeLine ∧ k4 ((amounts1.map fun (a3 : Int) => (decide (a3 < (0 : Int)))).any id)) ∧ (((amounts1.map fun (a2 : Int) => (decide (a2 > (0 : Int)))).any id) = false → k4 false)) fun c5 => k c5
theorem okM_are_opposed (T : Txt K mg A) : FnOk P w K mg base CX0 1 A.f_are_opposed A.d_are_opposed ["balances"] (spP (rOne (rDct (Sum.inr : Str → Key) rInt)) rBl (fun x k => W_are_opposed x k)) := by
  refine T.F_are_opposed.ok sc_are_opposed (fun vs H Q E h => spP_len h) (fun cdv Ar outer s0 H vs Q E hr h => ?_)
  refine ⟨_, (pss_cons (ps_set (i := 1) sc_are_opposed.nd rfl (Or.inl rfl) (pe_listVals rfl (pv 0) (by rfl) T.b_list))
  (pss_one (ps_ret (pe_and (pe_callB (cr_any rfl) (by rfl) T.b_any (by decide +kernel) (pa_cons (pe_lc (own := [("amount", 2)]) (g := gName 2) (tt := tYes) rfl sc_are_opposed.nd (pi_list (pv 1)) (blkOk_by (N := ["balances", "amounts", "amount"]) (sc := defScope s_are_opposed) (by decide +kernel)) (fun _ _ _ _ _ => (pg_name (i := 2) sc_are_opposed.nd rfl (Or.inl rfl))) (fun _ _ _ _ _ => pts_nil) (fun _ _ _ _ _ => (pe_cmpR op_gt (pv 2) pe_int (nomark _)))) pa_nil)) (pe_one (pe_callB (cr_any rfl) (by rfl) T.b_any (by decide +kernel) (pa_cons (pe_lc (own := [("amount", 2)]) (g := gName 2) (tt := tYes) rfl sc_are_opposed.nd (pi_list (pv 1)) (blkOk_by (N := ["balances", "amounts", "amount"]) (sc := defScope s_are_opposed) (by decide +kernel)) (fun _ _ _ _ _ => (pg_name (i := 2) sc_are_opposed.nd rfl (Or.inl rfl))) (fun _ _ _ _ _ => pts_nil) (fun _ _ _ _ _ => (pe_cmpR op_lt (pv 2) pe_int (nomark _)))) pa_nil))))))), ?_⟩
  try dsimp only [cxOf, Cx.nox, Cx.wish]
  exact run_P (m := 2) (τ := Unit) h rfl (fun b x hM => s_cq (Gn := fun _ : Unit => [])
    (s_seq (s_asg (i := 1) (e_new (en_vals (e_var (i := 0) rfl)))) fun amounts1 =>
  (s_retP (e_andV (e_any (lv_e (e_new (en_compM (wk_list (e_var (i := 1) rfl)) g_name rfl (fun a2 => t_yes) (fun a2 => (e_op o_I0b (e_var (i := 2) rfl) e_int)))))) (e_any (lv_e (e_new (en_compM (wk_list (e_var (i := 1) rfl)) g_name rfl (fun a3 => t_yes) (fun a3 => (e_op o_I0b (e_var (i := 2) rfl) e_int))))))))) (fun d h => h)) (fun x k h => by
    unfold W_are_opposed at h
    dsimp only at h ⊢
    exact h)
def W_transfers_of (balances0 : (List (Str × Int))) (k : (List (Str × Str × Int)) → Prop) : Prop :=
  W_ascending (balances0.map Prod.fst) fun v22 => let offices1 : (List Str) := v22; let transfer2 : (List (Str × Str × Int)) := ([] : List (Str × Str × Int)); forP offices1 transfer2 (fun (a8 : Str) (x5 : (List (Str × Str × Int))) (n6 : (List (Str × Str × Int)) → Prop) => forP offices1 x5 (fun (a12 : Str) (x9 : (List (Str × Str × Int))) (n10 : (List (Str × Str × Int)) → Prop) => ∃ v20, dGet balances0 a8 = some v20 ∧ ∃ v21, dGet balances0 a12 = some v21 ∧ let t13 : (Int × Int) := (v20, (-v21)); (fun (n16 : (List (Str × Str × Int)) → Prop) => (((decide (t13.1 > (0 : Int))) && (decide (t13.2 > (0 : Int)))) = true → (fun (k18 : Int → Prop) => ((decide (t13.1 < t13.2)) = true → k18 t13.1) ∧ ((decide (t13.1 < t13.2)) = false → k18 t13.2)) fun v19 => x9.length < sizeLine ∧ let y17 : (Str × Str × Int) := (a8, a12, v19); n16 (x9 ++ [y17])) ∧ (((decide (t13.1 > (0 : Int))) && (decide (t13.2 > (0 : Int)))) = false → n16 x9)) fun x14 => n10 x14) fun x9 => n6 x9) fun x5 => k x5
theorem okM_transfers_of (T : Txt K mg A) : FnOk P w K mg base CX0 2 A.f_transfers_of A.d_transfers_of ["balances"] (spP (rOne (rDct (Sum.inr : Str → Key) rInt)) (rLst (rTp K (rCons rStr (rCons rStr (rOne rInt))))) (fun x k => W_transfers_of x k)) := by
  refine T.F_transfers_of.ok sc_transfers_of (fun vs H Q E h => spP_len h) (fun cdv Ar outer s0 H vs Q E hr h => ?_)
  refine ⟨_, (pss_cons (ps_set (i := 1) sc_transfers_of.nd rfl (Or.inl rfl) (pe_call (okM_ascending T) (hr.mono (by decide)) rfl T.g_ascending T.F_ascending.kp T.bi_ascending .nil pass0 (pa_cons (pe_callTy (cl_listD rfl) (by rfl) T.b_list (by decide +kernel) (pa_cons (pv 0) pa_nil)) pa_nil)))
  (pss_cons (ps_set (i := 2) sc_transfers_of.nd rfl (Or.inl rfl) (pe_lst pa_nil))
  (pss_cons (ps_for PassesOwn.never rfl (pi_list (pv 1)) (pg_name (i := 3) sc_transfers_of.nd rfl (Or.inl rfl))
   (pss_one (ps_for PassesOwn.never rfl (pi_list (pv 1)) (pg_name (i := 4) sc_transfers_of.nd rfl (Or.inl rfl))
   (pss_cons (ps_par (i := 5) (j := 6) rfl sc_transfers_of.nd rfl rfl (by decide) rfl rfl (pa_cons (pe_dget (hu_of hr) (pv 0) (pv 3) (fun _ _ => rfl)) (pa_cons (pe_un un_neg (pe_dget (hu_of hr) (pv 0) (pv 4) (fun _ _ => rfl))) pa_nil)) (by rfl))
  (pss_one (ps_if (PW.pt (pw_and (pt_cmpR op_gt (pv 5) pe_int (nomark _)) (pw_and1 (pt_cmpR op_gt (pv 6) pe_int (nomark _))))) (pss_one (ps_expr (pe_bm PySem.F.plainAttrs_list PySem.F.slot_list_append PySem.F.type_list_append mt_append (pv 2) (pa_cons (pe_tup (pa_cons (pv 3) (pa_cons (pv 4) (pa_cons (pe_ifExp (pt_cmpR op_lt (pv 5) (pv 6) (nomark _)) (pv 5) (pv 6)) pa_nil)))) pa_nil)))) pss_nil))))))
  (pss_one (ps_ret (pv 2)))))), ?_⟩
  try dsimp only [cxOf, Cx.nox, Cx.wish]
  exact run_P (m := 6) (τ := Unit) h rfl (fun b x hM => s_cq (Gn := fun _ : Unit => [])
    (s_seq (s_asg (i := 1) (e_call (ar_one (e_new (en_listD ks_str (dv_e (e_var (i := 0) rfl))))))) fun offices1 =>
  (s_newc (i := 2) (enc_lst (en_lst al_nil (by decide))) fun p3 transfer2 hm4 =>
  (s_seq (s_for (Gt := (fun x5 : (List (Str × Str × Int)) => [val (rDct (Sum.inr : Str → Key) rInt) x, val (rLst rStr) offices1, own p3 (cLst (rTp K (rCons rStr (rCons rStr (rOne rInt))))) x5, any, any, any, any])) (x0 := transfer2) (wk_list (e_var (i := 1) rfl)) g_name (Sub.keep (Sub.keep (Sub.keep (Sub.keep (Sub.keep (Sub.keep (Sub.keep Sub.nil))))))) (fun a8 x5 =>
  (s_wk (G := [val (rDct (Sum.inr : Str → Key) rInt) x, val (rLst rStr) offices1, own p3 (cLst (rTp K (rCons rStr (rCons rStr (rOne rInt))))) x5, val rStr a8, any, any, any]) (g := fun (x9 : (List (Str × Str × Int))) => x9) (s_for (Gt := (fun x9 : (List (Str × Str × Int)) => [val (rDct (Sum.inr : Str → Key) rInt) x, val (rLst rStr) offices1, own p3 (cLst (rTp K (rCons rStr (rCons rStr (rOne rInt))))) x9, val rStr a8, any, any, any])) (x0 := x5) (wk_list (e_var (i := 1) rfl)) g_name (Sub.keep (Sub.keep (Sub.keep (Sub.keep (Sub.keep (Sub.keep (Sub.keep Sub.nil))))))) (fun a12 x9 =>
  (s_seq (s_par (i := 5) (j := 6) (e_dget kr_str (dv_e (e_var (i := 0) rfl)) (e_var (i := 3) rfl)) (e_neg (e_dget kr_str (dv_e (e_var (i := 0) rfl)) (e_var (i := 4) rfl)))) fun t13 =>
  (s_wk (G := [val (rDct (Sum.inr : Str → Key) rInt) x, val (rLst rStr) offices1, own p3 (cLst (rTp K (rCons rStr (rCons rStr (rOne rInt))))) x9, val rStr a8, val rStr a12, val rInt t13.1, val rInt t13.2]) (g := fun (x14 : (List (Str × Str × Int))) => x14) (s_if (Gn := (fun x14 : (List (Str × Str × Int)) => [val (rDct (Sum.inr : Str → Key) rInt) x, val (rLst rStr) offices1, own p3 (cLst (rTp K (rCons rStr (rCons rStr (rOne rInt))))) x14, val rStr a8, val rStr a12, val rInt t13.1, val rInt t13.2])) (t_andP (t_test (e_op o_I0b (e_var (i := 5) rfl) e_int)) (t_test (e_op o_I0b (e_var (i := 6) rfl) e_int)))
  (s_wk (G := [val (rDct (Sum.inr : Str → Key) rInt) x, val (rLst rStr) offices1, own p3 (cLst (rTp K (rCons rStr (rCons rStr (rOne rInt))))) x9, val rStr a8, val rStr a12, val rInt t13.1, val rInt t13.2]) (g := fun (y17 : (Str × Str × Int)) => (x9 ++ [y17])) (s_app (i := 2) rfl (e_tup (ar_cons (e_var (i := 3) rfl) (ar_cons (e_var (i := 4) rfl) (ar_one (e_if (t_test (e_op o_I0b (e_var (i := 5) rfl) (e_var (i := 6) rfl))) (e_var (i := 5) rfl) (e_var (i := 6) rfl))))) (Nat.le_of_ble_eq_true rfl))) (fun (y17 : (Str × Str × Int)) => (Sub.keep (Sub.keep (Sub.keep (Sub.keep (Sub.keep (Sub.keep (Sub.keep Sub.nil)))))))))
  (s_wk (G := [val (rDct (Sum.inr : Str → Key) rInt) x, val (rLst rStr) offices1, own p3 (cLst (rTp K (rCons rStr (rCons rStr (rOne rInt))))) x9, val rStr a8, val rStr a12, val rInt t13.1, val rInt t13.2]) (g := fun _ => x9) s_nil (fun _ => (Sub.keep (Sub.keep (Sub.keep (Sub.keep (Sub.keep (Sub.keep (Sub.keep Sub.nil)))))))))) (fun (x14 : (List (Str × Str × Int))) => (Sub.keep (Sub.keep (Sub.keep (Sub.keep (Sub.drop (Sub.drop (Sub.drop Sub.nil)))))))))))) (fun (x9 : (List (Str × Str × Int))) => (Sub.keep (Sub.keep (Sub.keep (Sub.drop (Sub.keep (Sub.keep (Sub.keep Sub.nil))))))))))) fun x5 =>
  (s_frz (i := 2) (r := (rLst (rTp K (rCons rStr (rCons rStr (rOne rInt)))))) rfl hm4 frz_lst (s_retP (e_var (i := 2) rfl)))))) (fun d h => h)) (fun x k h => by
    unfold W_transfers_of at h
    dsimp only at h ⊢
    exact h)
def W_made (balances0 : (List (Str × Int))) (transfer0 : (List (Str × Str × Int))) (k : (List (Str × Int)) → Prop) (kx : Str → Prop) : Prop :=
  let offices1 : (List Str) := (balances0.map Prod.fst); forP transfer0 () (fun (a5 : (Str × Str × Int)) (x2 : Unit) (n3 : Unit → Prop) => W_check_office offices1 a5.1 (fun v8 => W_check_office offices1 a5.2.1 (fun v6 => n3 ()) (fun e7 => kx e7)) (fun e9 => kx e9)) fun x2 => (balances0.map Prod.fst).Nodup ∧ balances0.length < sizeLine ∧ let behind10 : (List (Str × Int)) := balances0; forP transfer0 behind10 (fun (a16 : (Str × Str × Int)) (x13 : (List (Str × Int))) (n14 : (List (Str × Int)) → Prop) => ∃ v20, dGet x13 a16.1 = some v20 ∧ x13.length < sizeLine ∧ let y17 : Str × Int := (a16.1, (v20 - a16.2.2)); ∃ v19, dGet (dPut x13 y17.1 y17.2) a16.2.1 = some v19 ∧ (dPut x13 y17.1 y17.2).length < sizeLine ∧ let y18 : Str × Int := (a16.2.1, (v19 + a16.2.2)); n14 (dPut (dPut x13 y17.1 y17.2) y18.1 y18.2)) fun x13 => k x13
theorem okM_made (T : Txt K mg A) : FnOk P w K mg base (L2N.CX P w) 4 A.f_made A.d_made ["balances", "transfers"] (spXO (rCons (rDct (Sum.inr : Str → Key) rInt) (rOne (rLst (rTp K (rCons rStr (rCons rStr (rOne rInt))))))) (cDct (Sum.inr : Str → Key) rInt) (x1 A.C_Unknown "name" rStr) (fun x k kx => W_made x.1 x.2 k kx)) := by
  refine okN T.F_made sc_made (fun vs H Q E h => spXO_len h) (fun cdv Ar outer s0 H vs Q E hr h => ?_)
  refine ⟨_, (pss_cons (ps_set (i := 2) sc_made.nd rfl (Or.inl rfl) (pe_callTy (cl_listD rfl) (by rfl) T.b_list (by decide +kernel) (pa_cons (pv 0) pa_nil)))
  (pss_cons (ps_for (passes_of rfl) rfl (pi_list (pv 1)) (pg_tup (n := 3) rfl (pgs_cons (pg_name (i := 3) sc_made.nd rfl (Or.inl rfl)) (pgs_cons (pg_name (i := 4) sc_made.nd rfl (Or.inl rfl)) (pgs_cons (pg_name (i := 5) sc_made.nd rfl (Or.inl rfl)) pgs_nil))) (by rfl))
   (pss_cons (ps_expr (pe_callS (okM_check_office T) (hr.mono (by decide)) rfl T.g_check_office T.F_check_office.kp T.bi_check_office (fun σ => L2N.passAt (L2N.takes_of rfl rfl rfl rfl) σ) (pa_cons (pv 2) (pa_cons (pv 3) pa_nil))))
  (pss_one (ps_expr (pe_callS (okM_check_office T) (hr.mono (by decide)) rfl T.g_check_office T.F_check_office.kp T.bi_check_office (fun σ => L2N.passAt (L2N.takes_of rfl rfl rfl rfl) σ) (pa_cons (pv 2) (pa_cons (pv 4) pa_nil)))))))
  (pss_cons (ps_setDc (i := 6) (own := [("office", 7)]) (g := gName 7) (tt := tYes) rfl sc_made.nd rfl rfl (sw_trueD rfl rfl rfl (by decide +kernel)) (pi_keys (pv 0)) (blkOk_by (N := ["balances", "transfers", "offices", "giver", "taker", "_", "behind", "office", "amount"]) (sc := defScope s_made) (by decide +kernel)) (fun _ _ _ _ _ => (pg_name (i := 7) sc_made.nd rfl (Or.inl rfl))) (fun _ _ _ _ _ => pts_nil) (fun _ _ _ _ _ => (pv 7)) (fun _ _ _ _ _ => (pe_dget (hu_of hr) (pv 0) (pv 7) (fun _ _ => rfl))))
  (pss_cons (ps_for (passes_of rfl) rfl (pi_list (pv 1)) (pg_tup (n := 3) rfl (pgs_cons (pg_name (i := 3) sc_made.nd rfl (Or.inl rfl)) (pgs_cons (pg_name (i := 4) sc_made.nd rfl (Or.inl rfl)) (pgs_cons (pg_name (i := 8) sc_made.nd rfl (Or.inl rfl)) pgs_nil))) (by rfl))
   (pss_cons (ps_dput (hu_of hr) (pv 6) (pv 3) (pe_op op_sub (pe_dget (hu_of hr) (pv 6) (pv 3) (fun _ _ => rfl)) (pv 8)) rfl)
  (pss_one (ps_dput (hu_of hr) (pv 6) (pv 4) (pe_op op_add (pe_dget (hu_of hr) (pv 6) (pv 4) (fun _ _ => rfl)) (pv 8)) rfl))))
  (pss_one (ps_ret (pv 6))))))), ?_⟩
  try dsimp only [cxOf, Cx.nox, Cx.wish]
  exact run_XO (m := 7) (τ := Unit) h rfl (fun b x kx hM O => s_cq (Gn := fun _ : Unit => [])
    (s_seq (s_asg (i := 2) (e_new (en_listD ks_str (dv_e (e_var (i := 0) rfl))))) fun offices1 =>
  (s_seq (s_for (Gt := (fun x2 : Unit => [val (rDct (Sum.inr : Str → Key) rInt) x.1, val (rLst (rTp K (rCons rStr (rCons rStr (rOne rInt))))) x.2, val (rLst rStr) offices1, any, any, any, any, any, any])) (x0 := ()) (wk_list (e_var (i := 1) rfl)) (g_tup (gi_cons (gi_cons gi_one)) rfl) (Sub.keep (Sub.keep (Sub.keep (Sub.keep (Sub.keep (Sub.keep (Sub.keep (Sub.keep (Sub.keep Sub.nil))))))))) (fun a5 x2 =>
  (s_seq (s_drop (e_callX O trivial (j := fun e => e) xs_id (ar_cons (e_var (i := 2) rfl) (ar_one (e_var (i := 3) rfl))))) fun _ =>
  (s_wk (G := [val (rDct (Sum.inr : Str → Key) rInt) x.1, val (rLst (rTp K (rCons rStr (rCons rStr (rOne rInt))))) x.2, val (rLst rStr) offices1, val rStr a5.1, val rStr a5.2.1, val rInt a5.2.2, any, any, any]) (g := fun _ => ()) (s_drop (e_callX O trivial (j := fun e => e) xs_id (ar_cons (e_var (i := 2) rfl) (ar_one (e_var (i := 4) rfl))))) (fun _ => (Sub.keep (Sub.keep (Sub.keep (Sub.drop (Sub.drop (Sub.drop (Sub.keep (Sub.keep (Sub.keep Sub.nil)))))))))))))) fun x2 =>
  (s_newc (i := 6) (enc_dcopy (i := 7) (j := 0) inr_inj (by decide) rfl rfl) fun p11 behind10 hm12 =>
  (s_seq (s_for (Gt := (fun x13 : (List (Str × Int)) => [val (rDct (Sum.inr : Str → Key) rInt) x.1, val (rLst (rTp K (rCons rStr (rCons rStr (rOne rInt))))) x.2, val (rLst rStr) offices1, any, any, any, own p11 (cDct (Sum.inr : Str → Key) rInt) x13, any, any])) (x0 := behind10) (wk_list (e_var (i := 1) rfl)) (g_tup (gi_cons (gi_cons gi_one)) rfl) (Sub.keep (Sub.keep (Sub.keep (Sub.keep (Sub.keep (Sub.keep (Sub.keep (Sub.keep (Sub.keep Sub.nil))))))))) (fun a16 x13 =>
  (s_seq (s_dput (i := 6) kr_str rfl (e_op o_I0 (e_dget kr_str (dv_own (i := 6) rfl) (e_var (i := 3) rfl)) (e_var (i := 8) rfl)) (e_var (i := 3) rfl)) fun y17 =>
  (s_wk (G := [val (rDct (Sum.inr : Str → Key) rInt) x.1, val (rLst (rTp K (rCons rStr (rCons rStr (rOne rInt))))) x.2, val (rLst rStr) offices1, val rStr a16.1, val rStr a16.2.1, any, own p11 (cDct (Sum.inr : Str → Key) rInt) (dPut x13 y17.1 y17.2), any, val rInt a16.2.2]) (g := fun (y18 : Str × Int) => (dPut (dPut x13 y17.1 y17.2) y18.1 y18.2)) (s_dput (i := 6) kr_str rfl (e_op o_I0 (e_dget kr_str (dv_own (i := 6) rfl) (e_var (i := 4) rfl)) (e_var (i := 8) rfl)) (e_var (i := 4) rfl)) (fun (y18 : Str × Int) => (Sub.keep (Sub.keep (Sub.keep (Sub.drop (Sub.drop (Sub.keep (Sub.keep (Sub.keep (Sub.drop Sub.nil)))))))))))))) fun x13 =>
  (s_retO (i := 6) rfl hM))))) (fun d h => h)) (fun x k kx h => by
    unfold W_made at h
    dsimp only at h ⊢
    exact h)
def W_first_listB (Wr : (List (Str × Int)) → Int → ((Option (List (Str × Str × Int))) → Prop) → Prop) (balances0 : (List (Str × Int))) (many0 : Int) (k : (Option (List (Str × Str × Int))) → Prop) : Prop :=
  (fun (n3 : Unit → Prop) => ((decide (many0 = (0 : Int))) = true → (fun (k4 : Option (List (Str × Str × Int)) → Prop) => W_are_opposed balances0 fun v6 => (v6 = true → k4 (none : Option (List (Str × Str × Int)))) ∧ (v6 = false → k4 (some ([] : List (Str × Str × Int))))) fun v5 => k v5) ∧ ((decide (many0 = (0 : Int))) = false → n3 ())) fun x1 => W_transfers_of balances0 fun v18 => forP v18 () (fun (a10 : (Str × Str × Int)) (x7 : Unit) (n8 : Unit → Prop) => W_made balances0 ([a10] : List (Str × Str × Int)) (fun v17 => Wr v17 (many0 - (1 : Int)) fun v16 => let further11 : (Option (List (Str × Str × Int))) := v16; (fun (n14 : Unit → Prop) => (further11.isSome = true → ∃ v15, further11 = some v15 ∧ ((a10 :: (v15 ++ []))).length ≤ sizeLine ∧ k (some ((a10 :: (v15 ++ []))))) ∧ (further11.isSome = false → n14 ())) fun x12 => n8 ()) (fun _ => False)) fun x7 => k (none : Option (List (Str × Str × Int)))
def W_first_listN : Nat → (List (Str × Int)) → Int → ((Option (List (Str × Str × Int))) → Prop) → Prop
  | 0 => fun _ _ _ => False
  | n + 1 => W_first_listB (W_first_listN n)
def W_first_list : (List (Str × Int)) → Int → ((Option (List (Str × Str × Int))) → Prop) → Prop := W_first_listN 5
theorem okB_first_list (T : Txt K mg A) {j : Nat} {Wr : (List (Str × Int)) → Int → ((Option (List (Str × Str × Int))) → Prop) → Prop} (F : FnOk P w K mg base CX0 (5 + j) A.f_first_list A.d_first_list ["balances", "many"] (spNO (rCons (rDct (Sum.inr : Str → Key) rInt) (rOne rInt)) (cLst (rTp K (rCons rStr (rCons rStr (rOne rInt))))) (fun x k => Wr x.1 x.2 k))) : FnOk P w K mg base CX0 (5 + j + 1) A.f_first_list A.d_first_list ["balances", "many"] (spNO (rCons (rDct (Sum.inr : Str → Key) rInt) (rOne rInt)) (cLst (rTp K (rCons rStr (rCons rStr (rOne rInt))))) (fun x k => W_first_listB Wr x.1 x.2 k)) := by
  refine T.F_first_list.ok sc_first_list (fun vs H Q E h => spNO_len h) (fun cdv Ar outer s0 H vs Q E hr h => ?_)
  refine ⟨_, (pss_cons (ps_if (pt_cmpR op_eq (pv 1) pe_int (nomark _)) (pss_one (ps_ret (pe_ifExp (pt_val (pe_call (okM_are_opposed T) (hr.mono (by omega)) rfl T.g_are_opposed T.F_are_opposed.kp T.bi_are_opposed .nil pass0 (pa_cons (pv 0) pa_nil))) pe_non (pe_lst pa_nil)))) pss_nil)
  (pss_cons (ps_for PassesOwn.never rfl (pi_list (pe_call (okM_transfers_of T) (hr.mono (by omega)) rfl T.g_transfers_of T.F_transfers_of.kp T.bi_transfers_of .nil pass0 (pa_cons (pv 0) pa_nil))) (pg_name (i := 2) sc_first_list.nd rfl (Or.inl rfl))
   (pss_cons (ps_set (i := 3) sc_first_list.nd rfl (Or.inl rfl) (pe_call F (hr.mono (by omega)) rfl T.g_first_list T.F_first_list.kp T.bi_first_list .nil pass0 (pa_cons (pe_call (okM_made T) (hr.mono (by omega)) rfl T.g_made T.F_made.kp T.bi_made .nil passN (pa_cons (pv 0) (pa_cons (pe_lst (pa_cons (pv 2) pa_nil)) pa_nil))) (pa_cons (pe_op op_sub (pv 1) pe_int) pa_nil))))
  (pss_one (ps_if (pt_cmpR op_notN (pv 3) pe_non (nomark _)) (pss_one (ps_ret (pe_lst (pa_cons (pv 2) (StX.pa_star (pv 3) pa_nil))))) pss_nil))))
  (pss_one (ps_ret pe_non)))), ?_⟩
  try dsimp only [cxOf, Cx.nox, Cx.wish]
  exact run_NO (m := 2) (τ := Unit) h rfl (fun b x hM => s_cq (Gn := fun _ : Unit => [])
    (s_seq (s_if (Gn := (fun x1 : Unit => [val (rDct (Sum.inr : Str → Key) rInt) x.1, val rInt x.2, any, any])) (t_test (e_op o_eqI (e_var (i := 1) rfl) e_int))
  (s_retNO (eno_if (t_B (e_call (ar_one (e_var (i := 0) rfl)))) eno_none (eno_c (enc_lst (en_lst al_nil (by decide))))))
  (s_wk (G := [val (rDct (Sum.inr : Str → Key) rInt) x.1, val rInt x.2, any, any]) (g := fun _ => ()) s_nil (fun _ => (Sub.keep (Sub.keep (Sub.keep (Sub.keep Sub.nil))))))) fun x1 =>
  (s_seq (s_for (Gt := (fun x7 : Unit => [val (rDct (Sum.inr : Str → Key) rInt) x.1, val rInt x.2, any, any])) (x0 := ()) (wk_list (e_call (ar_one (e_var (i := 0) rfl)))) g_name (Sub.keep (Sub.keep (Sub.keep (Sub.keep Sub.nil)))) (fun a10 x7 =>
  (s_seq (s_asg (i := 3) (e_ofno frz_lst (eno_call (ar_cons (e_ofc frz_dct (enc_callXO0 (ar_cons (e_var (i := 0) rfl) (ar_one (e_new (en_lst (al_cons (e_var (i := 2) rfl) al_nil) (by decide))))))) (ar_one (e_op o_I0 (e_var (i := 1) rfl) e_int)))))) fun further11 =>
  (s_wk (G := [val (rDct (Sum.inr : Str → Key) rInt) x.1, val rInt x.2, val (rTp K (rCons rStr (rCons rStr (rOne rInt)))) a10, val (rOpt (rLst (rTp K (rCons rStr (rCons rStr (rOne rInt)))))) further11]) (g := fun (x12 : Unit) => ()) (s_if (Gn := (fun x12 : Unit => [val (rDct (Sum.inr : Str → Key) rInt) x.1, val rInt x.2, val (rTp K (rCons rStr (rCons rStr (rOne rInt)))) a10, val (rOpt (rLst (rTp K (rCons rStr (rCons rStr (rOne rInt)))))) further11])) (t_test (e_notN (e_var (i := 3) rfl)))
  (s_retNO (eno_c (enc_lst (en_lstS (as_cons (e_var (i := 2) rfl) (as_star (lv_e (e_get (e_var (i := 3) rfl))) as_nil))))))
  (s_wk (G := [val (rDct (Sum.inr : Str → Key) rInt) x.1, val rInt x.2, val (rTp K (rCons rStr (rCons rStr (rOne rInt)))) a10, val (rOpt (rLst (rTp K (rCons rStr (rCons rStr (rOne rInt)))))) further11]) (g := fun _ => ()) s_nil (fun _ => (Sub.keep (Sub.keep (Sub.keep (Sub.keep Sub.nil))))))) (fun (x12 : Unit) => (Sub.keep (Sub.keep (Sub.drop (Sub.drop Sub.nil))))))))) fun x7 =>
  (s_retNO eno_none))) (fun d h => h)) (fun x k h => by
    unfold W_first_listB at h
    dsimp only at h ⊢
    exact h)
theorem okR_first_list (T : Txt K mg A) : ∀ n, FnOk P w K mg base CX0 (5 + n) A.f_first_list A.d_first_list ["balances", "many"] (spNO (rCons (rDct (Sum.inr : Str → Key) rInt) (rOne rInt)) (cLst (rTp K (rCons rStr (rCons rStr (rOne rInt))))) (fun x k => W_first_listN n x.1 x.2 k))
  | 0 => ⟨fun vs H Q E h => (by obtain ⟨_, _, _, _, _, z, _⟩ := h; exact z.elim), fun Ar outer s H args us vs Q E hr he hb hv h => (by obtain ⟨_, _, _, _, _, z, _⟩ := h; exact z.elim)⟩
  | n + 1 => okB_first_list T (okR_first_list T n)
theorem okM_first_list (T : Txt K mg A) : FnOk P w K mg base CX0 10 A.f_first_list A.d_first_list ["balances", "many"] (spNO (rCons (rDct (Sum.inr : Str → Key) rInt) (rOne rInt)) (cLst (rTp K (rCons rStr (rCons rStr (rOne rInt))))) (fun x k => W_first_list x.1 x.2 k)) := okR_first_list T 5
end
end Mi
/-! K47Mx -/
set_option Elab.async false
set_option linter.all false
set_option maxRecDepth 100000
set_option maxHeartbeats 4000000
namespace Mi
open PySem PySem.Spec L2 Dh
open _root_.Evl (Ex)
section
variable {P : Program} {w : World} {K : PySem.W.Frag} {mg : Str → Option Value} {base : Heap} {A : Ad}
def W_cleared (balances0 : (List (Str × Int))) (k : (List (Str × Str × Int)) → Prop) : Prop :=
  let many1 : Int := (0 : Int); W_first_list balances0 many1 (optP fun found2 => whileP (many1, found2) (fun (x3 : Int × (Option (Addr × List (Str × Str × Int)))) (q10 : Bool → Prop) => q10 x3.2.isNone) (fun (x3 : Int × (Option (Addr × List (Str × Str × Int)))) (n4 : (Int × (Option (Addr × List (Str × Str × Int)))) → Prop) => let many6 : Int := x3.1 + (1 : Int); W_first_list balances0 many6 (optP fun found7 => n4 (many6, found7))) fun x3 => ∃ z, x3.2 = some z ∧ k z.2)
theorem okM_cleared (T : Txt K mg A) : FnOk P w K mg base CX0 11 A.f_cleared A.d_cleared ["balances"] (spN (rOne (rDct (Sum.inr : Str → Key) rInt)) (cLst (rTp K (rCons rStr (rCons rStr (rOne rInt))))) (fun x k => W_cleared x k)) := by
  refine T.F_cleared.ok sc_cleared (fun vs H Q E h => spN_len h) (fun cdv Ar outer s0 H vs Q E hr h => ?_)
  refine ⟨_, (pss_cons (ps_set (i := 1) sc_cleared.nd rfl (Or.inl rfl) pe_int)
  (pss_cons (ps_set (i := 2) sc_cleared.nd rfl (Or.inl rfl) (pe_call (okM_first_list T) (hr.mono (by decide)) rfl T.g_first_list T.F_first_list.kp T.bi_first_list .nil pass0 (pa_cons (pv 0) (pa_cons (pv 1) pa_nil))))
  (pss_cons (ps_while PassesOwn.never (pt_cmpR op_isN (pv 2) pe_non (nomark _)) (pss_cons (ps_aug (i := 1) sc_cleared.nd rfl (Or.inl rfl) pe_int ip_add)
  (pss_one (ps_set (i := 2) sc_cleared.nd rfl (Or.inl rfl) (pe_call (okM_first_list T) (hr.mono (by decide)) rfl T.g_first_list T.F_first_list.kp T.bi_first_list .nil pass0 (pa_cons (pv 0) (pa_cons (pv 1) pa_nil)))))))
  (pss_one (ps_ret (pv 2)))))), ?_⟩
  try dsimp only [cxOf, Cx.nox, Cx.wish]
  exact run_N (m := 2) (τ := Unit) h rfl (fun b x hM => s_cq (Gn := fun _ : Unit => [])
    (s_seq (s_asg (i := 1) e_int) fun many1 =>
  (s_newNO (i := 2) (c := cLst (rTp K (rCons rStr (rCons rStr (rOne rInt))))) (eno_call (ar_cons (e_var (i := 0) rfl) (ar_one (e_var (i := 1) rfl)))) fun found2 _ =>
  (s_seq (s_while (Gt := (fun x3 : Int × (Option (Addr × List (Str × Str × Int))) => [val (rDct (Sum.inr : Str → Key) rInt) x, val rInt x3.1, slO (cLst (rTp K (rCons rStr (rCons rStr (rOne rInt))))) x3.2])) (x0 := (many1, found2)) (Sub.keep (Sub.keep (Sub.keep Sub.nil))) (fun x3 => (t_test (e_isNO (i := 2) rfl))) (fun x3 =>
  (s_seq (s_augI (i := 1) rfl e_int) fun many6 =>
  (s_wk (G := [val (rDct (Sum.inr : Str → Key) rInt) x, val rInt many6, slO (cLst (rTp K (rCons rStr (rCons rStr (rOne rInt))))) x3.2]) (g := fun (found7 : (Option (Addr × List (Str × Str × Int)))) => (many6, found7)) (s_newNO1 (i := 2) (c := cLst (rTp K (rCons rStr (rCons rStr (rOne rInt))))) (eno_call (ar_cons (e_var (i := 0) rfl) (ar_one (e_var (i := 1) rfl))))) (fun (found7 : (Option (Addr × List (Str × Str × Int)))) => (Sub.keep (Sub.keep (Sub.keep Sub.nil)))))))) fun x3 =>
  (s_retSO (i := 2) rfl hM)))) (fun d h => h)) (fun x k h => by
    unfold W_cleared at h
    dsimp only at h ⊢
    exact h)
end
end Mi
/-! K47Mc -/
set_option Elab.async false
set_option linter.all false
set_option maxRecDepth 100000
set_option maxHeartbeats 4000000
namespace Mi
open PySem PySem.Spec L2 Dh
open _root_.Evl (Ex)
section
variable {P : Program} {w : World} {K : PySem.W.Frag} {mg : Str → Option Value} {base : Heap} {A : Ad}
def W_l_sorted (things0 : (List (List (Str × Str × Int)))) (k : (List (List (Str × Str × Int))) → Prop) : Prop :=
  let out1 : (List (List (Str × Str × Int))) := ([] : List (List (Str × Str × Int))); forP things0 out1 (fun (a7 : (List (Str × Str × Int))) (x4 : (List (List (Str × Str × Int)))) (n5 : (List (List (Str × Str × Int))) → Prop) => let at8 : Int := (0 : Int); whileP at8 (fun (x9 : Int) (q14 : Bool → Prop) => (fun (k15 : Bool → Prop) => ((decide (x9 < (x4.length : Int))) = true → ∃ v17, atI x4 x9 = some v17 ∧ k15 (!ltX (dxLst (dxTp (dxCons PyData.str (dxCons PyData.str (dxOne PyData.int))))) a7 v17)) ∧ ((decide (x9 < (x4.length : Int))) = false → k15 false)) fun c16 => q14 c16) (fun (x9 : Int) (n10 : Int → Prop) => let at12 : Int := x9 + (1 : Int); n10 at12) fun x9 => (x4.length < sizeLine ∧ 0 ≤ x9 ∧ x9 < 2 ^ 63) ∧ let y13 : Int × (List (Str × Str × Int)) := (x9, a7); n5 (x4.take y13.1.toNat ++ [y13.2] ++ x4.drop y13.1.toNat)) fun x4 => k x4
theorem okM_l_sorted (T : Txt K mg A) : FnOk P w K mg base CX0 1 A.f_l_sorted A.d_l_sorted ["_law_things"] (spP (rOne (rLst (rLst (rTp K (rCons rStr (rCons rStr (rOne rInt))))))) (rLst (rLst (rTp K (rCons rStr (rCons rStr (rOne rInt)))))) (fun x k => W_l_sorted x k)) := by
  refine T.F_l_sorted.ok sc_l_sorted (fun vs H Q E h => spP_len h) (fun cdv Ar outer s0 H vs Q E hr h => ?_)
  refine ⟨_, (pss_cons (ps_set (i := 1) sc_l_sorted.nd rfl (Or.inl rfl) (pe_lst pa_nil))
  (pss_cons (ps_for PassesOwn.never rfl (pi_list (pv 0)) (pg_name (i := 2) sc_l_sorted.nd rfl (Or.inl rfl))
   (pss_cons (ps_set (i := 3) sc_l_sorted.nd rfl (Or.inl rfl) pe_int)
  (pss_cons (ps_while PassesOwn.never (PW.pt (pw_and (pt_cmpR op_lt (pv 3) (pe_callB cl_len (by rfl) T.b_len (by decide +kernel) (pa_cons (pv 1) pa_nil)) (nomark _)) (pw_and1 (pt_cmpR (op_leD hr.units) (pe_ix ix_list (pv 1) (pv 3) (fun _ _ => rfl)) (pv 2) (nomark _))))) (pss_one (ps_aug (i := 3) sc_l_sorted.nd rfl (Or.inl rfl) pe_int ip_add)))
  (pss_one (ps_expr (pe_bm PySem.F.plainAttrs_list PySem.F.slot_list_insert PySem.F.type_list_insert mt_insert (pv 1) (pa_cons (pv 3) (pa_cons (pv 2) pa_nil))))))))
  (pss_one (ps_ret (pv 1))))), ?_⟩
  try dsimp only [cxOf, Cx.nox, Cx.wish]
  exact run_P (m := 3) (τ := Unit) h rfl (fun b x hM => s_cq (Gn := fun _ : Unit => [])
    (s_newc (i := 1) (enc_lst (en_lst al_nil (by decide))) fun p2 out1 hm3 =>
  (s_seq (s_for (Gt := (fun x4 : (List (List (Str × Str × Int))) => [val (rLst (rLst (rTp K (rCons rStr (rCons rStr (rOne rInt)))))) x, own p2 (cLst (rLst (rTp K (rCons rStr (rCons rStr (rOne rInt)))))) x4, any, any])) (x0 := out1) (wk_list (e_var (i := 0) rfl)) g_name (Sub.keep (Sub.keep (Sub.keep (Sub.keep Sub.nil)))) (fun a7 x4 =>
  (s_seq (s_asg (i := 3) e_int) fun at8 =>
  (s_seq (s_while (Gt := (fun x9 : Int => [val (rLst (rLst (rTp K (rCons rStr (rCons rStr (rOne rInt)))))) x, own p2 (cLst (rLst (rTp K (rCons rStr (rCons rStr (rOne rInt)))))) x4, val (rLst (rTp K (rCons rStr (rCons rStr (rOne rInt))))) a7, val rInt x9])) (x0 := at8) (Sub.keep (Sub.keep (Sub.keep (Sub.keep Sub.nil)))) (fun x9 => (t_and (t_test (e_op o_I0b (e_var (i := 3) rfl) (e_lenL (lv_own (i := 1) rfl)))) (t_test (e_op (o_leD (f := (dxLst (dxTp (dxCons PyData.str (dxCons PyData.str (dxOne PyData.int)))))) (daLst (daTp (daCons daStr (daCons daStr (daOne daInt))))) rfl (alLst (alTp (alCons alStr (alCons alStr (alOne alInt))))) (Nat.le_of_ble_eq_true rfl)) (e_ixL (lv_own (i := 1) rfl) (e_var (i := 3) rfl)) (e_var (i := 2) rfl))))) (fun x9 =>
  (s_wk (G := [val (rLst (rLst (rTp K (rCons rStr (rCons rStr (rOne rInt)))))) x, own p2 (cLst (rLst (rTp K (rCons rStr (rCons rStr (rOne rInt)))))) x4, val (rLst (rTp K (rCons rStr (rCons rStr (rOne rInt))))) a7, val rInt x9]) (g := fun (at12 : Int) => at12) (s_augI (i := 3) rfl e_int) (fun (at12 : Int) => (Sub.keep (Sub.keep (Sub.keep (Sub.keep Sub.nil)))))))) fun x9 =>
  (s_wk (G := [val (rLst (rLst (rTp K (rCons rStr (rCons rStr (rOne rInt)))))) x, own p2 (cLst (rLst (rTp K (rCons rStr (rCons rStr (rOne rInt)))))) x4, val (rLst (rTp K (rCons rStr (rCons rStr (rOne rInt))))) a7, val rInt x9]) (g := fun (y13 : Int × (List (Str × Str × Int))) => (x4.take y13.1.toNat ++ [y13.2] ++ x4.drop y13.1.toNat)) (s_ins (i := 1) rfl (e_var (i := 3) rfl) (e_var (i := 2) rfl)) (fun (y13 : Int × (List (Str × Str × Int))) => (Sub.keep (Sub.keep (Sub.drop (Sub.drop Sub.nil)))))))))) fun x4 =>
  (s_frz (i := 1) (r := (rLst (rLst (rTp K (rCons rStr (rCons rStr (rOne rInt))))))) rfl hm3 frz_lst (s_retP (e_var (i := 1) rfl))))) (fun d h => h)) (fun x k h => by
    unfold W_l_sorted at h
    dsimp only at h ⊢
    exact h)
def W_l_number (thing0 : Int) (k : Bool → Prop) : Prop :=
  k (true && (!false))
theorem okM_l_number (T : Txt K mg A) : FnOk P w K mg base CX0 1 A.f_l_number A.d_l_number ["_law_thing"] (spP (rOne rInt) rBl (fun x k => W_l_number x k)) := by
  refine T.F_l_number.ok sc_l_number (fun vs H Q E h => spP_len h) (fun cdv Ar outer s0 H vs Q E hr h => ?_)
  refine ⟨_, (pss_one (ps_ret (pe_and (pe_callB call_isi (by rfl) T.b_isinstance (by decide +kernel) (pa_cons (pv 0) (pa_cons (pe_bltn (v := .ty "int") (by rfl) T.b_int (by decide +kernel) rfl) pa_nil))) (pe_one (pe_not (pe_callB call_isi (by rfl) T.b_isinstance (by decide +kernel) (pa_cons (pv 0) (pa_cons (pe_bltn (v := .ty "bool") (by rfl) T.b_bool (by decide +kernel) rfl) pa_nil)))))))), ?_⟩
  try dsimp only [cxOf, Cx.nox, Cx.wish]
  exact run_P (m := 0) (τ := Unit) h rfl (fun b x hM => s_cq (Gn := fun _ : Unit => [])
    (s_retP (e_andVP (e_isi (res := true) ty_int (by decide +kernel) (e_var (i := 0) rfl)) (e_notV (e_isi (res := false) ty_int (by decide +kernel) (e_var (i := 0) rfl))))) (fun d h => h)) (fun x k h => by
    unfold W_l_number at h
    dsimp only at h ⊢
    exact h)
def W_l_balance  (k : Int → Prop) : Prop :=
  W_l_pick (6 : Int) fun v15 => let way1 : Int := v15; (fun (n4 : Unit → Prop) => ((decide (way1 = (0 : Int))) = true → k (0 : Int)) ∧ ((decide (way1 = (0 : Int))) = false → n4 ())) fun x2 => (fun (n7 : Unit → Prop) => ((decide (way1 < (4 : Int))) = true → W_l_pick (19 : Int) fun v8 => k (v8 - (9 : Int))) ∧ ((decide (way1 < (4 : Int))) = false → n7 ())) fun x5 => (fun (n11 : Unit → Prop) => ((decide (way1 = (4 : Int))) = true → W_l_pick (4 : Int) fun v13 => ∃ v12, atI ([(9999 : Int), (-(9999 : Int)), (1 : Int), (-(1 : Int))] : List Int) v13 = some v12 ∧ k v12) ∧ ((decide (way1 = (4 : Int))) = false → n11 ())) fun x9 => W_l_pick (19999 : Int) fun v14 => k (v14 - (9999 : Int))
theorem okM_l_balance (T : Txt K mg A) : FnOk P w K mg base CX0 3 A.f_l_balance A.d_l_balance ["_law_bag_here"] (spB rNil rInt (fun _ k => W_l_balance k)) := by
  refine T.F_l_balance.ok sc_l_balance (fun vs H Q E h => spB_len h) (fun cdv Ar outer s0 H vs Q E hr h => ?_)
  refine ⟨_, (pss_cons (ps_set (i := 1) sc_l_balance.nd rfl (Or.inl rfl) (pe_call (okM_l_pick T) (hr.mono (by decide)) rfl T.g_l_pick T.F_l_pick.kp T.bi_l_pick .nil pass0 (pa_cons (pv 0) (pa_cons pe_int pa_nil))))
  (pss_cons (ps_if (pt_cmpR op_eq (pv 1) pe_int (nomark _)) (pss_one (ps_ret pe_int)) pss_nil)
  (pss_cons (ps_if (pt_cmpR op_lt (pv 1) pe_int (nomark _)) (pss_one (ps_ret (pe_op op_sub (pe_call (okM_l_pick T) (hr.mono (by decide)) rfl T.g_l_pick T.F_l_pick.kp T.bi_l_pick .nil pass0 (pa_cons (pv 0) (pa_cons pe_int pa_nil))) pe_int))) pss_nil)
  (pss_cons (ps_if (pt_cmpR op_eq (pv 1) pe_int (nomark _)) (pss_one (ps_ret (pe_ix ix_list (pe_lst (pa_cons pe_int (pa_cons (pe_un un_neg pe_int) (pa_cons pe_int (pa_cons (pe_un un_neg pe_int) pa_nil))))) (pe_call (okM_l_pick T) (hr.mono (by decide)) rfl T.g_l_pick T.F_l_pick.kp T.bi_l_pick .nil pass0 (pa_cons (pv 0) (pa_cons pe_int pa_nil))) (fun _ _ => rfl)))) pss_nil)
  (pss_one (ps_ret (pe_op op_sub (pe_call (okM_l_pick T) (hr.mono (by decide)) rfl T.g_l_pick T.F_l_pick.kp T.bi_l_pick .nil pass0 (pa_cons (pv 0) (pa_cons pe_int pa_nil))) pe_int))))))), ?_⟩
  try dsimp only [cxOf, Cx.nox, Cx.wish]
  exact run_B (m := 1) (τ := Unit) h rfl (fun b p x hM => s_cq (Gn := fun _ : Unit => [])
    (s_seq (s_asg (i := 1) (e_callB (i := 0) rfl (ar_one e_int))) fun way1 =>
  (s_seq (s_if (Gn := (fun x2 : Unit => [own p cBag (), val rInt way1])) (t_test (e_op o_eqI (e_var (i := 1) rfl) e_int))
  (s_retB (i := 0) rfl e_int)
  (s_wk (G := [own p cBag (), val rInt way1]) (g := fun _ => ()) s_nil (fun _ => (Sub.keep (Sub.keep Sub.nil))))) fun x2 =>
  (s_seq (s_if (Gn := (fun x5 : Unit => [own p cBag (), val rInt way1])) (t_test (e_op o_I0b (e_var (i := 1) rfl) e_int))
  (s_retB (i := 0) rfl (e_op o_I0 (e_callB (i := 0) rfl (ar_one e_int)) e_int))
  (s_wk (G := [own p cBag (), val rInt way1]) (g := fun _ => ()) s_nil (fun _ => (Sub.keep (Sub.keep Sub.nil))))) fun x5 =>
  (s_seq (s_if (Gn := (fun x9 : Unit => [own p cBag (), val rInt way1])) (t_test (e_op o_eqI (e_var (i := 1) rfl) e_int))
  (s_retB (i := 0) rfl (e_ixL (lv_e (e_new (en_lst (al_cons e_int (al_cons (e_neg e_int) (al_cons e_int (al_cons (e_neg e_int) al_nil)))) (by decide)))) (e_callB (i := 0) rfl (ar_one e_int))))
  (s_wk (G := [own p cBag (), val rInt way1]) (g := fun _ => ()) s_nil (fun _ => (Sub.keep (Sub.keep Sub.nil))))) fun x9 =>
  (s_retB (i := 0) rfl (e_op o_I0 (e_callB (i := 0) rfl (ar_one e_int)) e_int)))))) (fun d h => h)) (fun x k h => by
    unfold W_l_balance at h
    dsimp only at h ⊢
    exact h)
def W_l_balances (ow1 : (List Str))  (k : (List (Str × Int)) × Unit × (List Str) × Unit → Prop) (kx : Empty → Prop) : Prop :=
  let out1 : (List (Str × Int)) := []; W_l_pick (6 : Int) fun v32 => ∃ v31, atI ([(1 : Int), (2 : Int), (3 : Int), (3 : Int), (3 : Int), (3 : Int)] : List Int) v32 = some v31 ∧ (-(2 ^ 62) ≤ v31 ∧ v31 < 2 ^ 62) ∧ forP (rng 0 v31.toNat) (ow1, out1) (fun (a7 : Int) (x4 : (List Str) × (List (Str × Int))) (n5 : ((List Str) × (List (Str × Int))) → Prop) => W_l_balance  fun v10 => W_l_new_name x4.1 fun y9 => x4.2.length < sizeLine ∧ let y8 : Int × Str × List Str := (v10, y9); n5 (y8.2.2, (dPut x4.2 y8.2.1 y8.1))) fun x4 => ∃ v30, atI x4.1 (-(1 : Int)) = some v30 ∧ let last11 : Str := v30; (cutL x4.1 none (some (-(1 : Int)))).length ≤ sizeLine ∧ compP (cutL x4.1 none (some (-(1 : Int)))) (fun (a13 : Str) (acc26 : List Int) (n27 : List Int → Prop) => (true = true → ∃ v29, dGet x4.2 a13 = some v29 ∧ n27 (acc26 ++ [v29])) ∧ (true = false → n27 acc26)) fun v28 => let others12 : (List Int) := v28; W_l_pick (4 : Int) fun v25 => let way14 : Int := v25; (fun (n17 : (List (Str × Int)) → Prop) => (((decide (way14 = (0 : Int))) && (!others12.isEmpty)) = true → W_l_pick (others12.length : Int) fun v20 => ∃ v19, atI others12 v20 = some v19 ∧ x4.2.length < sizeLine ∧ let y18 : Str × Int := (last11, (-v19)); n17 (dPut x4.2 y18.1 y18.2)) ∧ (((decide (way14 = (0 : Int))) && (!others12.isEmpty)) = false → (fun (n23 : (List (Str × Int)) → Prop) => (((decide (way14 = (1 : Int))) && (decide ((if others12.sum < 0 then -others12.sum else others12.sum) ≤ (9999 : Int)))) = true → x4.2.length < sizeLine ∧ let y24 : Str × Int := (last11, (-others12.sum)); n23 (dPut x4.2 y24.1 y24.2)) ∧ (((decide (way14 = (1 : Int))) && (decide ((if others12.sum < 0 then -others12.sum else others12.sum) ≤ (9999 : Int)))) = false → n23 x4.2)) fun x21 => n17 x21)) fun x15 => k (x15, ((), x4.1, ()))
theorem okM_l_balances (T : Txt K mg A) : FnOk P w K mg base CX0 4 A.f_l_balances A.d_l_balances ["_law_bag_here", "_law_names"] (spM (oOwn cBag (oOwn (cLst rStr) oNil)) (rDct (Sum.inr : Str → Key) rInt) xNo (fun y x k kx => W_l_balances y.2.1 k kx)) := by
  refine T.F_l_balances.ok sc_l_balances (fun vs H Q E h => spM_len h) (fun cdv Ar outer s0 H vs Q E hr h => ?_)
  refine ⟨_, (pss_cons (ps_set (i := 2) sc_l_balances.nd rfl (Or.inr rfl) pe_dnewK)
  (pss_cons (ps_for PassesOwn.never rfl (pi_range1 rfl T.b_range (pa_cons (pe_ix ix_list (pe_lst (pa_cons pe_int (pa_cons pe_int (pa_cons pe_int (pa_cons pe_int (pa_cons pe_int (pa_cons pe_int pa_nil))))))) (pe_call (okM_l_pick T) (hr.mono (by decide)) rfl T.g_l_pick T.F_l_pick.kp T.bi_l_pick .nil pass0 (pa_cons (pv 0) (pa_cons pe_int pa_nil))) (fun _ _ => rfl)) pa_nil)) (pg_name (i := 3) sc_l_balances.nd rfl (Or.inl rfl))
   (pss_one (ps_dput (hu_of hr) (pv 2) (pe_call (okM_l_new_name T) (hr.mono (by decide)) rfl T.g_l_new_name T.F_l_new_name.kp T.bi_l_new_name .nil pass0 (pa_cons (pv 0) (pa_cons (pv 1) pa_nil))) (pe_call (okM_l_balance T) (hr.mono (by decide)) rfl T.g_l_balance T.F_l_balance.kp T.bi_l_balance .nil pass0 (pa_cons (pv 0) pa_nil)) rfl)))
  (pss_cons (ps_set (i := 4) sc_l_balances.nd rfl (Or.inl rfl) (pe_ix ix_list (pv 1) (pe_un un_neg pe_int) (fun _ _ => rfl)))
  (pss_cons (ps_setLc (i := 5) (own := [("_law_name", 6)]) (g := gName 6) (tt := tYes) rfl sc_l_balances.nd rfl rfl (sw_true rfl rfl rfl (by decide +kernel)) (pi_list (pe_slice sl_list (pv 1) po_none (po_some (pe_un un_neg pe_int)))) (blkOk_by (N := ["_law_bag_here", "_law_names", "_law_out", "_law_turn", "_law_last", "_law_others", "_law_name", "_law_way"]) (sc := defScope s_l_balances) (by decide +kernel)) (fun _ _ _ _ _ => (pg_name (i := 6) sc_l_balances.nd rfl (Or.inl rfl))) (fun _ _ _ _ _ => pts_nil) (fun _ _ _ _ _ => (pe_dget (hu_of hr) (pv 2) (pv 6) (fun _ _ => rfl))))
  (pss_cons (ps_set (i := 7) sc_l_balances.nd rfl (Or.inl rfl) (pe_call (okM_l_pick T) (hr.mono (by decide)) rfl T.g_l_pick T.F_l_pick.kp T.bi_l_pick .nil pass0 (pa_cons (pv 0) (pa_cons pe_int pa_nil))))
  (pss_cons (ps_if (PW.pt (pw_and (pt_cmpR op_eq (pv 7) pe_int (nomark _)) (pw_and1 (pt_tru (pv 5))))) (pss_one (ps_dput (hu_of hr) (pv 2) (pv 4) (pe_un un_neg (pe_ix ix_list (pv 5) (pe_call (okM_l_pick T) (hr.mono (by decide)) rfl T.g_l_pick T.F_l_pick.kp T.bi_l_pick .nil pass0 (pa_cons (pv 0) (pa_cons (pe_callB cl_len (by rfl) T.b_len (by decide +kernel) (pa_cons (pv 5) pa_nil)) pa_nil))) (fun _ _ => rfl))) rfl)) (pss_one (ps_if (PW.pt (pw_and (pt_cmpR op_eq (pv 7) pe_int (nomark _)) (pw_and1 (pt_cmpR op_le (pe_callB cl_abs (by rfl) T.b_abs (by decide +kernel) (pa_cons (pe_callB (cr_sum rfl) (by rfl) T.b_sum (by decide +kernel) (pa_cons (pv 5) pa_nil)) pa_nil)) pe_int (nomark _))))) (pss_one (ps_dput (hu_of hr) (pv 2) (pv 4) (pe_un un_neg (pe_callB (cr_sum rfl) (by rfl) T.b_sum (by decide +kernel) (pa_cons (pv 5) pa_nil))) rfl)) pss_nil)))
  (pss_one (ps_ret (pv 2))))))))), ?_⟩
  try dsimp only [cxOf, Cx.nox, Cx.wish]
  exact run_M (m := 6) (τ := Unit) h rfl (fun b p y x kx hM O => s_cq (Gn := fun _ : Unit => [])
    (s_newc (i := 2) (enc_dct (ke := (Sum.inr : Str → Key)) (r := rInt)) fun p2 out1 hm3 =>
  (s_seq (s_for (Gt := (fun x4 : (List Str) × (List (Str × Int)) => [own p.1 cBag (), own p.2.1 (cLst rStr) x4.1, own p2 (cDct (Sum.inr : Str → Key) rInt) x4.2, any, any, any, any, any])) (x0 := (y.2.1, out1)) (wk_range1 (ar_one (e_ixL (lv_e (e_new (en_lst (al_cons e_int (al_cons e_int (al_cons e_int (al_cons e_int (al_cons e_int (al_cons e_int al_nil)))))) (by decide)))) (e_callB (i := 0) rfl (ar_one e_int))))) g_name (Sub.keep (Sub.keep (Sub.keep (Sub.keep (Sub.keep (Sub.keep (Sub.keep (Sub.keep Sub.nil)))))))) (fun a7 x4 =>
  (s_wk (G := [own p.1 cBag (), own p.2.1 (cLst rStr) x4.1, own p2 (cDct (Sum.inr : Str → Key) rInt) x4.2, val rInt a7, any, any, any, any]) (g := fun (y8 : Int × Str × List Str) => (y8.2.2, (dPut x4.2 y8.2.1 y8.1))) (s_dputBL (i := 0) (j := 1) (m := 2) rfl rfl (by decide) rfl (by decide) (e_callB (i := 0) rfl ar_nil)) (fun (y8 : Int × Str × List Str) => (Sub.keep (Sub.keep (Sub.keep (Sub.drop (Sub.keep (Sub.keep (Sub.keep (Sub.keep Sub.nil)))))))))))) fun x4 =>
  (s_seq (s_asg (i := 4) (e_ixL (lv_own (i := 1) rfl) (e_neg e_int))) fun last11 =>
  (s_seq (s_asg (i := 5) (e_new (en_comp (wk_list (e_new (en_slL (lv_own (i := 1) rfl) po_no (po_at (e_neg e_int))))) g_name rfl (fun a13 => t_yes) (fun a13 => (e_dget kr_str (dv_own (i := 2) rfl) (e_var (i := 6) rfl)))))) fun others12 =>
  (s_seq (s_asg (i := 7) (e_callB (i := 0) rfl (ar_one e_int))) fun way14 =>
  (s_seq (s_if (Gn := (fun x15 : (List (Str × Int)) => [own p.1 cBag (), own p.2.1 (cLst rStr) x4.1, own p2 (cDct (Sum.inr : Str → Key) rInt) x15, any, val rStr last11, val (rLst rInt) others12, any, val rInt way14])) (t_andP (t_test (e_op o_eqI (e_var (i := 7) rfl) e_int)) (t_truL (lv_e (e_var (i := 5) rfl))))
  (s_wk (G := [own p.1 cBag (), own p.2.1 (cLst rStr) x4.1, own p2 (cDct (Sum.inr : Str → Key) rInt) x4.2, any, val rStr last11, val (rLst rInt) others12, any, val rInt way14]) (g := fun (y18 : Str × Int) => (dPut x4.2 y18.1 y18.2)) (s_dput (i := 2) kr_str rfl (e_neg (e_ixL (lv_e (e_var (i := 5) rfl)) (e_callB (i := 0) rfl (ar_one (e_lenL (lv_e (e_var (i := 5) rfl))))))) (e_var (i := 4) rfl)) (fun (y18 : Str × Int) => (Sub.keep (Sub.keep (Sub.keep (Sub.keep (Sub.keep (Sub.keep (Sub.keep (Sub.keep Sub.nil))))))))))
  (s_wk (G := [own p.1 cBag (), own p.2.1 (cLst rStr) x4.1, own p2 (cDct (Sum.inr : Str → Key) rInt) x4.2, any, val rStr last11, val (rLst rInt) others12, any, val rInt way14]) (g := fun (x21 : (List (Str × Int))) => x21) (s_if (Gn := (fun x21 : (List (Str × Int)) => [own p.1 cBag (), own p.2.1 (cLst rStr) x4.1, own p2 (cDct (Sum.inr : Str → Key) rInt) x21, any, val rStr last11, val (rLst rInt) others12, any, val rInt way14])) (t_andP (t_test (e_op o_eqI (e_var (i := 7) rfl) e_int)) (t_test (e_op o_I0b (e_abs (e_sum (lv_e (e_var (i := 5) rfl)))) e_int)))
  (s_wk (G := [own p.1 cBag (), own p.2.1 (cLst rStr) x4.1, own p2 (cDct (Sum.inr : Str → Key) rInt) x4.2, any, val rStr last11, val (rLst rInt) others12, any, val rInt way14]) (g := fun (y24 : Str × Int) => (dPut x4.2 y24.1 y24.2)) (s_dput (i := 2) kr_str rfl (e_neg (e_sum (lv_e (e_var (i := 5) rfl)))) (e_var (i := 4) rfl)) (fun (y24 : Str × Int) => (Sub.keep (Sub.keep (Sub.keep (Sub.keep (Sub.keep (Sub.keep (Sub.keep (Sub.keep Sub.nil))))))))))
  (s_wk (G := [own p.1 cBag (), own p.2.1 (cLst rStr) x4.1, own p2 (cDct (Sum.inr : Str → Key) rInt) x4.2, any, val rStr last11, val (rLst rInt) others12, any, val rInt way14]) (g := fun _ => x4.2) s_nil (fun _ => (Sub.keep (Sub.keep (Sub.keep (Sub.keep (Sub.keep (Sub.keep (Sub.keep (Sub.keep Sub.nil))))))))))) (fun (x21 : (List (Str × Int))) => (Sub.keep (Sub.keep (Sub.keep (Sub.keep (Sub.keep (Sub.keep (Sub.keep (Sub.keep Sub.nil))))))))))) fun x15 =>
  (s_frz (i := 2) (r := (rDct (Sum.inr : Str → Key) rInt)) rfl hm3 frz_dct (s_retM2 (oo_own (i := 0) rfl (oo_own (i := 1) rfl oo_nil)) (e_var (i := 2) rfl))))))))) (fun d h => h)) (fun y x k kx h => by
    unfold W_l_balances at h
    dsimp only at h ⊢
    exact h)
def W_l_next (balances0 : (List (Str × Int))) (k : (List (Str × Str × Int)) → Prop) : Prop :=
  let out1 : (List (Str × Str × Int)) := ([] : List (Str × Str × Int)); forP (balances0.map Prod.fst) out1 (fun (a7 : Str) (x4 : (List (Str × Str × Int))) (n5 : (List (Str × Str × Int)) → Prop) => forP (balances0.map Prod.fst) x4 (fun (a11 : Str) (x8 : (List (Str × Str × Int))) (n9 : (List (Str × Str × Int)) → Prop) => (fun (n14 : (List (Str × Str × Int)) → Prop) => (fun (k19 : Bool → Prop) => ∃ v21, dGet balances0 a7 = some v21 ∧ ((decide (v21 > (0 : Int))) = true → ∃ v22, dGet balances0 a11 = some v22 ∧ k19 (decide (v22 < (0 : Int)))) ∧ ((decide (v21 > (0 : Int))) = false → k19 false)) fun c20 => (c20 = true → ∃ v17, dGet balances0 a7 = some v17 ∧ ∃ v18, dGet balances0 a11 = some v18 ∧ 0 < ([v17, (-v18)] : List Int).length ∧ ∀ m16 : Int, m16 ∈ ([v17, (-v18)] : List Int) → (∀ y ∈ ([v17, (-v18)] : List Int), m16 ≤ y) → x8.length < sizeLine ∧ let y15 : (Str × Str × Int) := (a7, a11, m16); n14 (x8 ++ [y15])) ∧ (c20 = false → n14 x8)) fun x12 => n9 x12) fun x8 => n5 x8) fun x4 => k x4
theorem okM_l_next (T : Txt K mg A) : FnOk P w K mg base CX0 1 A.f_l_next A.d_l_next ["_law_balances_here"] (spP (rOne (rDct (Sum.inr : Str → Key) rInt)) (rLst (rTp K (rCons rStr (rCons rStr (rOne rInt))))) (fun x k => W_l_next x k)) := by
  refine T.F_l_next.ok sc_l_next (fun vs H Q E h => spP_len h) (fun cdv Ar outer s0 H vs Q E hr h => ?_)
  refine ⟨_, (pss_cons (ps_set (i := 1) sc_l_next.nd rfl (Or.inl rfl) (pe_lst pa_nil))
  (pss_cons (ps_for PassesOwn.never rfl (pi_list (pe_callTy (cl_listD rfl) (by rfl) T.b_list (by decide +kernel) (pa_cons (pv 0) pa_nil))) (pg_name (i := 2) sc_l_next.nd rfl (Or.inl rfl))
   (pss_one (ps_for PassesOwn.never rfl (pi_list (pe_callTy (cl_listD rfl) (by rfl) T.b_list (by decide +kernel) (pa_cons (pv 0) pa_nil))) (pg_name (i := 3) sc_l_next.nd rfl (Or.inl rfl))
   (pss_one (ps_if (PW.pt (pw_and (pt_cmpR op_gt (pe_dget (hu_of hr) (pv 0) (pv 2) (fun _ _ => rfl)) pe_int (nomark _)) (pw_and1 (pt_cmpR op_lt (pe_dget (hu_of hr) (pv 0) (pv 3) (fun _ _ => rfl)) pe_int (nomark _))))) (pss_one (ps_expr (pe_bm PySem.F.plainAttrs_list PySem.F.slot_list_append PySem.F.type_list_append mt_append (pv 1) (pa_cons (pe_tup (pa_cons (pv 2) (pa_cons (pv 3) (pa_cons (pe_callB (cr_min rfl) (by rfl) T.b_min (by decide +kernel) (pa_cons (pe_lst (pa_cons (pe_callTy cl_int (by rfl) T.b_int (by decide +kernel) (pa_cons (pe_dget (hu_of hr) (pv 0) (pv 2) (fun _ _ => rfl)) pa_nil)) (pa_cons (pe_callTy cl_int (by rfl) T.b_int (by decide +kernel) (pa_cons (pe_un un_neg (pe_dget (hu_of hr) (pv 0) (pv 3) (fun _ _ => rfl))) pa_nil)) pa_nil))) pa_nil)) pa_nil)))) pa_nil)))) pss_nil)))))
  (pss_one (ps_ret (pv 1))))), ?_⟩
  try dsimp only [cxOf, Cx.nox, Cx.wish]
  exact run_P (m := 3) (τ := Unit) h rfl (fun b x hM => s_cq (Gn := fun _ : Unit => [])
    (s_newc (i := 1) (enc_lst (en_lst al_nil (by decide))) fun p2 out1 hm3 =>
  (s_seq (s_for (Gt := (fun x4 : (List (Str × Str × Int)) => [val (rDct (Sum.inr : Str → Key) rInt) x, own p2 (cLst (rTp K (rCons rStr (rCons rStr (rOne rInt))))) x4, any, any])) (x0 := out1) (wk_list (e_new (en_listD ks_str (dv_e (e_var (i := 0) rfl))))) g_name (Sub.keep (Sub.keep (Sub.keep (Sub.keep Sub.nil)))) (fun a7 x4 =>
  (s_wk (G := [val (rDct (Sum.inr : Str → Key) rInt) x, own p2 (cLst (rTp K (rCons rStr (rCons rStr (rOne rInt))))) x4, val rStr a7, any]) (g := fun (x8 : (List (Str × Str × Int))) => x8) (s_for (Gt := (fun x8 : (List (Str × Str × Int)) => [val (rDct (Sum.inr : Str → Key) rInt) x, own p2 (cLst (rTp K (rCons rStr (rCons rStr (rOne rInt))))) x8, val rStr a7, any])) (x0 := x4) (wk_list (e_new (en_listD ks_str (dv_e (e_var (i := 0) rfl))))) g_name (Sub.keep (Sub.keep (Sub.keep (Sub.keep Sub.nil)))) (fun a11 x8 =>
  (s_wk (G := [val (rDct (Sum.inr : Str → Key) rInt) x, own p2 (cLst (rTp K (rCons rStr (rCons rStr (rOne rInt))))) x8, val rStr a7, val rStr a11]) (g := fun (x12 : (List (Str × Str × Int))) => x12) (s_if (Gn := (fun x12 : (List (Str × Str × Int)) => [val (rDct (Sum.inr : Str → Key) rInt) x, own p2 (cLst (rTp K (rCons rStr (rCons rStr (rOne rInt))))) x12, val rStr a7, val rStr a11])) (t_and (t_test (e_op o_I0b (e_dget kr_str (dv_e (e_var (i := 0) rfl)) (e_var (i := 2) rfl)) e_int)) (t_test (e_op o_I0b (e_dget kr_str (dv_e (e_var (i := 0) rfl)) (e_var (i := 3) rfl)) e_int)))
  (s_wk (G := [val (rDct (Sum.inr : Str → Key) rInt) x, own p2 (cLst (rTp K (rCons rStr (rCons rStr (rOne rInt))))) x8, val rStr a7, val rStr a11]) (g := fun (y15 : (Str × Str × Int)) => (x8 ++ [y15])) (s_app (i := 1) rfl (e_tup (ar_cons (e_var (i := 2) rfl) (ar_cons (e_var (i := 3) rfl) (ar_one (e_minL (lv_e (e_new (en_lst (al_cons (e_int1 (e_dget kr_str (dv_e (e_var (i := 0) rfl)) (e_var (i := 2) rfl))) (al_cons (e_int1 (e_neg (e_dget kr_str (dv_e (e_var (i := 0) rfl)) (e_var (i := 3) rfl)))) al_nil)) (by decide)))))))) (Nat.le_of_ble_eq_true rfl))) (fun (y15 : (Str × Str × Int)) => (Sub.keep (Sub.keep (Sub.keep (Sub.keep Sub.nil))))))
  (s_wk (G := [val (rDct (Sum.inr : Str → Key) rInt) x, own p2 (cLst (rTp K (rCons rStr (rCons rStr (rOne rInt))))) x8, val rStr a7, val rStr a11]) (g := fun _ => x8) s_nil (fun _ => (Sub.keep (Sub.keep (Sub.keep (Sub.keep Sub.nil))))))) (fun (x12 : (List (Str × Str × Int))) => (Sub.keep (Sub.keep (Sub.keep (Sub.drop Sub.nil)))))))) (fun (x8 : (List (Str × Str × Int))) => (Sub.keep (Sub.keep (Sub.drop (Sub.keep Sub.nil)))))))) fun x4 =>
  (s_frz (i := 1) (r := (rLst (rTp K (rCons rStr (rCons rStr (rOne rInt)))))) rfl hm3 frz_lst (s_retP (e_var (i := 1) rfl))))) (fun d h => h)) (fun x k h => by
    unfold W_l_next at h
    dsimp only at h ⊢
    exact h)
def W_l_behind (balances0 : (List (Str × Int))) (transfer0 : (Str × Str × Int)) (k : (List (Str × Int)) → Prop) : Prop :=
  let out1 : (List (Str × Int)) := balances0; ∃ o5, dGet out1 transfer0.1 = some o5 ∧ out1.length < sizeLine ∧ let y4 : Str × Int := (transfer0.1, o5 - transfer0.2.2); ∃ o7, dGet (dPut out1 y4.1 y4.2) transfer0.2.1 = some o7 ∧ (dPut out1 y4.1 y4.2).length < sizeLine ∧ let y6 : Str × Int := (transfer0.2.1, o7 + transfer0.2.2); k (dPut (dPut out1 y4.1 y4.2) y6.1 y6.2)
theorem okM_l_behind (T : Txt K mg A) : FnOk P w K mg base CX0 1 A.f_l_behind A.d_l_behind ["_law_balances_here", "_law_transfer"] (spN (rCons (rDct (Sum.inr : Str → Key) rInt) (rOne (rTp K (rCons rStr (rCons rStr (rOne rInt)))))) (cDct (Sum.inr : Str → Key) rInt) (fun x k => W_l_behind x.1 x.2 k)) := by
  refine T.F_l_behind.ok sc_l_behind (fun vs H Q E h => spN_len h) (fun cdv Ar outer s0 H vs Q E hr h => ?_)
  refine ⟨_, (pss_cons (ps_set (i := 2) sc_l_behind.nd rfl (Or.inl rfl) (pe_callTy cl_dictD (by rfl) T.b_dict (by decide +kernel) (pa_cons (pv 0) pa_nil)))
  (pss_cons (ps_daug (hu_of hr) (pv 2) (pe_ix ix_tup (pv 1) pe_int (fun _ _ => rfl)) (pe_ix ix_tup (pv 1) pe_int (fun _ _ => rfl)) ip_sub (fun _ _ _ => rfl))
  (pss_cons (ps_daug (hu_of hr) (pv 2) (pe_ix ix_tup (pv 1) pe_int (fun _ _ => rfl)) (pe_ix ix_tup (pv 1) pe_int (fun _ _ => rfl)) ip_add (fun _ _ _ => rfl))
  (pss_one (ps_ret (pv 2)))))), ?_⟩
  try dsimp only [cxOf, Cx.nox, Cx.wish]
  exact run_N (m := 1) (τ := Unit) h rfl (fun b x hM => s_cq (Gn := fun _ : Unit => [])
    (s_newc (i := 2) (enc_dictD (dv_e (e_var (i := 0) rfl))) fun p2 out1 hm3 =>
  (s_seq (s_daug (i := 2) kr_str rfl (e_it3_2 (e_var (i := 1) rfl)) (e_it3_0 (e_var (i := 1) rfl))) fun y4 =>
  (s_seq (s_daug (i := 2) kr_str rfl (e_it3_2 (e_var (i := 1) rfl)) (e_it3_1 (e_var (i := 1) rfl))) fun y6 =>
  (s_retO (i := 2) rfl hM)))) (fun d h => h)) (fun x k h => by
    unfold W_l_behind at h
    dsimp only at h ⊢
    exact h)
def W_l_best (balances0 : (List (Str × Int))) (k : (Option (List (Str × Str × Int))) → Prop) : Prop :=
  let level1 : (List ((List (Str × Str × Int)) × (List (Str × Int)))) := ([(([] : List (Str × Str × Int)), balances0)] : List ((List (Str × Str × Int)) × (List (Str × Int)))); (-(2 ^ 62) ≤ (4 : Int) ∧ (4 : Int) < 2 ^ 62) ∧ forP (rng 0 (4 : Int).toNat) level1 (fun (a5 : Int) (x2 : (List ((List (Str × Str × Int)) × (List (Str × Int))))) (n3 : (List ((List (Str × Str × Int)) × (List (Str × Int)))) → Prop) => x2.length ≤ sizeLine ∧ compP x2 (fun (a7 : ((List (Str × Str × Int)) × (List (Str × Int)))) (acc28 : List (List (Str × Str × Int))) (n29 : List (List (Str × Str × Int)) → Prop) => W_l_next a7.2 fun v31 => ((!(!v31.isEmpty)) = true → n29 (acc28 ++ [a7.1])) ∧ ((!(!v31.isEmpty)) = false → n29 acc28)) fun v30 => let ended6 : (List (List (Str × Str × Int))) := v30; (fun (n10 : Unit → Prop) => ((!ended6.isEmpty) = true → W_l_sorted ended6 fun v12 => ∃ v11, atI v12 (0 : Int) = some v11 ∧ k (some v11)) ∧ ((!ended6.isEmpty) = false → n10 ())) fun x8 => let followin13 : (List ((List (Str × Str × Int)) × (List (Str × Int)))) := ([] : List ((List (Str × Str × Int)) × (List (Str × Int)))); forP x2 followin13 (fun (a19 : ((List (Str × Str × Int)) × (List (Str × Int)))) (x16 : (List ((List (Str × Str × Int)) × (List (Str × Int))))) (n17 : (List ((List (Str × Str × Int)) × (List (Str × Int)))) → Prop) => W_l_next a19.2 fun v26 => forP v26 x16 (fun (a23 : (Str × Str × Int)) (x20 : (List ((List (Str × Str × Int)) × (List (Str × Int))))) (n21 : (List ((List (Str × Str × Int)) × (List (Str × Int)))) → Prop) => a19.1.length + ([a23] : List (Str × Str × Int)).length ≤ sizeLine ∧ W_l_behind a19.2 a23 fun v25 => x20.length < sizeLine ∧ let y24 : ((List (Str × Str × Int)) × (List (Str × Int))) := ((a19.1 ++ ([a23] : List (Str × Str × Int))), v25); n21 (x20 ++ [y24])) fun x20 => n17 x20) fun x16 => let level27 : (List ((List (Str × Str × Int)) × (List (Str × Int)))) := x16; n3 level27) fun x2 => k (none : (Option (List (Str × Str × Int))))
theorem okM_l_best (T : Txt K mg A) : FnOk P w K mg base CX0 2 A.f_l_best A.d_l_best ["_law_balances_here"] (spP (rOne (rDct (Sum.inr : Str → Key) rInt)) (rOpt (rLst (rTp K (rCons rStr (rCons rStr (rOne rInt)))))) (fun x k => W_l_best x k)) := by
  refine T.F_l_best.ok sc_l_best (fun vs H Q E h => spP_len h) (fun cdv Ar outer s0 H vs Q E hr h => ?_)
  refine ⟨_, (pss_cons (ps_set (i := 1) sc_l_best.nd rfl (Or.inl rfl) (pe_lst (pa_cons (pe_tup (pa_cons (pe_lst pa_nil) (pa_cons (pe_callTy cl_dictD (by rfl) T.b_dict (by decide +kernel) (pa_cons (pv 0) pa_nil)) pa_nil))) pa_nil)))
  (pss_cons (ps_for PassesOwn.never rfl (pi_range1 rfl T.b_range (pa_cons pe_int pa_nil)) (pg_name (i := 2) sc_l_best.nd rfl (Or.inl rfl))
   (pss_cons (ps_setLc (i := 3) (own := [("_law_transfers", 4), ("_law_state", 5)]) rfl sc_l_best.nd rfl rfl (sw_true rfl rfl rfl (by decide +kernel)) (pi_list (pv 1)) (blkOk_by (N := ["_law_balances_here", "_law_level", "_law_turn", "_law_ended", "_law_transfers", "_law_state", "_law_following", "_law_transfer"]) (sc := defScope s_l_best) (by decide +kernel)) (fun _ _ _ _ _ => (show PG _ _ (gTup K 2 _) from (pg_tup (n := 2) rfl (pgs_cons (pg_name (i := 4) sc_l_best.nd rfl (Or.inl rfl)) (pgs_cons (pg_name (i := 5) sc_l_best.nd rfl (Or.inl rfl)) pgs_nil)) (by rfl)))) (fun _ _ _ _ _ => pts_one (pt_not (show PT _ _ (tTru K _) from pt_tru (pe_call (okM_l_next T) (hr.mono (by decide)) rfl T.g_l_next T.F_l_next.kp T.bi_l_next .nil pass0 (pa_cons (pv 5) pa_nil))))) (fun _ _ _ _ _ => (pv 4)))
  (pss_cons (ps_if (pt_tru (pv 3)) (pss_one (ps_ret (pe_ix ix_list (pe_call (okM_l_sorted T) (hr.mono (by decide)) rfl T.g_l_sorted T.F_l_sorted.kp T.bi_l_sorted .nil pass0 (pa_cons (pv 3) pa_nil)) pe_int (fun _ _ => rfl)))) pss_nil)
  (pss_cons (ps_set (i := 6) sc_l_best.nd rfl (Or.inl rfl) (pe_lst pa_nil))
  (pss_cons (ps_for PassesOwn.never rfl (pi_list (pv 1)) (pg_tup (n := 2) rfl (pgs_cons (pg_name (i := 4) sc_l_best.nd rfl (Or.inl rfl)) (pgs_cons (pg_name (i := 5) sc_l_best.nd rfl (Or.inl rfl)) pgs_nil)) (by rfl))
   (pss_one (ps_for PassesOwn.never rfl (pi_list (pe_call (okM_l_next T) (hr.mono (by decide)) rfl T.g_l_next T.F_l_next.kp T.bi_l_next .nil pass0 (pa_cons (pv 5) pa_nil))) (pg_name (i := 7) sc_l_best.nd rfl (Or.inl rfl))
   (pss_one (ps_expr (pe_bm PySem.F.plainAttrs_list PySem.F.slot_list_append PySem.F.type_list_append mt_append (pv 6) (pa_cons (pe_tup (pa_cons (pe_op op_cat (pv 4) (pe_lst (pa_cons (pv 7) pa_nil))) (pa_cons (pe_call (okM_l_behind T) (hr.mono (by decide)) rfl T.g_l_behind T.F_l_behind.kp T.bi_l_behind .nil pass0 (pa_cons (pv 5) (pa_cons (pv 7) pa_nil))) pa_nil))) pa_nil)))))))
  (pss_one (ps_set (i := 1) sc_l_best.nd rfl (Or.inl rfl) (pe_callTy cl_list (by rfl) T.b_list (by decide +kernel) (pa_cons (pv 6) pa_nil)))))))))
  (pss_one (ps_ret pe_non)))), ?_⟩
  try dsimp only [cxOf, Cx.nox, Cx.wish]
  exact run_P (m := 7) (τ := Unit) h rfl (fun b x hM => s_cq (Gn := fun _ : Unit => [])
    (s_seq (s_asg (i := 1) (e_new (en_lst (al_cons (e_tup (ar_cons (e_new (en_lst al_nil (by decide))) (ar_one (e_ofc frz_dct (enc_dictD (dv_e (e_var (i := 0) rfl)))))) (Nat.le_of_ble_eq_true rfl)) al_nil) (by decide)))) fun level1 =>
  (s_seq (s_for (Gt := (fun x2 : (List ((List (Str × Str × Int)) × (List (Str × Int)))) => [val (rDct (Sum.inr : Str → Key) rInt) x, val (rLst (rTp K (rCons (rLst (rTp K (rCons rStr (rCons rStr (rOne rInt))))) (rOne (rDct (Sum.inr : Str → Key) rInt))))) x2, any, any, any, any, any, any])) (x0 := level1) (wk_range1 (ar_one e_int)) g_name (Sub.keep (Sub.keep (Sub.keep (Sub.keep (Sub.keep (Sub.keep (Sub.keep (Sub.keep Sub.nil)))))))) (fun a5 x2 =>
  (s_seq (s_asg (i := 3) (e_new (en_comp (wk_list (e_var (i := 1) rfl)) (g_tup (gi_cons gi_one) rfl) rfl (fun a7 => (t_not (t_truL (lv_e (e_call (ar_one (e_var (i := 5) rfl))))))) (fun a7 => (e_var (i := 4) rfl))))) fun ended6 =>
  (s_seq (s_if (Gn := (fun x8 : Unit => [val (rDct (Sum.inr : Str → Key) rInt) x, val (rLst (rTp K (rCons (rLst (rTp K (rCons rStr (rCons rStr (rOne rInt))))) (rOne (rDct (Sum.inr : Str → Key) rInt))))) x2, val rInt a5, val (rLst (rLst (rTp K (rCons rStr (rCons rStr (rOne rInt)))))) ended6, any, any, any, any])) (t_truL (lv_e (e_var (i := 3) rfl)))
  (s_retP (e_some nn_lst (e_ixL (lv_e (e_call (ar_one (e_var (i := 3) rfl)))) e_int)))
  (s_wk (G := [val (rDct (Sum.inr : Str → Key) rInt) x, val (rLst (rTp K (rCons (rLst (rTp K (rCons rStr (rCons rStr (rOne rInt))))) (rOne (rDct (Sum.inr : Str → Key) rInt))))) x2, val rInt a5, val (rLst (rLst (rTp K (rCons rStr (rCons rStr (rOne rInt)))))) ended6, any, any, any, any]) (g := fun _ => ()) s_nil (fun _ => (Sub.keep (Sub.keep (Sub.keep (Sub.keep (Sub.keep (Sub.keep (Sub.keep (Sub.keep Sub.nil))))))))))) fun x8 =>
  (s_newc (i := 6) (enc_lst (en_lst al_nil (by decide))) fun p14 followin13 hm15 =>
  (s_seq (s_for (Gt := (fun x16 : (List ((List (Str × Str × Int)) × (List (Str × Int)))) => [val (rDct (Sum.inr : Str → Key) rInt) x, val (rLst (rTp K (rCons (rLst (rTp K (rCons rStr (rCons rStr (rOne rInt))))) (rOne (rDct (Sum.inr : Str → Key) rInt))))) x2, val rInt a5, val (rLst (rLst (rTp K (rCons rStr (rCons rStr (rOne rInt)))))) ended6, any, any, own p14 (cLst (rTp K (rCons (rLst (rTp K (rCons rStr (rCons rStr (rOne rInt))))) (rOne (rDct (Sum.inr : Str → Key) rInt))))) x16, any])) (x0 := followin13) (wk_list (e_var (i := 1) rfl)) (g_tup (gi_cons gi_one) rfl) (Sub.keep (Sub.keep (Sub.keep (Sub.keep (Sub.keep (Sub.keep (Sub.keep (Sub.keep Sub.nil)))))))) (fun a19 x16 =>
  (s_wk (G := [val (rDct (Sum.inr : Str → Key) rInt) x, val (rLst (rTp K (rCons (rLst (rTp K (rCons rStr (rCons rStr (rOne rInt))))) (rOne (rDct (Sum.inr : Str → Key) rInt))))) x2, val rInt a5, val (rLst (rLst (rTp K (rCons rStr (rCons rStr (rOne rInt)))))) ended6, val (rLst (rTp K (rCons rStr (rCons rStr (rOne rInt))))) a19.1, val (rDct (Sum.inr : Str → Key) rInt) a19.2, own p14 (cLst (rTp K (rCons (rLst (rTp K (rCons rStr (rCons rStr (rOne rInt))))) (rOne (rDct (Sum.inr : Str → Key) rInt))))) x16, any]) (g := fun (x20 : (List ((List (Str × Str × Int)) × (List (Str × Int))))) => x20) (s_for (Gt := (fun x20 : (List ((List (Str × Str × Int)) × (List (Str × Int)))) => [val (rDct (Sum.inr : Str → Key) rInt) x, val (rLst (rTp K (rCons (rLst (rTp K (rCons rStr (rCons rStr (rOne rInt))))) (rOne (rDct (Sum.inr : Str → Key) rInt))))) x2, val rInt a5, val (rLst (rLst (rTp K (rCons rStr (rCons rStr (rOne rInt)))))) ended6, val (rLst (rTp K (rCons rStr (rCons rStr (rOne rInt))))) a19.1, val (rDct (Sum.inr : Str → Key) rInt) a19.2, own p14 (cLst (rTp K (rCons (rLst (rTp K (rCons rStr (rCons rStr (rOne rInt))))) (rOne (rDct (Sum.inr : Str → Key) rInt))))) x20, any])) (x0 := x16) (wk_list (e_call (ar_one (e_var (i := 5) rfl)))) g_name (Sub.keep (Sub.keep (Sub.keep (Sub.keep (Sub.keep (Sub.keep (Sub.keep (Sub.keep Sub.nil)))))))) (fun a23 x20 =>
  (s_wk (G := [val (rDct (Sum.inr : Str → Key) rInt) x, val (rLst (rTp K (rCons (rLst (rTp K (rCons rStr (rCons rStr (rOne rInt))))) (rOne (rDct (Sum.inr : Str → Key) rInt))))) x2, val rInt a5, val (rLst (rLst (rTp K (rCons rStr (rCons rStr (rOne rInt)))))) ended6, val (rLst (rTp K (rCons rStr (rCons rStr (rOne rInt))))) a19.1, val (rDct (Sum.inr : Str → Key) rInt) a19.2, own p14 (cLst (rTp K (rCons (rLst (rTp K (rCons rStr (rCons rStr (rOne rInt))))) (rOne (rDct (Sum.inr : Str → Key) rInt))))) x20, val (rTp K (rCons rStr (rCons rStr (rOne rInt)))) a23]) (g := fun (y24 : ((List (Str × Str × Int)) × (List (Str × Int)))) => (x20 ++ [y24])) (s_app (i := 6) rfl (e_tup (ar_cons (e_new (en_cat (lv_e (e_var (i := 4) rfl)) (lv_e (e_new (en_lst (al_cons (e_var (i := 7) rfl) al_nil) (by decide)))))) (ar_one (e_ofc frz_dct (enc_callN (ar_cons (e_var (i := 5) rfl) (ar_one (e_var (i := 7) rfl))))))) (Nat.le_of_ble_eq_true rfl))) (fun (y24 : ((List (Str × Str × Int)) × (List (Str × Int)))) => (Sub.keep (Sub.keep (Sub.keep (Sub.keep (Sub.keep (Sub.keep (Sub.keep (Sub.drop Sub.nil)))))))))))) (fun (x20 : (List ((List (Str × Str × Int)) × (List (Str × Int))))) => (Sub.keep (Sub.keep (Sub.keep (Sub.keep (Sub.drop (Sub.drop (Sub.keep (Sub.keep Sub.nil)))))))))))) fun x16 =>
  (s_wk (G := [val (rDct (Sum.inr : Str → Key) rInt) x, val (rLst (rTp K (rCons (rLst (rTp K (rCons rStr (rCons rStr (rOne rInt))))) (rOne (rDct (Sum.inr : Str → Key) rInt))))) x2, val rInt a5, val (rLst (rLst (rTp K (rCons rStr (rCons rStr (rOne rInt)))))) ended6, any, any, own p14 (cLst (rTp K (rCons (rLst (rTp K (rCons rStr (rCons rStr (rOne rInt))))) (rOne (rDct (Sum.inr : Str → Key) rInt))))) x16, any]) (g := fun (level27 : (List ((List (Str × Str × Int)) × (List (Str × Int))))) => level27) (s_asg (i := 1) (e_new (en_listL (lv_own (i := 6) rfl)))) (fun (level27 : (List ((List (Str × Str × Int)) × (List (Str × Int))))) => (Sub.keep (Sub.keep (Sub.drop (Sub.drop (Sub.keep (Sub.keep (Sub.drop (Sub.keep Sub.nil)))))))))))))))) fun x2 =>
  (s_retP e_none))) (fun d h => h)) (fun x k h => by
    unfold W_l_best at h
    dsimp only at h ⊢
    exact h)
def W_l_is_list (told0 : (List (Str × Str × Int))) (k : Bool → Prop) : Prop :=
  (fun (n3 : Unit → Prop) => (false = true → k false) ∧ (false = false → n3 ())) fun x1 => forP told0 () (fun (a7 : (Str × Str × Int)) (x4 : Unit) (n5 : Unit → Prop) => (fun (n10 : Unit → Prop) => (fun (k14 : Bool → Prop) => (false = true → k14 true) ∧ (false = false → (fun (k16 : Bool → Prop) => ((!decide (((3 : Nat) : Int) = (3 : Int))) = true → k16 true) ∧ ((!decide (((3 : Nat) : Int) = (3 : Int))) = false → W_l_number a7.2.2 fun v18 => k16 (!v18))) fun c17 => k14 c17)) fun c15 => (c15 = true → k false) ∧ (c15 = false → n10 ())) fun x8 => (fun (n13 : Unit → Prop) => ((false || false) = true → k false) ∧ ((false || false) = false → n13 ())) fun x11 => n5 ()) fun x4 => k true
theorem okM_l_is_list (T : Txt K mg A) : FnOk P w K mg base CX0 2 A.f_l_is_list A.d_l_is_list ["_law_told"] (spP (rOne (rLst (rTp K (rCons rStr (rCons rStr (rOne rInt)))))) rBl (fun x k => W_l_is_list x k)) := by
  refine T.F_l_is_list.ok sc_l_is_list (fun vs H Q E h => spP_len h) (fun cdv Ar outer s0 H vs Q E hr h => ?_)
  refine ⟨_, (pss_cons (ps_if (pt_not (pt_val (pe_callB call_isi (by rfl) T.b_isinstance (by decide +kernel) (pa_cons (pv 0) (pa_cons (pe_bltn (v := .ty "list") (by rfl) T.b_list (by decide +kernel) rfl) pa_nil))))) (pss_one (ps_ret pe_bl)) pss_nil)
  (pss_cons (ps_for PassesOwn.never rfl (pi_list (pv 0)) (pg_name (i := 1) sc_l_is_list.nd rfl (Or.inl rfl))
   (pss_cons (ps_if (PW.pt (pw_or (pt_not (pt_val (pe_callB call_isi (by rfl) T.b_isinstance (by decide +kernel) (pa_cons (pv 1) (pa_cons (pe_bltn (v := .ty "tuple") (by rfl) T.b_tuple (by decide +kernel) rfl) pa_nil))))) (pw_or (pt_cmpR op_ne (pe_callB cl_len (by rfl) T.b_len (by decide +kernel) (pa_cons (pv 1) pa_nil)) pe_int (nomark _)) (pw_or1 (pt_not (pt_val (pe_call (okM_l_number T) (hr.mono (by decide)) rfl T.g_l_number T.F_l_number.kp T.bi_l_number .nil pass0 (pa_cons (pe_ix ix_tup (pv 1) pe_int (fun _ _ => rfl)) pa_nil)))))))) (pss_one (ps_ret pe_bl)) pss_nil)
  (pss_one (ps_if (PW.pt (pw_or (pt_not (pt_val (pe_callB call_isi (by rfl) T.b_isinstance (by decide +kernel) (pa_cons (pe_ix ix_tup (pv 1) pe_int (fun _ _ => rfl)) (pa_cons (pe_bltn (v := .ty "str") (by rfl) T.b_str (by decide +kernel) rfl) pa_nil))))) (pw_or1 (pt_not (pt_val (pe_callB call_isi (by rfl) T.b_isinstance (by decide +kernel) (pa_cons (pe_ix ix_tup (pv 1) pe_int (fun _ _ => rfl)) (pa_cons (pe_bltn (v := .ty "str") (by rfl) T.b_str (by decide +kernel) rfl) pa_nil)))))))) (pss_one (ps_ret pe_bl)) pss_nil))))
  (pss_one (ps_ret pe_bl)))), ?_⟩
  try dsimp only [cxOf, Cx.nox, Cx.wish]
  exact run_P (m := 1) (τ := Unit) h rfl (fun b x hM => s_cq (Gn := fun _ : Unit => [])
    (s_seq (s_if (Gn := (fun x1 : Unit => [val (rLst (rTp K (rCons rStr (rCons rStr (rOne rInt))))) x, any])) (t_not (t_B (e_isi (res := true) ty_lst (by decide +kernel) (e_var (i := 0) rfl))))
  (s_retP e_bl)
  (s_wk (G := [val (rLst (rTp K (rCons rStr (rCons rStr (rOne rInt))))) x, any]) (g := fun _ => ()) s_nil (fun _ => (Sub.keep (Sub.keep Sub.nil))))) fun x1 =>
  (s_seq (s_for (Gt := (fun x4 : Unit => [val (rLst (rTp K (rCons rStr (rCons rStr (rOne rInt))))) x, any])) (x0 := ()) (wk_list (e_var (i := 0) rfl)) g_name (Sub.keep (Sub.keep Sub.nil)) (fun a7 x4 =>
  (s_seq (s_if (Gn := (fun x8 : Unit => [val (rLst (rTp K (rCons rStr (rCons rStr (rOne rInt))))) x, val (rTp K (rCons rStr (rCons rStr (rOne rInt)))) a7])) (t_or (t_not (t_B (e_isi (res := true) ty_tp (by decide +kernel) (e_var (i := 1) rfl)))) (t_or (t_test (e_op o_neI (e_lenTp (e_var (i := 1) rfl)) e_int)) (t_not (t_B (e_call (ar_one (e_it3_2 (e_var (i := 1) rfl))))))))
  (s_retP e_bl)
  (s_wk (G := [val (rLst (rTp K (rCons rStr (rCons rStr (rOne rInt))))) x, val (rTp K (rCons rStr (rCons rStr (rOne rInt)))) a7]) (g := fun _ => ()) s_nil (fun _ => (Sub.keep (Sub.keep Sub.nil))))) fun x8 =>
  (s_wk (G := [val (rLst (rTp K (rCons rStr (rCons rStr (rOne rInt))))) x, val (rTp K (rCons rStr (rCons rStr (rOne rInt)))) a7]) (g := fun (x11 : Unit) => ()) (s_if (Gn := (fun x11 : Unit => [val (rLst (rTp K (rCons rStr (rCons rStr (rOne rInt))))) x, val (rTp K (rCons rStr (rCons rStr (rOne rInt)))) a7])) (t_orP (t_not (t_B (e_isi (res := true) ty_str (by decide +kernel) (e_it3_0 (e_var (i := 1) rfl))))) (t_not (t_B (e_isi (res := true) ty_str (by decide +kernel) (e_it3_1 (e_var (i := 1) rfl))))))
  (s_retP e_bl)
  (s_wk (G := [val (rLst (rTp K (rCons rStr (rCons rStr (rOne rInt))))) x, val (rTp K (rCons rStr (rCons rStr (rOne rInt)))) a7]) (g := fun _ => ()) s_nil (fun _ => (Sub.keep (Sub.keep Sub.nil))))) (fun (x11 : Unit) => (Sub.keep (Sub.drop Sub.nil))))))) fun x4 =>
  (s_retP e_bl))) (fun d h => h)) (fun x k h => by
    unfold W_l_is_list at h
    dsimp only at h ⊢
    exact h)
def W_l_clears (balances0 : (List (Str × Int))) (told0 : (List (Str × Str × Int))) (k : Bool → Prop) : Prop :=
  let state1 : (List (Str × Int)) := balances0; forP told0 state1 (fun (a5 : (Str × Str × Int)) (x2 : (List (Str × Int))) (n3 : (List (Str × Int)) → Prop) => (fun (n8 : Unit → Prop) => W_l_next x2 fun v11 => ((PyData.strOk a5.1 = true) ∧ ((PyData.strOk a5.2.1 = true) ∧ (True))) ∧ (∀ z12 ∈ v11, (PyData.strOk z12.1 = true) ∧ ((PyData.strOk z12.2.1 = true) ∧ (True))) ∧ ((!memX a5 v11) = true → k false) ∧ ((!memX a5 v11) = false → n8 ())) fun x6 => W_l_behind x2 a5 fun v10 => let state9 : (List (Str × Int)) := v10; n3 state9) fun x2 => (x2.map Prod.fst).length ≤ sizeLine ∧ compP (x2.map Prod.fst) (fun (a14 : Str) (acc44 : List Int) (n45 : List Int → Prop) => ∃ v48, dGet x2 a14 = some v48 ∧ ((decide (v48 < (0 : Int))) = true → ∃ v47, dGet x2 a14 = some v47 ∧ n45 (acc44 ++ [v47])) ∧ ((decide (v48 < (0 : Int))) = false → n45 acc44)) fun v46 => let below13 : Int := v46.sum; (x2.map Prod.fst).length ≤ sizeLine ∧ compP (x2.map Prod.fst) (fun (a16 : Str) (acc39 : List Int) (n40 : List Int → Prop) => ∃ v43, dGet x2 a16 = some v43 ∧ ((decide (v43 > (0 : Int))) = true → ∃ v42, dGet x2 a16 = some v42 ∧ n40 (acc39 ++ [v42])) ∧ ((decide (v43 > (0 : Int))) = false → n40 acc39)) fun v41 => let above15 : Int := v41.sum; (balances0.map Prod.fst).length ≤ sizeLine ∧ compP (balances0.map Prod.fst) (fun (a18 : Str) (acc35 : List Int) (n36 : List Int → Prop) => (true = true → ∃ v38, dGet balances0 a18 = some v38 ∧ n36 (acc35 ++ [v38])) ∧ (true = false → n36 acc35)) fun v37 => let whole17 : Int := v37.sum; (fun (n21 : Unit → Prop) => (fun (k30 : Bool → Prop) => ((!decide (below13 = (if whole17 < (0 : Int) then whole17 else (0 : Int)))) = true → k30 true) ∧ ((!decide (below13 = (if whole17 < (0 : Int) then whole17 else (0 : Int)))) = false → (fun (k32 : Bool → Prop) => ((!decide (above15 = (if whole17 > (0 : Int) then whole17 else (0 : Int)))) = true → k32 true) ∧ ((!decide (above15 = (if whole17 > (0 : Int) then whole17 else (0 : Int)))) = false → W_l_next x2 fun v34 => k32 (!v34.isEmpty))) fun c33 => k30 c33)) fun c31 => (c31 = true → k false) ∧ (c31 = false → n21 ())) fun x19 => W_made balances0 told0 (fun v29 => let back22 : (List (Str × Int)) := v29; (fun (k23 : Bool → Prop) => (true = true → (fun (k25 : Bool → Prop) => (∀ z27 ∈ (back22.map Prod.fst), PyData.strOk z27 = true) ∧ (∀ z28 ∈ (x2.map Prod.fst), PyData.strOk z28 = true) ∧ ((decide ((back22.map Prod.fst) = (x2.map Prod.fst))) = true → (back22 = x2 ∧ (back22.map (·.1)).Nodup) ∧ k25 true) ∧ ((decide ((back22.map Prod.fst) = (x2.map Prod.fst))) = false → k25 false)) fun c26 => k23 c26) ∧ (true = false → k23 false)) fun c24 => k c24) (fun _ => False)
theorem okM_l_clears (T : Txt K mg A) : FnOk P w K mg base CX0 5 A.f_l_clears A.d_l_clears ["_law_balances_here", "_law_told"] (spP (rCons (rDct (Sum.inr : Str → Key) rInt) (rOne (rLst (rTp K (rCons rStr (rCons rStr (rOne rInt))))))) rBl (fun x k => W_l_clears x.1 x.2 k)) := by
  refine T.F_l_clears.ok sc_l_clears (fun vs H Q E h => spP_len h) (fun cdv Ar outer s0 H vs Q E hr h => ?_)
  refine ⟨_, (pss_cons (ps_set (i := 2) sc_l_clears.nd rfl (Or.inr rfl) (pe_callTy cl_dictD (by rfl) T.b_dict (by decide +kernel) (pa_cons (pv 0) pa_nil)))
  (pss_cons (ps_for PassesOwn.never rfl (pi_list (pv 1)) (pg_name (i := 3) sc_l_clears.nd rfl (Or.inl rfl))
   (pss_cons (ps_if (pt_cmpR (show OpR _ (compareOp .NotIn) (rNotInD K) from op_notInD (un65 hr)) (pv 3) (pe_call (okM_l_next T) (hr.mono (by decide)) rfl T.g_l_next T.F_l_next.kp T.bi_l_next .nil pass0 (pa_cons (pv 2) pa_nil)) rfl) (pss_one (ps_ret pe_bl)) pss_nil)
  (pss_one (ps_set (i := 2) sc_l_clears.nd rfl (Or.inr rfl) (pe_call (okM_l_behind T) (hr.mono (by decide)) rfl T.g_l_behind T.F_l_behind.kp T.bi_l_behind .nil pass0 (pa_cons (pv 2) (pa_cons (pv 3) pa_nil)))))))
  (pss_cons (ps_set (i := 4) sc_l_clears.nd rfl (Or.inl rfl) (pe_callB (cr_sum rfl) (by rfl) T.b_sum (by decide +kernel) (pa_cons (pe_lc (own := [("_law_name", 5)]) (g := gName 5) rfl sc_l_clears.nd (pi_list (pe_callTy (cl_listD rfl) (by rfl) T.b_list (by decide +kernel) (pa_cons (pv 2) pa_nil))) (blkOk_by (N := ["_law_balances_here", "_law_told", "_law_state", "_law_transfer", "_law_below", "_law_name", "_law_above", "_law_whole", "_law_back"]) (sc := defScope s_l_clears) (by decide +kernel)) (fun _ _ _ _ _ => (pg_name (i := 5) sc_l_clears.nd rfl (Or.inl rfl))) (fun _ _ _ _ _ => pts_one (pt_cmpR op_lt (pe_dget (hu_of hr) (pv 2) (pv 5) (fun _ _ => rfl)) pe_int (nomark _))) (fun _ _ _ _ _ => (pe_dget (hu_of hr) (pv 2) (pv 5) (fun _ _ => rfl)))) pa_nil)))
  (pss_cons (ps_set (i := 6) sc_l_clears.nd rfl (Or.inl rfl) (pe_callB (cr_sum rfl) (by rfl) T.b_sum (by decide +kernel) (pa_cons (pe_lc (own := [("_law_name", 5)]) (g := gName 5) rfl sc_l_clears.nd (pi_list (pe_callTy (cl_listD rfl) (by rfl) T.b_list (by decide +kernel) (pa_cons (pv 2) pa_nil))) (blkOk_by (N := ["_law_balances_here", "_law_told", "_law_state", "_law_transfer", "_law_below", "_law_name", "_law_above", "_law_whole", "_law_back"]) (sc := defScope s_l_clears) (by decide +kernel)) (fun _ _ _ _ _ => (pg_name (i := 5) sc_l_clears.nd rfl (Or.inl rfl))) (fun _ _ _ _ _ => pts_one (pt_cmpR op_gt (pe_dget (hu_of hr) (pv 2) (pv 5) (fun _ _ => rfl)) pe_int (nomark _))) (fun _ _ _ _ _ => (pe_dget (hu_of hr) (pv 2) (pv 5) (fun _ _ => rfl)))) pa_nil)))
  (pss_cons (ps_set (i := 7) sc_l_clears.nd rfl (Or.inl rfl) (pe_callB (cr_sum rfl) (by rfl) T.b_sum (by decide +kernel) (pa_cons (pe_lc (own := [("_law_name", 5)]) (g := gName 5) (tt := tYes) rfl sc_l_clears.nd (pi_list (pe_callTy (cl_listD rfl) (by rfl) T.b_list (by decide +kernel) (pa_cons (pv 0) pa_nil))) (blkOk_by (N := ["_law_balances_here", "_law_told", "_law_state", "_law_transfer", "_law_below", "_law_name", "_law_above", "_law_whole", "_law_back"]) (sc := defScope s_l_clears) (by decide +kernel)) (fun _ _ _ _ _ => (pg_name (i := 5) sc_l_clears.nd rfl (Or.inl rfl))) (fun _ _ _ _ _ => pts_nil) (fun _ _ _ _ _ => (pe_dget (hu_of hr) (pv 0) (pv 5) (fun _ _ => rfl)))) pa_nil)))
  (pss_cons (ps_if (PW.pt (pw_or (pt_cmpR op_ne (pv 4) (pe_callB (call_min2 rfl) (by rfl) T.b_min (by decide +kernel) (pa_cons pe_int (pa_cons (pe_callTy cl_int (by rfl) T.b_int (by decide +kernel) (pa_cons (pv 7) pa_nil)) pa_nil))) (nomark _)) (pw_or (pt_cmpR op_ne (pv 6) (pe_callB (cr_max2 rfl) (by rfl) T.b_max (by decide +kernel) (pa_cons pe_int (pa_cons (pe_callTy cl_int (by rfl) T.b_int (by decide +kernel) (pa_cons (pv 7) pa_nil)) pa_nil))) (nomark _)) (pw_or1 (pt_tru (pe_call (okM_l_next T) (hr.mono (by decide)) rfl T.g_l_next T.F_l_next.kp T.bi_l_next .nil pass0 (pa_cons (pv 2) pa_nil))))))) (pss_one (ps_ret pe_bl)) pss_nil)
  (pss_cons (ps_set (i := 8) sc_l_clears.nd rfl (Or.inl rfl) (pe_call (okM_made T) (hr.mono (by decide)) rfl T.g_made T.F_made.kp T.bi_made .nil passN (pa_cons (pe_callTy cl_dictD (by rfl) T.b_dict (by decide +kernel) (pa_cons (pv 0) pa_nil)) (pa_cons (pe_callTy cl_list (by rfl) T.b_list (by decide +kernel) (pa_cons (pv 1) pa_nil)) pa_nil))))
  (pss_one (ps_ret (pe_and (pe_callB call_isi (by rfl) T.b_isinstance (by decide +kernel) (pa_cons (pv 8) (pa_cons (pe_bltn (v := .ty "dict") (by rfl) T.b_dict (by decide +kernel) rfl) pa_nil))) (pe_and (pe_cmpR (op_eqD hr.units) (pe_callTy (cl_listD rfl) (by rfl) T.b_list (by decide +kernel) (pa_cons (pv 8) pa_nil)) (pe_callTy (cl_listD rfl) (by rfl) T.b_list (by decide +kernel) (pa_cons (pv 2) pa_nil)) (nomark _)) (pe_one (pe_cmpR (op_eq_dictA hr.units0) (pv 8) (pv 2) (nomark _)))))))))))))), ?_⟩
  try dsimp only [cxOf, Cx.nox, Cx.wish]
  exact run_P (m := 7) (τ := Unit) h rfl (fun b x hM => s_cq (Gn := fun _ : Unit => [])
    (s_seq (s_asg (i := 2) (e_ofc frz_dct (enc_dictD (dv_e (e_var (i := 0) rfl))))) fun state1 =>
  (s_seq (s_for (Gt := (fun x2 : (List (Str × Int)) => [val (rDct (Sum.inr : Str → Key) rInt) x.1, val (rLst (rTp K (rCons rStr (rCons rStr (rOne rInt))))) x.2, val (rDct (Sum.inr : Str → Key) rInt) x2, any, any, any, any, any, any])) (x0 := state1) (wk_list (e_var (i := 1) rfl)) g_name (Sub.keep (Sub.keep (Sub.keep (Sub.keep (Sub.keep (Sub.keep (Sub.keep (Sub.keep (Sub.keep Sub.nil))))))))) (fun a5 x2 =>
  (s_seq (s_if (Gn := (fun x6 : Unit => [val (rDct (Sum.inr : Str → Key) rInt) x.1, val (rLst (rTp K (rCons rStr (rCons rStr (rOne rInt))))) x.2, val (rDct (Sum.inr : Str → Key) rInt) x2, val (rTp K (rCons rStr (rCons rStr (rOne rInt)))) a5, any, any, any, any, any])) (t_test (e_op (o_notInD (daTp (daCons daStr (daCons daStr (daOne daInt)))) (Nat.le_of_ble_eq_true rfl)) (e_var (i := 3) rfl) (e_call (ar_one (e_var (i := 2) rfl)))))
  (s_retP e_bl)
  (s_wk (G := [val (rDct (Sum.inr : Str → Key) rInt) x.1, val (rLst (rTp K (rCons rStr (rCons rStr (rOne rInt))))) x.2, val (rDct (Sum.inr : Str → Key) rInt) x2, val (rTp K (rCons rStr (rCons rStr (rOne rInt)))) a5, any, any, any, any, any]) (g := fun _ => ()) s_nil (fun _ => (Sub.keep (Sub.keep (Sub.keep (Sub.keep (Sub.keep (Sub.keep (Sub.keep (Sub.keep (Sub.keep Sub.nil)))))))))))) fun x6 =>
  (s_wk (G := [val (rDct (Sum.inr : Str → Key) rInt) x.1, val (rLst (rTp K (rCons rStr (rCons rStr (rOne rInt))))) x.2, val (rDct (Sum.inr : Str → Key) rInt) x2, val (rTp K (rCons rStr (rCons rStr (rOne rInt)))) a5, any, any, any, any, any]) (g := fun (state9 : (List (Str × Int))) => state9) (s_asg (i := 2) (e_ofc frz_dct (enc_callN (ar_cons (e_var (i := 2) rfl) (ar_one (e_var (i := 3) rfl)))))) (fun (state9 : (List (Str × Int))) => (Sub.keep (Sub.keep (Sub.keep (Sub.drop (Sub.keep (Sub.keep (Sub.keep (Sub.keep (Sub.keep Sub.nil)))))))))))))) fun x2 =>
  (s_seq (s_asg (i := 4) (e_sum (lv_e (e_new (en_comp (wk_list (e_new (en_listD ks_str (dv_e (e_var (i := 2) rfl))))) g_name rfl (fun a14 => (t_test (e_op o_I0b (e_dget kr_str (dv_e (e_var (i := 2) rfl)) (e_var (i := 5) rfl)) e_int))) (fun a14 => (e_dget kr_str (dv_e (e_var (i := 2) rfl)) (e_var (i := 5) rfl)))))))) fun below13 =>
  (s_seq (s_asg (i := 6) (e_sum (lv_e (e_new (en_comp (wk_list (e_new (en_listD ks_str (dv_e (e_var (i := 2) rfl))))) g_name rfl (fun a16 => (t_test (e_op o_I0b (e_dget kr_str (dv_e (e_var (i := 2) rfl)) (e_var (i := 5) rfl)) e_int))) (fun a16 => (e_dget kr_str (dv_e (e_var (i := 2) rfl)) (e_var (i := 5) rfl)))))))) fun above15 =>
  (s_seq (s_asg (i := 7) (e_sum (lv_e (e_new (en_comp (wk_list (e_new (en_listD ks_str (dv_e (e_var (i := 0) rfl))))) g_name rfl (fun a18 => t_yes) (fun a18 => (e_dget kr_str (dv_e (e_var (i := 0) rfl)) (e_var (i := 5) rfl)))))))) fun whole17 =>
  (s_seq (s_if (Gn := (fun x19 : Unit => [val (rDct (Sum.inr : Str → Key) rInt) x.1, val (rLst (rTp K (rCons rStr (rCons rStr (rOne rInt))))) x.2, val (rDct (Sum.inr : Str → Key) rInt) x2, any, val rInt below13, any, val rInt above15, val rInt whole17, any])) (t_or (t_test (e_op o_neI (e_var (i := 4) rfl) (e_min2 e_int (e_int1 (e_var (i := 7) rfl))))) (t_or (t_test (e_op o_neI (e_var (i := 6) rfl) (e_max2 e_int (e_int1 (e_var (i := 7) rfl))))) (t_truL (lv_e (e_call (ar_one (e_var (i := 2) rfl)))))))
  (s_retP e_bl)
  (s_wk (G := [val (rDct (Sum.inr : Str → Key) rInt) x.1, val (rLst (rTp K (rCons rStr (rCons rStr (rOne rInt))))) x.2, val (rDct (Sum.inr : Str → Key) rInt) x2, any, val rInt below13, any, val rInt above15, val rInt whole17, any]) (g := fun _ => ()) s_nil (fun _ => (Sub.keep (Sub.keep (Sub.keep (Sub.keep (Sub.keep (Sub.keep (Sub.keep (Sub.keep (Sub.keep Sub.nil)))))))))))) fun x19 =>
  (s_seq (s_asg (i := 8) (e_ofc frz_dct (enc_callXO0 (ar_cons (e_ofc frz_dct (enc_dictD (dv_e (e_var (i := 0) rfl)))) (ar_one (e_new (en_listL (lv_e (e_var (i := 1) rfl))))))))) fun back22 =>
  (s_retP (e_andV (e_isiD (res := true) (by decide +kernel) (dv_e (e_var (i := 8) rfl))) (e_andV (e_op (o_eqD (daLst daStr) (Nat.le_of_ble_eq_true rfl)) (e_new (en_listD ks_str (dv_e (e_var (i := 8) rfl)))) (e_new (en_listD ks_str (dv_e (e_var (i := 2) rfl))))) (e_op (o_eqDA (fun a c h => Sum.inr.inj h)) (e_var (i := 8) rfl) (e_var (i := 2) rfl)))))))))))) (fun d h => h)) (fun x k h => by
    unfold W_l_clears at h
    dsimp only at h ⊢
    exact h)
end
end Mi
/-! K47Md -/
set_option Elab.async false
set_option linter.all false
set_option maxRecDepth 100000
set_option maxHeartbeats 4000000
namespace Mi
open PySem PySem.Spec L2 Dh
open _root_.Evl (Ex)
section
variable {P : Program} {w : World} {K : PySem.W.Frag} {mg : Str → Option Value} {base : Heap} {A : Ad}
def W_law (k : Bool → Prop) : Prop :=
  let names1 : (List Str) := ([] : List Str); let othernam4 : (List Str) := ([] : List Str); W_l_balances names1 (fun r47 => W_l_balances othernam4 (fun r48 => let worlds9 : List (List (Str × Int)) := [r47.1, r48.1]; let z10 : ((Unit × (List Str) × Unit) × (Unit × (List Str) × Unit)) := ((r47.2.1, r47.2.2.1, ()), (r48.2.1, r48.2.2.1, ())); forP ([(0 : Int), (1 : Int), (0 : Int)] : List Int) () (fun (a15 : Int) (x12 : Unit) (n13 : Unit → Prop) => ∃ v46, atI worlds9 a15 = some v46 ∧ let handed16 : (List (Str × Int)) := v46; W_cleared handed16 fun v20 => let told17 : (List (Str × Str × Int)) := v20; (fun (n23 : Unit → Prop) => (fun (k34 : Bool → Prop) => W_l_is_list (id told17) fun v36 => ((!v36) = true → k34 true) ∧ ((!v36) = false → (fun (k37 : Bool → Prop) => ∃ v41, atI worlds9 a15 = some v41 ∧ W_l_best v41 fun v40 => ∃ v39, v40 = some v39 ∧ ((∀ z42 ∈ told17, (PyData.strOk z42.1 = true) ∧ ((PyData.strOk z42.2.1 = true) ∧ (True))) ∧ (∀ z43 ∈ v39, (PyData.strOk z43.1 = true) ∧ ((PyData.strOk z43.2.1 = true) ∧ (True)))) ∧ ((!decide (told17 = v39)) = true → k37 true) ∧ ((!decide (told17 = v39)) = false → ∃ v45, atI worlds9 a15 = some v45 ∧ W_l_clears v45 (id told17) fun v44 => k37 (!v44))) fun c38 => k34 c38)) fun c35 => (c35 = true → k false) ∧ (c35 = false → n23 ())) fun x21 => told17.length < sizeLine ∧ let y24 : (Str × Str × Int) := (("a" : Str), ("b" : Str), (1 : Int)); (fun (n27 : Unit → Prop) => (fun (k28 : Bool → Prop) => ∃ v30, atI worlds9 a15 = some v30 ∧ (handed16 = v30 ∧ (handed16.map (·.1)).Nodup) ∧ (false = true → k28 true) ∧ (false = false → ∃ v31, atI worlds9 a15 = some v31 ∧ (∀ z32 ∈ (handed16.map Prod.fst), PyData.strOk z32 = true) ∧ (∀ z33 ∈ (v31.map Prod.fst), PyData.strOk z33 = true) ∧ k28 (!decide ((handed16.map Prod.fst) = (v31.map Prod.fst))))) fun c29 => (c29 = true → k false) ∧ (c29 = false → n27 ())) fun x25 => n13 ()) fun x12 => k true) (fun _ => False)) (fun _ => False)
theorem okM_law (T : Txt K mg A) (math : W_law (fun r => r = true)) : FnOk P w K mg base CX0 12 A.f_law A.d_law ["_law_script"] (spLaw K) := by
  refine T.F_law.ok sc_law (fun vs H Q E h => ?_) (fun cdv Ar outer s0 H vs Q E hr h => ?_)
  · obtain ⟨a, ns, rfl, _⟩ := h; rfl
  refine ⟨_, (pss_cons (ps_set (i := 1) sc_law.nd rfl (Or.inl rfl) (pe_call (okM_l_bag T) (hr.mono (by decide)) rfl T.g_l_bag T.F_l_bag.kp T.bi_l_bag .nil pass0 (pa_cons (pv 0) pa_nil)))
  (pss_cons (ps_set (i := 2) sc_law.nd rfl (Or.inl rfl) (pe_lst pa_nil))
  (pss_cons (ps_set (i := 3) sc_law.nd rfl (Or.inl rfl) (pe_lst pa_nil))
  (pss_cons (ps_set (i := 4) sc_law.nd rfl (Or.inl rfl) (pe_lst (pa_cons (pe_call (okM_l_balances T) (hr.mono (by decide)) rfl T.g_l_balances T.F_l_balances.kp T.bi_l_balances .nil pass0 (pa_cons (pv 1) (pa_cons (pv 2) pa_nil))) (pa_cons (pe_call (okM_l_balances T) (hr.mono (by decide)) rfl T.g_l_balances T.F_l_balances.kp T.bi_l_balances .nil pass0 (pa_cons (pv 1) (pa_cons (pv 3) pa_nil))) pa_nil))))
  (pss_cons (ps_for PassesOwn.never rfl (pi_list (pe_lst (pa_cons pe_int (pa_cons pe_int (pa_cons pe_int pa_nil))))) (pg_name (i := 5) sc_law.nd rfl (Or.inl rfl))
   (pss_cons (ps_set (i := 6) sc_law.nd rfl (Or.inl rfl) (pe_callTy cl_dictD (by rfl) T.b_dict (by decide +kernel) (pa_cons (pe_ix ix_list (pv 4) (pv 5) (fun _ _ => rfl)) pa_nil)))
  (pss_cons (ps_set (i := 7) sc_law.nd rfl (Or.inl rfl) (pe_call (okM_cleared T) (hr.mono (by decide)) rfl T.g_cleared T.F_cleared.kp T.bi_cleared .nil pass0 (pa_cons (pv 6) pa_nil)))
  (pss_cons (ps_if (PW.pt (pw_or (pt_not (pt_val (pe_call (okM_l_is_list T) (hr.mono (by decide)) rfl T.g_l_is_list T.F_l_is_list.kp T.bi_l_is_list .nil pass0 (pa_cons (pv 7) pa_nil)))) (pw_or (pt_cmpR (op_neD hr.units) (pv 7) (pe_call (okM_l_best T) (hr.mono (by decide)) rfl T.g_l_best T.F_l_best.kp T.bi_l_best .nil pass0 (pa_cons (pe_ix ix_list (pv 4) (pv 5) (fun _ _ => rfl)) pa_nil)) (nomark _)) (pw_or1 (pt_not (pt_val (pe_call (okM_l_clears T) (hr.mono (by decide)) rfl T.g_l_clears T.F_l_clears.kp T.bi_l_clears .nil pass0 (pa_cons (pe_ix ix_list (pv 4) (pv 5) (fun _ _ => rfl)) (pa_cons (pv 7) pa_nil))))))))) (pss_one (ps_ret pe_bl)) pss_nil)
  (pss_cons (ps_expr (pe_bm PySem.F.plainAttrs_list PySem.F.slot_list_append PySem.F.type_list_append mt_append (pv 7) (pa_cons (pe_tup (pa_cons pe_str (pa_cons pe_str (pa_cons pe_int pa_nil)))) pa_nil)))
  (pss_one (ps_if (PW.pt (pw_or (pt_cmpR (op_ne_dictA hr.units0) (pv 6) (pe_ix ix_list (pv 4) (pv 5) (fun _ _ => rfl)) (nomark _)) (pw_or1 (pt_cmpR (op_neD hr.units) (pe_callTy (cl_listD rfl) (by rfl) T.b_list (by decide +kernel) (pa_cons (pv 6) pa_nil)) (pe_callTy (cl_listD rfl) (by rfl) T.b_list (by decide +kernel) (pa_cons (pe_ix ix_list (pv 4) (pv 5) (fun _ _ => rfl)) pa_nil)) (nomark _))))) (pss_one (ps_ret pe_bl)) pss_nil)))))))
  (pss_one (ps_ret pe_bl))))))), ?_⟩
  try dsimp only [cxOf, Cx.nox, Cx.wish]
  exact run_law (n := 8) (j := 1) (τ := Unit) h rfl (by decide) (by decide) (fun b p hM => s_cq (Gn := fun _ : Unit => [])
    (s_newc (i := 2) (enc_lst (en_lst al_nil (by decide))) fun p2 names1 hm3 =>
  (s_newc (i := 3) (enc_lst (en_lst al_nil (by decide))) fun p5 othernam4 hm6 =>
  (s_newLS (i := 4) (enl_two (em_wk (Gz := fun x7 : (Unit × (List Str) × Unit) => [any, own p cBag (), own p2 (cLst rStr) x7.2.1, own p5 (cLst rStr) othernam4, any, any, any, any]) (up := fun x : (Unit × (List Str) × Unit) => x) (em_callP0 (ap_own (i := 1) rfl (by decide) (ap_own (i := 2) rfl (by decide) ap_nil))) (fun _ => Sub.refl _)) (fun x7 => (em_wk (Gz := fun z10 : ((Unit × (List Str) × Unit) × (Unit × (List Str) × Unit)) => [any, own p cBag (), own p2 (cLst rStr) z10.1.2.1, own p5 (cLst rStr) z10.2.2.1, any, any, any, any]) (up := fun x : (Unit × (List Str) × Unit) => (x7, x)) (em_callP0 (ap_own (i := 1) rfl (by decide) (ap_own (i := 3) rfl (by decide) ap_nil))) (fun _ => Sub.refl _)))) fun p8 worlds9 z10 hm11 =>
  (s_seq (s_for (Gt := (fun x12 : Unit => [any, own p cBag (), own p2 (cLst rStr) z10.1.2.1, own p5 (cLst rStr) z10.2.2.1, own p8 (cLst (rDct (Sum.inr : Str → Key) rInt)) worlds9, any, any, any])) (x0 := ()) (wk_list (e_new (en_lst (al_cons e_int (al_cons e_int (al_cons e_int al_nil))) (by decide)))) g_name (Sub.keep (Sub.keep (Sub.keep (Sub.keep (Sub.keep (Sub.keep (Sub.keep (Sub.keep Sub.nil)))))))) (fun a15 x12 =>
  (s_seq (s_asg (i := 6) (e_ofc frz_dct (enc_dictD (dv_e (e_ixL (lv_own (i := 4) rfl) (e_var (i := 5) rfl)))))) fun handed16 =>
  (s_newc (i := 7) (enc_callN (ar_one (e_var (i := 6) rfl))) fun p18 told17 hm19 =>
  (s_seq (s_if (Gn := (fun x21 : Unit => [any, own p cBag (), own p2 (cLst rStr) z10.1.2.1, own p5 (cLst rStr) z10.2.2.1, own p8 (cLst (rDct (Sum.inr : Str → Key) rInt)) worlds9, val rInt a15, val (rDct (Sum.inr : Str → Key) rInt) handed16, own p18 (cLst (rTp K (rCons rStr (rCons rStr (rOne rInt))))) told17])) (t_or (t_not (t_B (e_lendO (i := 7) (wv := id) free_bl rfl frz_lst))) (t_or (t_test (e_neOwn (i := 7) (daLst (daTp (daCons daStr (daCons daStr (daOne daInt))))) (Nat.le_of_ble_eq_true rfl) rfl frz_lst (e_get (e_call (ar_one (e_ixL (lv_own (i := 4) rfl) (e_var (i := 5) rfl))))))) (t_not (t_B (e_lend2 (i := 7) (wv := id) free_bl rfl frz_lst (e_ixL (lv_own (i := 4) rfl) (e_var (i := 5) rfl)))))))
  (s_retP e_bl)
  (s_wk (G := [any, own p cBag (), own p2 (cLst rStr) z10.1.2.1, own p5 (cLst rStr) z10.2.2.1, own p8 (cLst (rDct (Sum.inr : Str → Key) rInt)) worlds9, val rInt a15, val (rDct (Sum.inr : Str → Key) rInt) handed16, own p18 (cLst (rTp K (rCons rStr (rCons rStr (rOne rInt))))) told17]) (g := fun _ => ()) s_nil (fun _ => (Sub.keep (Sub.keep (Sub.keep (Sub.keep (Sub.keep (Sub.keep (Sub.keep (Sub.keep Sub.nil))))))))))) fun x21 =>
  (s_seq (s_app (i := 7) rfl (e_tup (ar_cons e_str (ar_cons e_str (ar_one e_int))) (Nat.le_of_ble_eq_true rfl))) fun y24 =>
  (s_wk (G := [any, own p cBag (), own p2 (cLst rStr) z10.1.2.1, own p5 (cLst rStr) z10.2.2.1, own p8 (cLst (rDct (Sum.inr : Str → Key) rInt)) worlds9, val rInt a15, val (rDct (Sum.inr : Str → Key) rInt) handed16, own p18 (cLst (rTp K (rCons rStr (rCons rStr (rOne rInt))))) (told17 ++ [y24])]) (g := fun (x25 : Unit) => ()) (s_if (Gn := (fun x25 : Unit => [any, own p cBag (), own p2 (cLst rStr) z10.1.2.1, own p5 (cLst rStr) z10.2.2.1, own p8 (cLst (rDct (Sum.inr : Str → Key) rInt)) worlds9, val rInt a15, val (rDct (Sum.inr : Str → Key) rInt) handed16, own p18 (cLst (rTp K (rCons rStr (rCons rStr (rOne rInt))))) (told17 ++ [y24])])) (t_or (t_test (e_op (o_neDA (fun a c h => Sum.inr.inj h)) (e_var (i := 6) rfl) (e_ixL (lv_own (i := 4) rfl) (e_var (i := 5) rfl)))) (t_test (e_op (o_neD (daLst daStr) (Nat.le_of_ble_eq_true rfl)) (e_new (en_listD ks_str (dv_e (e_var (i := 6) rfl)))) (e_new (en_listD ks_str (dv_e (e_ixL (lv_own (i := 4) rfl) (e_var (i := 5) rfl))))))))
  (s_retP e_bl)
  (s_wk (G := [any, own p cBag (), own p2 (cLst rStr) z10.1.2.1, own p5 (cLst rStr) z10.2.2.1, own p8 (cLst (rDct (Sum.inr : Str → Key) rInt)) worlds9, val rInt a15, val (rDct (Sum.inr : Str → Key) rInt) handed16, own p18 (cLst (rTp K (rCons rStr (rCons rStr (rOne rInt))))) (told17 ++ [y24])]) (g := fun _ => ()) s_nil (fun _ => (Sub.keep (Sub.keep (Sub.keep (Sub.keep (Sub.keep (Sub.keep (Sub.keep (Sub.keep Sub.nil))))))))))) (fun (x25 : Unit) => (Sub.keep (Sub.keep (Sub.keep (Sub.keep (Sub.keep (Sub.drop (Sub.drop (Sub.drop Sub.nil)))))))))))))))) fun x12 =>
  (s_retP e_bl))))) (fun d h => h)) (by
    have h := math
    unfold W_law at h
    dsimp only at h ⊢
    exact h)
end
end Mi
/-! K47Math -/
set_option Elab.async false
set_option linter.all false
set_option maxRecDepth 100000
set_option maxHeartbeats 4000000
namespace Mi
open PySem PySem.Spec L2 Dh
theorem pick {m : Int} {k : Int → Prop} (m0 : 0 < m) (m1 : m < 1073741824) (q : ∀ r, 0 ≤ r → r < m → k r) : W_l_pick m k := ⟨m0, m1, q⟩
theorem sz {n : Nat} (h : n < 100000) : n < sizeLine := Nat.lt_of_lt_of_le h (by decide)
theorem szl {n : Nat} (h : n ≤ 100000) : n ≤ sizeLine := Nat.le_trans h (by decide)
theorem letters_lt {c : Nat} (h : c ∈ letters) : c < 1114112 := by
  have : ∀ c ∈ letters, c < 1114112 := by decide +kernel
  exact this c h
theorem nm_strOk {s : Str} (h : NameOk s) : PyData.strOk s = true := by
  unfold PyData.strOk
  rw [← Array.all_toList, List.all_eq_true]
  intro c hc
  exact decide_eq_true (letters_lt (h.ls c hc))
/-! ### dicts -/
section
variable {κ α : Type} [DecidableEq κ]
theorem dGet_none {xs : List (κ × α)} {k : κ} (h : k ∉ xs.map Prod.fst) : dGet xs k = none := by
  unfold dGet
  rw [Option.map_eq_none_iff, List.find?_eq_none]
  intro p hp z
  exact h (by rw [← of_decide_eq_true z]; exact List.mem_map_of_mem hp)
theorem dGet_some {xs : List (κ × α)} {k : κ} (h : k ∈ xs.map Prod.fst) : ∃ v, dGet xs k = some v := by
  obtain ⟨p, hp, e⟩ := List.mem_map.mp h
  cases q : dGet xs k with
  | some v => exact ⟨v, rfl⟩
  | none =>
    unfold dGet at q
    rw [Option.map_eq_none_iff, List.find?_eq_none] at q
    exact absurd (decide_eq_true e) (q p hp)
theorem dPut_new {xs : List (κ × α)} {k : κ} {v : α} (h : k ∉ xs.map Prod.fst) : dPut xs k v = xs ++ [(k, v)] := by
  unfold dPut
  rw [if_neg]
  intro z
  obtain ⟨y, hy, e⟩ := List.any_eq_true.mp z
  exact h (by rw [← of_decide_eq_true e]; exact List.mem_map_of_mem hy)
theorem dPut_keys {xs : List (κ × α)} {k : κ} {v : α} (h : k ∈ xs.map Prod.fst) : (dPut xs k v).map Prod.fst = xs.map Prod.fst := by
  unfold dPut
  rw [if_pos]
  · rw [List.map_map]
    refine List.map_congr_left fun p _ => ?_
    show (if p.1 = k then (p.1, v) else p).1 = p.1
    split <;> rfl
  · obtain ⟨p, hp, e⟩ := List.mem_map.mp h
    exact List.any_eq_true.mpr ⟨p, hp, decide_eq_true e⟩
end
abbrev T3 := Str × Str × Int
/-- one transfer -/
def app (m : Dt) (t : T3) : Dt := let m1 := dPut m t.1 ((dGet m t.1).getD 0 - t.2.2); dPut m1 t.2.1 ((dGet m1 t.2.1).getD 0 + t.2.2)
def bad (ks : List Str) : List T3 → Option Str
  | [] => none
  | t :: ts => if t.1 ∉ ks then some t.1 else if t.2.1 ∉ ks then some t.2.1 else bad ks ts
def sumsF (m : Dt) (ts : List T3) : Tu := match bad (m.map Prod.fst) ts with
  | some x => .s x
  | none => .d (ts.foldl app m)
theorem app_keys {m : Dt} {t : T3} (h1 : t.1 ∈ m.map Prod.fst) (h2 : t.2.1 ∈ m.map Prod.fst) : (app m t).map Prod.fst = m.map Prod.fst := by
  unfold app
  have e := dPut_keys (v := (dGet m t.1).getD 0 - t.2.2) h1
  show (dPut _ _ _).map Prod.fst = _
  rw [dPut_keys (by rw [e]; exact h2), e]
theorem bad_drop {ks : List Str} {ts : List T3} {i : Nat} {t : T3} (h : ts[i]? = some t) : bad ks (ts.drop i) = if t.1 ∉ ks then some t.1 else if t.2.1 ∉ ks then some t.2.1 else bad ks (ts.drop (i + 1)) := by
  have hi := (List.getElem?_eq_some_iff.mp h).1
  have e : ts.drop i = t :: ts.drop (i + 1) := by
    rw [List.drop_eq_getElem_cons hi]
    congr 1
    exact Option.some.inj ((List.getElem?_eq_getElem hi).symm.trans h)
  rw [e]; rfl
theorem fold_take {ts : List T3} {m : Dt} {i : Nat} {t : T3} (h : ts[i]? = some t) : (ts.take (i + 1)).foldl app m = app ((ts.take i).foldl app m) t := by
  rw [List.take_add_one, h, List.foldl_append]; rfl
/-- balances -/
structure Bal (m : Dt) : Prop where
  nd : (m.map Prod.fst).Nodup
  hi : m.length ≤ 100
  nm : ∀ x ∈ m.map Prod.fst, NameOk x
  ne : 0 < m.length
theorem step_ok {m : Dt} {t : T3} (h1 : t.1 ∈ m.map Prod.fst) (h2 : t.2.1 ∈ m.map Prod.fst) : ∃ v, dGet m t.1 = some v ∧ ∃ u, dGet (dPut m t.1 (v - t.2.2)) t.2.1 = some u ∧ dPut (dPut m t.1 (v - t.2.2)) t.2.1 (u + t.2.2) = app m t := by
  obtain ⟨v, hv⟩ := dGet_some h1
  have e := dPut_keys (v := v - t.2.2) h1
  obtain ⟨u, hu⟩ := dGet_some (xs := dPut m t.1 (v - t.2.2)) (k := t.2.1) (by rw [e]; exact h2)
  refine ⟨v, hv, u, hu, ?_⟩
  unfold app
  simp only [hv, Option.getD_some, hu]
theorem len_keys {m m' : Dt} (h : m.map Prod.fst = m'.map Prod.fst) : m.length = m'.length := by
  have := congrArg List.length h
  rwa [List.length_map, List.length_map] at this
theorem put_len {m : Dt} {k : Str} {v : Int} (h : k ∈ m.map Prod.fst) : (dPut m k v).length = m.length := len_keys (dPut_keys h)
theorem wp_made {m : Dt} {ts : List T3} {k : Dt → Prop} {kx : Str → Prop} (B : Bal m) (q : bad (m.map Prod.fst) ts = none → k (ts.foldl app m)) (qx : ∀ x, bad (m.map Prod.fst) ts = some x → kx x) : W_made m ts k kx := by
  unfold W_made
  have hB := B.hi
  have chk : ∀ {a : Str} {k : Unit → Prop} {kx : Str → Prop}, (a ∈ m.map Prod.fst → k ()) → (a ∉ m.map Prod.fst → kx a) → W_check_office (m.map Prod.fst) a k kx := fun {a k kx} h1 h2 => by
    unfold W_check_office
    refine ⟨fun h => h2 (by simpa using h), fun h => h1 (by simpa using h)⟩
  refine ⟨fun i _ => bad (m.map Prod.fst) ts = bad (m.map Prod.fst) (ts.drop i) ∧ ∀ t ∈ ts.take i, t.1 ∈ m.map Prod.fst ∧ t.2.1 ∈ m.map Prod.fst, ⟨rfl, fun t h => by simp at h⟩, fun i t _ ht ⟨h3, h4⟩ => ?_, fun _ ⟨h3, h4⟩ => ?_⟩
  · rw [bad_drop ht] at h3
    refine chk (fun p1 => chk (fun p2 => ?_) fun p2 => ?_) fun p1 => ?_
    · rw [if_neg (fun z => z p1), if_neg (fun z => z p2)] at h3
      refine ⟨h3, fun s hs => ?_⟩
      rw [List.take_add_one, ht] at hs
      rcases List.mem_append.mp hs with h | h
      · exact h4 s h
      · have : s = t := by simpa using h
        subst this; exact ⟨p1, p2⟩
    · rw [if_neg (fun z => z p1), if_pos p2] at h3
      exact qx _ h3
    · rw [if_pos p1] at h3
      exact qx _ h3
  · rw [List.drop_length] at h3
    rw [List.take_length] at h4
    refine ⟨B.nd, sz (by omega), fun i x => x = (ts.take i).foldl app m ∧ x.map Prod.fst = m.map Prod.fst, ⟨rfl, rfl⟩, fun i t x ht ⟨h1, h2⟩ => ?_, fun x ⟨h1, h2⟩ => ?_⟩
    · obtain ⟨p1, p2⟩ := h4 t (List.mem_of_getElem? ht)
      have hl := len_keys h2
      obtain ⟨v, hv, u, hu, e⟩ := step_ok (m := x) (t := t) (by rw [h2]; exact p1) (by rw [h2]; exact p2)
      refine ⟨v, hv, sz (by omega), u, hu, sz (by show (dPut x t.1 (v - t.2.2)).length < _; rw [put_len (by rw [h2]; exact p1)]; omega), ?_⟩
      show dPut (dPut x t.1 (v - t.2.2)) t.2.1 (u + t.2.2) = _ ∧ (dPut (dPut x t.1 (v - t.2.2)) t.2.1 (u + t.2.2)).map Prod.fst = _
      rw [e]
      exact ⟨by rw [fold_take ht, ← h1], by rw [app_keys (by rw [h2]; exact p1) (by rw [h2]; exact p2), h2]⟩
    · rw [h1, List.take_length]; exact q h3
end Mi
/-! K47Math2 -/
set_option Elab.async false
set_option linter.all false
set_option maxRecDepth 100000
set_option maxHeartbeats 1000000
namespace Mi
open PySem PySem.Spec L2 Dh
open PyProof.Rows (itemOrd lexLt lex_irrefl lex_trans lex_total)
open PySem.W (dataLt keyToks keyToksAll alike alikeAll)
theorem nott {p : Prop} {c : Bool} (h : c = false) : c = true → p := fun z => by rw [h] at z; cases z
theorem notf {p : Prop} {c : Bool} (h : c = true) : c = false → p := fun z => by rw [h] at z; cases z
/-! the order -/
abbrev dT : T3 → PyData := dxTp (dxCons PyData.str (dxCons PyData.str (dxOne PyData.int)))
abbrev dL : List T3 → PyData := dxLst dT
abbrev ltS (a b : Str) : Bool := ltX PyData.str a b
abbrev ltT (a b : T3) : Bool := ltX dT a b
abbrev ltL (a b : List T3) : Bool := ltX dL a b
abbrev K0 : PySem.W.Frag := []
/-- a strict order of data -/
structure Tot {α : Type} [DecidableEq α] (f : α → PyData) : Prop where
  al : ∀ a b, alike (f a) (f b) = true
  eq : ∀ a b, PyData.eqv (f a) (f b) = decide (a = b)
theorem totS : Tot PyData.str := ⟨fun _ _ => rfl, (daStr (K := K0)).eq⟩
theorem totT : Tot dT := ⟨fun _ _ => rfl, (daTp (K := K0) (daCons daStr (daCons daStr (daOne daInt)))).eq⟩
theorem totL : Tot dL := ⟨(alLst (K := K0) (alTp (alCons alStr (alCons alStr (alOne alInt))))).al, (daLst (K := K0) (daTp (daCons daStr (daCons daStr (daOne daInt))))).eq⟩
section
variable {α : Type} [DecidableEq α] {f : α → PyData}
theorem lt_irr (a : α) : ltX f a a = false := lex_irrefl _
theorem lt_tr {a b c : α} (h1 : ltX f a b = true) (h2 : ltX f b c = true) : ltX f a c = true := lex_trans _ _ _ h1 h2
theorem lt_tot (T : Tot f) {a b : α} (h1 : ltX f a b = false) (h2 : ltX f b a = false) : a = b := by
  have e := lex_total _ _ h1 h2
  by_cases q : a = b
  · exact q
  · have ev : PyData.eqv (f a) (f b) = false := by rw [T.eq, decide_eq_false q]
    have h := (PySem.W.toks_eqv (f a) (f b) (T.al a b)).2 ev [] [.inl 0]
    rw [e, PySem.W.lex_pre, lex_irrefl] at h
    cases h
theorem lt_or (T : Tot f) {a b : α} (n : a ≠ b) (h : ltX f a b = false) : ltX f b a = true := by
  cases e : ltX f b a with
  | true => rfl
  | false => exact absurd (lt_tot T h e) n
theorem lt_as {a b : α} (h : ltX f a b = true) : ltX f b a = false := by
  cases e : ltX f b a with
  | false => rfl
  | true => have := lt_tr (f := f) h e; rw [lt_irr] at this; cases this
end
theorem ltL_cons (x y : T3) (p q : List T3) : ltL (x :: p) (y :: q) = if x = y then ltL p q else ltT x y := by
  have h := PySem.W.dataLt_cons (totT.al x y) (p.map dT) (q.map dT)
  rw [totT.eq] at h
  show dataLt (.list (dT x :: p.map dT)) (.list (dT y :: q.map dT)) = _
  rw [PySem.W.dataLt_list, h]
  by_cases e : x = y
  · rw [if_pos (decide_eq_true e), if_pos e]
    show _ = dataLt (.list _) (.list _)
    rw [PySem.W.dataLt_list]
  · rw [if_neg (by rw [decide_eq_false e]; decide), if_neg e]; rfl
theorem ltT_eq (g t g' t' : Str) (a a' : Int) : ltT (g, t, a) (g', t', a') = if g = g' then (if t = t' then decide (a < a') else ltS t t') else ltS g g' := by
  have h := PySem.W.dataLt_cons (totS.al g g') [.str t, .int a] [.str t', .int a']
  have h2 := PySem.W.dataLt_cons (totS.al t t') [.int a] [.int a']
  have h3 := PySem.W.dataLt_cons (show alike (.int a) (.int a') = true from rfl) [] []
  rw [totS.eq] at h h2
  show dataLt (.tuple [.str g, .str t, .int a]) (.tuple [.str g', .str t', .int a']) = _
  rw [PySem.W.dataLt_tuple, h]
  by_cases e : g = g'
  · rw [if_pos (decide_eq_true e), if_pos e, h2]
    by_cases e2 : t = t'
    · rw [if_pos (decide_eq_true e2), if_pos e2, h3, PySem.W.dataLt_int]
      by_cases e3 : a = a'
      · subst e3
        rw [if_pos (show PyData.eqv (.int a) (.int a) = true from beq_self_eq_true a), lex_irrefl, decide_eq_false (Int.lt_irrefl a)]
      · rw [if_neg (show ¬ PyData.eqv (.int a) (.int a') = true from fun z => e3 (eq_of_beq z))]
    · rw [if_neg (by rw [decide_eq_false e2]; decide), if_neg e2]; rfl
  · rw [if_neg (by rw [decide_eq_false e]; decide), if_neg e]; rfl
/-! names in ascending order -/
abbrev Srt (xs : List Str) : Prop := xs.Pairwise fun a b => ltS a b = true
theorem wp_asc {xs : List Str} {k : List Str → Prop} (hl : xs.length ≤ 1000) (nd : xs.Nodup) (q : ∀ ys, Srt ys → (∀ y, y ∈ ys ↔ y ∈ xs) → ys.length = xs.length → k ys) : W_ascending xs k := by
  unfold W_ascending
  refine ⟨fun i ys => Srt ys ∧ (∀ y, y ∈ ys ↔ y ∈ xs.take i) ∧ ys.length = i, ⟨.nil, fun y => by simp, rfl⟩, fun i x ys hx h => ?_, fun ys h => ?_⟩
  · obtain ⟨hs, hm, hn⟩ := h
    have hi := (List.getElem?_eq_some_iff.mp hx).1
    have nx : x ∉ ys := fun z => by
      rw [hm] at z
      have e : xs.take (i + 1) = xs.take i ++ [x] := by rw [List.take_add_one, hx]; rfl
      have := nd.sublist (List.take_sublist (i + 1) xs)
      rw [e] at this
      exact (List.nodup_append.mp this).2.2 x z x (List.mem_singleton.mpr rfl) rfl
    refine ⟨fun n a => (n : Int) = a ∧ 0 ≤ a ∧ a ≤ ys.length ∧ ∀ (j : Nat) y, a ≤ j → ys[j]? = some y → ltS x y = true, ⟨ys.length, rfl, by omega, by omega, fun j y h1 h2 => absurd (List.getElem?_eq_some_iff.mp h2).1 (by omega)⟩, fun n a ⟨h0, h1, h2, h3⟩ => ?_⟩
    have fin : (∀ y, 0 < a → ys[(a - 1).toNat]? = some y → ltS x y = false) → (fun x9 : Int => (ys.length < sizeLine ∧ 0 ≤ x9 ∧ x9 < 2 ^ 63) ∧ let y13 : Int × Str := (x9, x); (fun (zs : List Str) => Srt zs ∧ (∀ y, y ∈ zs ↔ y ∈ xs.take (i + 1)) ∧ zs.length = i + 1) (ys.take y13.1.toNat ++ [y13.2] ++ ys.drop y13.1.toNat)) a := fun hf => by
      refine ⟨⟨sz (by omega), h1, by omega⟩, ?_, fun y => ?_, ?_⟩
      · have hsp : Srt (ys.take a.toNat ++ ys.drop a.toNat) := by rw [List.take_append_drop]; exact hs
        obtain ⟨p1, p2, p3⟩ := List.pairwise_append.mp hsp
        have lo : ∀ y ∈ ys.take a.toNat, ltS y x = true := fun y hy => by
          obtain ⟨j, hj⟩ := List.mem_iff_getElem?.mp hy
          have hj2 := (List.getElem?_eq_some_iff.mp hj).1
          rw [List.length_take] at hj2
          rw [List.getElem?_take_of_lt (by omega)] at hj
          obtain ⟨z, hz⟩ : ∃ z, ys[(a - 1).toNat]? = some z := ⟨_, List.getElem?_eq_getElem (by omega)⟩
          have hzx := lt_or totS (fun e => nx (by rw [e]; exact List.mem_of_getElem? hz)) (hf z (by omega) hz)
          by_cases e : j = (a - 1).toNat
          · rw [e, hz] at hj; cases hj; exact hzx
          · have hyz : ltS y z = true := by
              have h1 := (List.getElem?_eq_some_iff.mp hj)
              have h2 := (List.getElem?_eq_some_iff.mp hz)
              have := (List.pairwise_iff_getElem.mp hs) j (a - 1).toNat h1.1 h2.1 (by omega)
              rw [h1.2, h2.2] at this; exact this
            exact lt_tr hyz hzx
        have hi2 : ∀ y ∈ ys.drop a.toNat, ltS x y = true := fun y hy => by
          obtain ⟨j, hj⟩ := List.mem_iff_getElem?.mp hy
          rw [List.getElem?_drop] at hj
          exact h3 (a.toNat + j) y (by omega) hj
        rw [List.append_assoc]
        refine List.pairwise_append.mpr ⟨p1, List.pairwise_cons.mpr ⟨hi2, p2⟩, fun y hy z hz => ?_⟩
        rcases List.mem_cons.mp hz with e | e
        · rw [e]; exact lo y hy
        · exact p3 y hy z e
      · have e : xs.take (i + 1) = xs.take i ++ [x] := by rw [List.take_add_one, hx]; rfl
        show y ∈ ys.take a.toNat ++ [x] ++ ys.drop a.toNat ↔ _
        rw [e, List.mem_append (s := xs.take i), ← hm]
        have : y ∈ ys ↔ y ∈ ys.take a.toNat ∨ y ∈ ys.drop a.toNat := by rw [← List.mem_append, List.take_append_drop]
        rw [this]
        simp only [List.mem_append, List.mem_singleton]
        constructor
        · rintro ((h | h) | h)
          · exact .inl (.inl h)
          · exact .inr h
          · exact .inl (.inr h)
        · rintro ((h | h) | h)
          · exact .inl (.inl h)
          · exact .inr h
          · exact .inl (.inr h)
      · show (ys.take a.toNat ++ [x] ++ ys.drop a.toNat).length = i + 1
        simp only [List.length_append, List.length_take, List.length_drop, List.length_singleton]
        omega
    refine ⟨fun z => ?_, fun z => ?_⟩
    · have za : a > 0 := of_decide_eq_true z
      obtain ⟨y, hy, ey⟩ := atI_lt (xs := ys) (i := a - 1) (by omega) (by omega)
      refine ⟨y, hy, fun c => ?_, fun c => ?_⟩
      · refine ⟨n - 1, by omega, by omega, by omega, by omega, fun j z hj hz => ?_⟩
        by_cases e : (j : Int) = a - 1
        · have : j = (a - 1).toNat := by omega
          rw [this, ey] at hz; cases hz; exact c
        · exact h3 j z (by omega) hz
      · exact fin fun z _ hz => by rw [ey] at hz; cases hz; exact c
    · have za : ¬ a > 0 := of_decide_eq_false z
      exact ⟨nott rfl, fun _ => fin fun y h => absurd h za⟩
  · obtain ⟨hs, hm, hn⟩ := h
    rw [List.take_length] at hm
    exact q ys hs hm hn
end Mi
/-! WpL -/
set_option Elab.async false
set_option linter.all false
set_option maxRecDepth 100000
set_option maxHeartbeats 400000
/-! loops that build a list item by item -/
namespace Mi
open PySem PySem.Spec L2 Dh
theorem comp_is {α β : Type} {xs : List α} {f : α → β} {B : α → List β → (List β → Prop) → Prop} {k : List β → Prop} (hB : ∀ (i : Nat) (a : α) (acc : List β) (n : List β → Prop), xs[i]? = some a → acc.length = i → n (acc ++ [f a]) → B a acc n) (q : k (xs.map f)) : compP xs B k := by
  refine ⟨fun i acc => acc = (xs.take i).map f, rfl, fun i a acc ha hacc => hB i a acc _ ha ?_ ?_, fun acc hacc => ?_⟩
  · have hl := (List.getElem?_eq_some_iff.mp ha).1
    rw [show acc = _ from hacc, List.length_map, List.length_take]; omega
  · show acc ++ [f a] = (xs.take (i + 1)).map f
    rw [show acc = _ from hacc, List.take_add_one, ha, List.map_append]; rfl
  · rw [show acc = (xs.take xs.length).map f from hacc, List.take_length]; exact q
theorem for_is {α β : Type} {xs : List α} {f : α → β} {B : α → List β → (List β → Prop) → Prop} {k : List β → Prop} (hB : ∀ (i : Nat) (a : α) (acc : List β) (n : List β → Prop), xs[i]? = some a → acc.length = i → n (acc ++ [f a]) → B a acc n) (q : k (xs.map f)) : forP xs [] B k := comp_is hB q
end Mi
/-! K47Math3 -/
set_option Elab.async false
set_option linter.all false
set_option maxRecDepth 100000
set_option maxHeartbeats 1000000
namespace Mi
open PySem PySem.Spec L2 Dh
theorem for_flat {α β : Type} {xs : List α} {f : α → List β} {x0 : List β} {B : α → List β → (List β → Prop) → Prop} {k : List β → Prop}
    (hB : ∀ a ∈ xs, ∀ (x : List β) (n : List β → Prop), x.length ≤ x0.length + (xs.flatMap f).length → n (x ++ f a) → B a x n) (q : k (x0 ++ xs.flatMap f)) : forP xs x0 B k := by
  refine ⟨fun i x => x = x0 ++ (xs.take i).flatMap f, by simp, fun i a x ha hx => ?_, fun x hx => ?_⟩
  · refine hB a (List.mem_of_getElem? ha) x _ ?_ ?_
    · rw [show x = _ from hx, List.length_append]
      have e : xs.flatMap f = (xs.take i).flatMap f ++ (xs.drop i).flatMap f := by rw [← List.flatMap_append, List.take_append_drop]
      rw [e, List.length_append]; omega
    · show x ++ f a = _
      rw [show x = _ from hx, List.take_add_one, ha, List.flatMap_append, List.append_assoc]
      simp
  · rw [show x = _ from hx, List.take_length]; exact q
theorem len_flat {α β : Type} {f : α → List β} {c : Nat} : ∀ {xs : List α}, (∀ a ∈ xs, (f a).length ≤ c) → (xs.flatMap f).length ≤ xs.length * c
  | [], _ => Nat.zero_le _
  | x :: xs, h => by
    rw [List.flatMap_cons, List.length_append, List.length_cons, Nat.add_mul, Nat.one_mul]
    have := h x List.mem_cons_self
    have := len_flat (xs := xs) fun a ha => h a (List.mem_cons_of_mem _ ha)
    omega
abbrev ky (m : Dt) : List Str := m.map Prod.fst
def bal (m : Dt) (g : Str) : Int := (dGet m g).getD 0
theorem bal_is {m : Dt} {g : Str} (h : g ∈ ky m) : dGet m g = some (bal m g) := by
  obtain ⟨v, e⟩ := dGet_some h
  unfold bal; rw [e]; rfl
def mn (a b : Int) : Int := if a < b then a else b
def tt (m : Dt) (g t : Str) : List T3 := if (decide (bal m g > 0) && decide (-bal m t > 0)) = true then [(g, t, mn (bal m g) (-bal m t))] else []
def trO (m : Dt) (ns : List Str) : List T3 := ns.flatMap fun g => ns.flatMap fun t => tt m g t
abbrev nx (m : Dt) : List T3 := trO m (ky m)
theorem tt_len {m : Dt} {g t : Str} : (tt m g t).length ≤ 1 := by unfold tt; split <;> simp
theorem tr_len {m : Dt} {ns : List Str} : (trO m ns).length ≤ ns.length * ns.length := len_flat fun g _ => by
  have := len_flat (xs := ns) (f := fun t => tt m g t) (c := 1) fun t _ => tt_len
  omega
theorem tr_mem {m : Dt} {ns : List Str} {x : T3} : x ∈ trO m ns ↔ x.1 ∈ ns ∧ x.2.1 ∈ ns ∧ bal m x.1 > 0 ∧ bal m x.2.1 < 0 ∧ x.2.2 = mn (bal m x.1) (-bal m x.2.1) := by
  unfold trO
  rw [List.mem_flatMap]
  constructor
  · rintro ⟨g, hg, h⟩
    obtain ⟨t, ht, h⟩ := List.mem_flatMap.mp h
    unfold tt at h
    split at h
    · rename_i c
      rw [List.mem_singleton.mp h]
      rw [Bool.and_eq_true, decide_eq_true_iff, decide_eq_true_iff] at c
      exact ⟨hg, ht, c.1, by show bal m t < 0; omega, rfl⟩
    · cases h
  · rintro ⟨h1, h2, h3, h4, h5⟩
    refine ⟨x.1, h1, List.mem_flatMap.mpr ⟨x.2.1, h2, ?_⟩⟩
    unfold tt
    rw [if_pos (by rw [Bool.and_eq_true, decide_eq_true_iff, decide_eq_true_iff]; omega), ← h5]
    exact List.mem_singleton.mpr rfl
theorem wp_next {m : Dt} {k : List T3 → Prop} (B : Bal m) (q : k (nx m)) : W_l_next m k := by
  have hl := B.hi
  have kl : (ky m).length = m.length := List.length_map ..
  unfold W_l_next
  refine for_flat (f := fun g => (ky m).flatMap fun t => tt m g t) (fun g hg x n hx hn => ?_) (by rw [List.nil_append]; exact q)
  have hx : x.length ≤ 0 + (trO m (ky m)).length := hx
  have t1 := tr_len (m := m) (ns := ky m)
  have sq : (ky m).length * (ky m).length ≤ 100 * 100 := Nat.mul_le_mul (by omega) (by omega)
  refine for_flat (f := fun t => tt m g t) (fun t ht y n2 hy hn2 => ?_) hn
  have hy2 := len_flat (xs := ky m) (f := fun t => tt m g t) (c := 1) fun t _ => tt_len
  have hy : y.length ≤ x.length + ((ky m).flatMap fun t => tt m g t).length := hy
  have fin : y.length < sizeLine := sz (by omega)
  have no : (decide (bal m g > 0) && decide (-bal m t > 0)) = false → n2 y := fun z => by
    have : tt m g t = [] := by unfold tt; rw [if_neg (by rw [z]; decide)]
    rw [this, List.append_nil] at hn2; exact hn2
  refine ⟨bal m g, bal_is hg, fun c1 => ⟨bal m t, bal_is ht, fun c2 => ⟨_, bal_is hg, _, bal_is ht, Nat.zero_lt_succ _, fun mm h1 h2 => ⟨fin, ?_⟩⟩, fun c2 => no ?_⟩, fun c1 => ⟨nott rfl, fun _ => no ?_⟩⟩
  · have c1 := of_decide_eq_true c1
    have c2 := of_decide_eq_true c2
    have e : tt m g t = [(g, t, mm)] := by
      unfold tt
      rw [if_pos (by rw [Bool.and_eq_true, decide_eq_true_iff, decide_eq_true_iff]; omega)]
      have : mm = mn (bal m g) (-bal m t) := by
        have a1 := h2 _ List.mem_cons_self
        have a2 := h2 (-bal m t) (List.mem_cons_of_mem _ List.mem_cons_self)
        unfold mn
        simp only [List.mem_cons, List.not_mem_nil, or_false] at h1
        rcases h1 with h1 | h1 <;> split <;> omega
      rw [this]
    rw [e] at hn2; exact hn2
  · have c2 := of_decide_eq_false c2
    rw [decide_eq_false (p := -bal m t > 0) (by omega), Bool.and_false]
  · rw [c1, Bool.false_and]
theorem wp_tr {m : Dt} {k : List T3 → Prop} (B : Bal m) (q : ∀ ys, Srt ys → (∀ y, y ∈ ys ↔ y ∈ ky m) → k (trO m ys)) : W_transfers_of m k := by
  have hl := B.hi
  have kl : (ky m).length = m.length := List.length_map ..
  unfold W_transfers_of
  refine wp_asc (by rw [kl]; omega) B.nd fun ys hs hm hn => ?_
  have hmm : ∀ g ∈ ys, g ∈ ky m := fun g h => (hm g).mp h
  have yl : ys.length ≤ 100 := by rw [hn, kl]; exact hl
  refine for_flat (f := fun g => ys.flatMap fun t => tt m g t) (fun g hg x n hx hn => ?_) (by rw [List.nil_append]; exact q ys hs hm)
  have hx : x.length ≤ 0 + (trO m ys).length := hx
  have t1 := tr_len (m := m) (ns := ys)
  have sq : ys.length * ys.length ≤ 100 * 100 := Nat.mul_le_mul (by omega) (by omega)
  refine for_flat (f := fun t => tt m g t) (fun t ht y n2 hy hn2 => ?_) hn
  have hy2 := len_flat (xs := ys) (f := fun t => tt m g t) (c := 1) fun t _ => tt_len
  have fin : y.length < sizeLine := sz (by omega)
  refine ⟨bal m g, bal_is (hmm g hg), bal m t, bal_is (hmm t ht), fun c => ?_, fun c => ?_⟩
  · have e : tt m g t = [(g, t, mn (bal m g) (-bal m t))] := by unfold tt; rw [if_pos c]
    rw [e] at hn2
    refine ⟨fun z => ⟨fin, ?_⟩, fun z => ⟨fin, ?_⟩⟩
    · have z : bal m g < -bal m t := of_decide_eq_true z
      unfold mn at hn2; rw [if_pos z] at hn2; exact hn2
    · have z : ¬ bal m g < -bal m t := of_decide_eq_false z
      unfold mn at hn2; rw [if_neg z] at hn2; exact hn2
  · have e : tt m g t = [] := by unfold tt; rw [if_neg (by rw [c]; decide)]
    rw [e, List.append_nil] at hn2; exact hn2
theorem wp_behind {m : Dt} {t : T3} {k : Dt → Prop} (B : Bal m) (h1 : t.1 ∈ ky m) (h2 : t.2.1 ∈ ky m) (q : k (app m t)) : W_l_behind m t k := by
  obtain ⟨v, hv, u, hu, e⟩ := step_ok h1 h2
  have hl := B.hi
  unfold W_l_behind
  refine ⟨v, hv, sz (by omega), u, hu, ?_, ?_⟩
  · show (dPut m t.1 (v - t.2.2)).length < _
    rw [put_len h1]; exact sz (by omega)
  · show k (dPut (dPut m t.1 (v - t.2.2)) t.2.1 (u + t.2.2))
    rw [e]; exact q
theorem bal_app {m : Dt} {t : T3} (B : Bal m) (h1 : t.1 ∈ ky m) (h2 : t.2.1 ∈ ky m) : Bal (app m t) := by
  have e := app_keys h1 h2
  have l := len_keys e
  exact ⟨by rw [e]; exact B.nd, by rw [l]; exact B.hi, by rw [e]; exact B.nm, by rw [l]; exact B.ne⟩
theorem dget_mem {m : Dt} (nd : (ky m).Nodup) {p : Str × Int} (h : p ∈ m) : bal m p.1 = p.2 := by
  induction m with
  | nil => cases h
  | cons a m ih =>
    have nd' := List.nodup_cons.mp (show (a.1 :: ky m).Nodup from nd)
    unfold bal dGet
    rw [List.find?_cons]
    rcases List.mem_cons.mp h with e | e
    · rw [e, decide_eq_true rfl]; rfl
    · have ne : ¬ a.1 = p.1 := fun z => nd'.1 (by rw [z]; exact List.mem_map_of_mem e)
      rw [decide_eq_false ne]
      exact ih nd'.2 e
theorem wp_opp {m : Dt} {k : Bool → Prop} (B : Bal m) (q : k (!(nx m).isEmpty)) : W_are_opposed m k := by
  have hl := B.hi
  have e : (!(nx m).isEmpty) = (((m.map (·.2)).map fun a => decide (a > (0 : Int))).any id && ((m.map (·.2)).map fun a => decide (a < (0 : Int))).any id) := by
    rw [Bool.eq_iff_iff, Bool.and_eq_true, List.any_eq_true, List.any_eq_true]
    constructor
    · intro h
      cases hx : nx m with
      | nil => rw [hx] at h; cases h
      | cons x r =>
        have := tr_mem.mp (show x ∈ trO m (ky m) by rw [show trO m (ky m) = x :: r from hx]; exact List.mem_cons_self)
        obtain ⟨h1, h2, h3, h4, _⟩ := this
        obtain ⟨p, hp, e1⟩ := List.mem_map.mp h1
        obtain ⟨r, hr, e2⟩ := List.mem_map.mp h2
        rw [← e1, dget_mem B.nd hp] at h3
        rw [← e2, dget_mem B.nd hr] at h4
        exact ⟨⟨_, List.mem_map_of_mem (List.mem_map_of_mem hp), decide_eq_true h3⟩, ⟨_, List.mem_map_of_mem (List.mem_map_of_mem hr), decide_eq_true h4⟩⟩
    · rintro ⟨⟨b, hb, h1⟩, ⟨c, hc, h2⟩⟩
      obtain ⟨v, hv, rfl⟩ := List.mem_map.mp hb
      obtain ⟨p, hp, rfl⟩ := List.mem_map.mp hv
      obtain ⟨u, hu, rfl⟩ := List.mem_map.mp hc
      obtain ⟨r, hr, rfl⟩ := List.mem_map.mp hu
      have h1 := of_decide_eq_true h1
      have h2 := of_decide_eq_true h2
      have : (p.1, r.1, mn (bal m p.1) (-bal m r.1)) ∈ nx m := tr_mem.mpr ⟨(show p.1 ∈ ky m from List.mem_map_of_mem hp), (show r.1 ∈ ky m from List.mem_map_of_mem hr), by show bal m p.1 > 0; rw [dget_mem B.nd hp]; exact h1, by show bal m r.1 < 0; rw [dget_mem B.nd hr]; exact h2, rfl⟩
      cases hx : nx m with
      | nil => rw [hx] at this; cases this
      | cons x r => rfl
  rw [e] at q
  unfold W_are_opposed
  refine ⟨szl (by rw [List.length_map]; omega), fun z => ⟨szl (by rw [List.length_map]; omega), ?_⟩, fun z => ?_⟩
  · rw [z, Bool.true_and] at q; exact q
  · rw [z, Bool.false_and] at q; exact q
end Mi
/-! K47Math4 -/
set_option Elab.async false
set_option linter.all false
set_option maxRecDepth 100000
set_option maxHeartbeats 1000000
namespace Mi
open PySem PySem.Spec L2 Dh
theorem mem_nx {m : Dt} {x : T3} (h : x ∈ nx m) : x.1 ∈ ky m ∧ x.2.1 ∈ ky m := ⟨(tr_mem.mp h).1, (tr_mem.mp h).2.1⟩
theorem bal_nx {m : Dt} {x : T3} (B : Bal m) (h : x ∈ nx m) : Bal (app m x) := bal_app B (mem_nx h).1 (mem_nx h).2
/-- every transfer is one of those that are due -/
def Vd : Dt → List T3 → Prop
  | _, [] => True
  | m, x :: p => x ∈ nx m ∧ Vd (app m x) p
theorem vd_bal : ∀ {p : List T3} {m : Dt}, Bal m → Vd m p → Bal (p.foldl app m)
  | [], _, B, _ => B
  | x :: p, m, B, h => vd_bal (p := p) (m := app m x) (bal_nx B h.1) h.2
theorem vd_snoc : ∀ {p : List T3} {m : Dt} {x : T3}, Vd m (p ++ [x]) ↔ Vd m p ∧ x ∈ nx (p.foldl app m)
  | [], m, x => by
    show (x ∈ nx m ∧ True) ↔ (True ∧ x ∈ nx m)
    exact and_comm
  | y :: p, m, x => by
    show (y ∈ nx m ∧ Vd (app m y) (p ++ [x])) ↔ ((y ∈ nx m ∧ Vd (app m y) p) ∧ _)
    rw [vd_snoc, and_assoc]; rfl
structure End (n : Nat) (m : Dt) (p : List T3) : Prop where
  vd : Vd m p
  ln : p.length = n
  no : nx (p.foldl app m) = []
theorem end_cons {n : Nat} {m : Dt} {x : T3} {p : List T3} : End (n + 1) m (x :: p) ↔ x ∈ nx m ∧ End n (app m x) p :=
  ⟨fun h => ⟨h.vd.1, h.vd.2, Nat.succ.inj h.ln, h.no⟩, fun ⟨h1, h2⟩ => ⟨⟨h1, h2.vd⟩, by rw [List.length_cons, h2.ln], h2.no⟩⟩
/-- the first of the lists with n transfers -/
def FB (n : Nat) (m : Dt) : Option (List T3) → Prop
  | none => ∀ p, ¬ End n m p
  | some p => End n m p ∧ ∀ q, End n m q → ltL q p = false
theorem tr_sorted {m : Dt} {ys : List Str} (h : Srt ys) : (trO m ys).Pairwise fun a b => ltT a b = true := by
  have one : ∀ {g t : Str} {x : T3}, x ∈ tt m g t → x.1 = g ∧ x.2.1 = t := fun {g t x} hx => by
    unfold tt at hx
    split at hx
    · rw [List.mem_singleton.mp hx]; exact ⟨rfl, rfl⟩
    · cases hx
  have ne : ∀ {a b : Str}, ltS a b = true → a ≠ b := fun {a b} h e => by
    have h : ltX PyData.str a b = true := h
    rw [e, lt_irr] at h; cases h
  unfold trO
  refine List.pairwise_flatMap.mpr ⟨fun g _ => List.pairwise_flatMap.mpr ⟨fun t _ => ?_, h.imp fun {a b} hab x hx y hy => ?_⟩, h.imp fun {a b} hab x hx y hy => ?_⟩
  · unfold tt; split
    · exact List.pairwise_singleton _ _
    · exact .nil
  · obtain ⟨x1, x2⟩ := one hx
    obtain ⟨y1, y2⟩ := one hy
    obtain ⟨xg, xt, xa⟩ := x
    obtain ⟨yg, yt, ya⟩ := y
    dsimp only at x1 x2 y1 y2
    subst x1; subst x2; subst y1; subst y2
    rw [ltT_eq, if_pos rfl, if_neg (ne hab)]; exact hab
  · obtain ⟨t, _, hx⟩ := List.mem_flatMap.mp hx
    obtain ⟨t2, _, hy⟩ := List.mem_flatMap.mp hy
    obtain ⟨x1, x2⟩ := one hx
    obtain ⟨y1, y2⟩ := one hy
    obtain ⟨xg, xt, xa⟩ := x
    obtain ⟨yg, yt, ya⟩ := y
    dsimp only at x1 x2 y1 y2
    subst x1; subst x2; subst y1; subst y2
    rw [ltT_eq, if_neg (ne hab)]; exact hab
theorem bad_ok {ks : List Str} : ∀ {ts : List T3}, (∀ t ∈ ts, t.1 ∈ ks ∧ t.2.1 ∈ ks) → bad ks ts = none
  | [], _ => rfl
  | t :: ts, h => by
    have h1 := h t List.mem_cons_self
    show (if t.1 ∉ ks then some t.1 else if t.2.1 ∉ ks then some t.2.1 else bad ks ts) = none
    rw [if_neg (fun z => z h1.1), if_neg (fun z => z h1.2)]
    exact bad_ok fun z hz => h z (List.mem_cons_of_mem _ hz)
theorem wp_first : ∀ (d n : Nat) (m : Dt) (k : Option (List T3) → Prop), Bal m → n < d → n ≤ 100 → (∀ r, FB n m r → k r) → W_first_listN d m (n : Int) k
  | 0, n, _, _, _, h, _, _ => absurd h (Nat.not_lt_zero n)
  | d + 1, n, m, k, B, hd, hn, hk => by
    show W_first_listB (W_first_listN d) m (n : Int) k
    unfold W_first_listB
    cases n with
    | zero =>
      refine ⟨fun _ => wp_opp B ⟨fun z => hk none fun p h => ?_, fun z => hk (some []) ⟨⟨trivial, rfl, ?_⟩, fun q h => ?_⟩⟩, fun z => ?_⟩
      · have : p = [] := List.eq_nil_of_length_eq_zero h.ln
        subst this
        have := h.no
        rw [show nx m = [] from this] at z; cases z
      · cases hx : nx m with
        | nil => exact hx
        | cons x r => rw [hx] at z; cases z
      · have : q = [] := List.eq_nil_of_length_eq_zero h.ln
        subst this
        exact lt_irr (f := dL) []
      · exact absurd z (by rw [decide_eq_true (p := ((0 : Nat) : Int) = 0) rfl]; decide)
    | succ j =>
      refine ⟨fun z => absurd (of_decide_eq_true z) (by omega), fun _ => wp_tr B fun ys hs hm => ?_⟩
      have mem : ∀ y : T3, y ∈ trO m ys ↔ y ∈ nx m := fun y => by rw [tr_mem, tr_mem, hm, hm]
      have srt := tr_sorted (m := m) hs
      refine ⟨fun i _ => ∀ x ∈ (trO m ys).take i, ∀ p, ¬ End j (app m x) p, fun x h => by simp at h, fun i x u hx hI => ?_, fun u hI => ?_⟩
      · have hxn := (mem x).mp (List.mem_of_getElem? hx)
        have kk := mem_nx hxn
        have bn : bad (ky m) [x] = none := bad_ok fun t ht => by rw [List.mem_singleton.mp ht]; exact kk
        refine wp_made B (fun _ => ?_) (fun e he => by rw [show m.map Prod.fst = ky m from rfl, bn] at he; cases he)
        show W_first_listN d (app m x) (((j + 1 : Nat) : Int) - 1) _
        rw [show ((j + 1 : Nat) : Int) - 1 = (j : Int) by omega]
        refine wp_first d j (app m x) _ (bal_nx B hxn) (by omega) (by omega) fun r hr => ?_
        cases r with
        | none =>
          refine ⟨nott rfl, fun _ y hy p hp => ?_⟩
          rw [List.take_add_one, hx] at hy
          rcases List.mem_append.mp hy with h | h
          · exact hI y h p hp
          · have : y = x := by simpa using h
            subst this
            exact hr p hp
        | some p =>
          obtain ⟨h1, h2⟩ := hr
          refine ⟨fun _ => ⟨p, rfl, ?_, ?_⟩, notf rfl⟩
          · rw [List.append_nil, List.length_cons, h1.ln]; exact szl (by omega)
          · rw [List.append_nil]
            refine hk (some (x :: p)) ⟨end_cons.mpr ⟨hxn, h1⟩, fun q hq => ?_⟩
            cases q with
            | nil => have := hq.ln; cases this
            | cons y q =>
              obtain ⟨g1, g2⟩ := end_cons.mp hq
              rw [ltL_cons]
              by_cases e : y = x
              · rw [if_pos e]; subst e; exact h2 q g2
              · rw [if_neg e]
                obtain ⟨i', hi'⟩ := List.mem_iff_getElem?.mp ((mem y).mpr g1)
                have a1 := List.getElem?_eq_some_iff.mp hi'
                have a2 := List.getElem?_eq_some_iff.mp hx
                by_cases c : i' < i
                · exact absurd g2 (hI y (List.mem_iff_getElem?.mpr ⟨i', by rw [List.getElem?_take_of_lt c]; exact hi'⟩) q)
                · have ne : i' ≠ i := fun z => e (by subst z; exact Option.some.inj (hi'.symm.trans hx))
                  have := (List.pairwise_iff_getElem.mp srt) i i' a2.1 a1.1 (by omega)
                  rw [a2.2, a1.2] at this
                  exact lt_as this
      · have hI : ∀ x ∈ (trO m ys).take (trO m ys).length, ∀ p, ¬ End j (app m x) p := hI
        rw [List.take_length] at hI
        refine hk none fun q hq => ?_
        cases q with
        | nil => have := hq.ln; cases this
        | cons y q =>
          obtain ⟨g1, g2⟩ := end_cons.mp hq
          exact hI y ((mem y).mpr g1) q g2
end Mi
/-! K47Math5 -/
set_option Elab.async false
set_option linter.all false
set_option maxRecDepth 100000
set_option maxHeartbeats 1000000
namespace Mi
open PySem PySem.Spec L2 Dh
/-! the law's list -/
theorem wp_sorted {xs : List (List T3)} {p : List T3} {k : List (List T3) → Prop} (hl : xs.length ≤ 10000) (hp : p ∈ xs) (hm : ∀ q ∈ xs, ltL q p = false) (hk : ∀ ys, ys[0]? = some p → k ys) : W_l_sorted xs k := by
  unfold W_l_sorted
  refine ⟨fun i ys => ys.length = i ∧ (∀ y, y ∈ ys ↔ y ∈ xs.take i) ∧ ∀ h, ys[0]? = some h → ∀ q ∈ ys, ltL q h = false, ⟨rfl, fun y => by simp, fun h e => by simp at e⟩, fun i x ys hx h => ?_, fun ys h => ?_⟩
  · obtain ⟨hn, hmem, hmin⟩ := h
    have hi := (List.getElem?_eq_some_iff.mp hx).1
    have e1 : xs.take (i + 1) = xs.take i ++ [x] := by rw [List.take_add_one, hx]; rfl
    refine ⟨fun n a => (n : Int) = ys.length - a ∧ 0 ≤ a ∧ a ≤ ys.length ∧ (0 < a → ∀ h, ys[0]? = some h → ltL x h = false), ⟨ys.length, by omega, by omega, by omega, fun h => absurd h (by decide)⟩, fun n a ⟨h0, h1, h2, h3⟩ => ?_⟩
    have fin : (a = 0 → ∀ h, ys[0]? = some h → ltL x h = true) → (fun x9 : Int => (ys.length < sizeLine ∧ 0 ≤ x9 ∧ x9 < 2 ^ 63) ∧ let y13 : Int × List T3 := (x9, x); (fun (zs : List (List T3)) => zs.length = i + 1 ∧ (∀ y, y ∈ zs ↔ y ∈ xs.take (i + 1)) ∧ ∀ h, zs[0]? = some h → ∀ q ∈ zs, ltL q h = false) (ys.take y13.1.toNat ++ [y13.2] ++ ys.drop y13.1.toNat)) a := fun hf => by
      have mem : ∀ y, y ∈ ys.take a.toNat ++ [x] ++ ys.drop a.toNat ↔ y ∈ ys ∨ y = x := fun y => by
        have : y ∈ ys ↔ y ∈ ys.take a.toNat ∨ y ∈ ys.drop a.toNat := by rw [← List.mem_append, List.take_append_drop]
        rw [this]
        simp only [List.mem_append, List.mem_singleton]
        constructor
        · rintro ((h | h) | h)
          · exact .inl (.inl h)
          · exact .inr h
          · exact .inl (.inr h)
        · rintro ((h | h) | h)
          · exact .inl (.inl h)
          · exact .inr h
          · exact .inl (.inr h)
      refine ⟨⟨sz (by omega), h1, by omega⟩, ?_, fun y => ?_, fun h hh q hq => ?_⟩
      · show (ys.take a.toNat ++ [x] ++ ys.drop a.toNat).length = i + 1
        simp only [List.length_append, List.length_take, List.length_drop, List.length_singleton]
        omega
      · show y ∈ ys.take a.toNat ++ [x] ++ ys.drop a.toNat ↔ _
        rw [mem, e1, List.mem_append (s := xs.take i), hmem, List.mem_singleton]
      · have hq2 := (mem q).mp hq
        clear hq
        have hh : (ys.take a.toNat ++ [x] ++ ys.drop a.toNat)[0]? = some h := hh
        by_cases az : a = 0
        · subst az
          have : h = x := by
            have e : (ys.take (0 : Int).toNat ++ [x] ++ ys.drop (0 : Int).toNat)[0]? = some x := by simp
            rw [e] at hh; exact (Option.some.inj hh).symm
          subst this
          rcases hq2 with hq | hq
          · cases hy : ys[0]? with
            | none =>
              have := List.getElem?_eq_none_iff.mp hy
              have : ys = [] := List.eq_nil_of_length_eq_zero (by omega)
              subst this; cases hq
            | some z =>
              have c1 := hf rfl z hy
              have c2 := hmin z hy q hq
              cases e : ltL q h with
              | false => rfl
              | true => have := lt_tr (f := dL) e c1; rw [show ltX dL q z = false from c2] at this; cases this
          · rw [hq]; exact lt_irr _
        · have e0 : ys[0]? = some h := by
            have hy : 0 < ys.length := by omega
            rw [List.append_assoc, List.getElem?_append_left (by rw [List.length_take]; omega), List.getElem?_take_of_lt (by omega)] at hh
            exact hh
          rcases hq2 with hq | hq
          · exact hmin h e0 q hq
          · rw [hq]; exact h3 (by omega) h e0
    refine ⟨fun z => ?_, fun z => ?_⟩
    · have za : a < (ys.length : Int) := of_decide_eq_true z
      obtain ⟨y, hy, ey⟩ := atI_lt (xs := ys) (i := a) h1 za
      refine ⟨y, hy, fun c => ?_, fun c => ?_⟩
      · refine ⟨n - 1, by omega, by omega, by omega, by omega, fun _ h hh => ?_⟩
        by_cases az : a = 0
        · subst az
          rw [show (0 : Int).toNat = 0 from rfl, hh] at ey
          cases ey
          simpa using c
        · exact h3 (by omega) h hh
      · refine fin fun az h hh => ?_
        subst az
        rw [show (0 : Int).toNat = 0 from rfl, hh] at ey
        cases ey
        simpa using c
    · have za : ¬ a < (ys.length : Int) := of_decide_eq_false z
      refine ⟨nott rfl, fun _ => fin fun az h hh => ?_⟩
      have := (List.getElem?_eq_some_iff.mp hh).1
      omega
  · obtain ⟨hn, hmem, hmin⟩ := h
    rw [List.take_length] at hmem
    have hn : ys.length = xs.length := hn
    have hpy := (hmem p).mpr hp
    have h0 : 0 < ys.length := List.length_pos_of_mem hpy
    have e0 := List.getElem?_eq_getElem h0
    have c1 := hmin _ e0 p hpy
    have c2 := hm ys[0] ((hmem _).mp (List.getElem_mem h0))
    have e := lt_tot totL (a := ys[0]) (b := p) c2 c1
    exact hk ys (by rw [e0, e])
abbrev Lv := List (List T3 × Dt)
def lvl (m : Dt) : Nat → Lv
  | 0 => [([], m)]
  | j + 1 => (lvl m j).flatMap fun a => (nx a.2).flatMap fun x => [(a.1 ++ [x], app a.2 x)]
theorem lvl_mem {m : Dt} : ∀ {j : Nat} {a : List T3 × Dt}, a ∈ lvl m j ↔ Vd m a.1 ∧ a.1.length = j ∧ a.2 = a.1.foldl app m
  | 0, a => by
    show a ∈ [([], m)] ↔ _
    rw [List.mem_singleton]
    constructor
    · intro h; subst h; exact ⟨trivial, rfl, rfl⟩
    · rintro ⟨_, h1, h2⟩
      have := List.eq_nil_of_length_eq_zero h1
      obtain ⟨a1, a2⟩ := a
      dsimp only at this h2
      subst this; rw [h2]; rfl
  | j + 1, a => by
    show a ∈ (lvl m j).flatMap _ ↔ _
    rw [List.mem_flatMap]
    constructor
    · rintro ⟨b, hb, h⟩
      obtain ⟨x, hx, h⟩ := List.mem_flatMap.mp h
      rw [List.mem_singleton.mp h]
      obtain ⟨h1, h2, h3⟩ := lvl_mem.mp hb
      refine ⟨vd_snoc.mpr ⟨h1, by rw [← h3]; exact hx⟩, by rw [List.length_append, h2]; rfl, ?_⟩
      show app b.2 x = (b.1 ++ [x]).foldl app m
      rw [List.foldl_append, ← h3]; rfl
    · rintro ⟨h1, h2, h3⟩
      obtain ⟨a1, a2⟩ := a
      dsimp only at h1 h2 h3
      have hne : a1 ≠ [] := fun z => by rw [z] at h2; cases h2
      have e := List.dropLast_concat_getLast hne
      rw [← e] at h1
      obtain ⟨g1, g2⟩ := vd_snoc.mp h1
      refine ⟨(a1.dropLast, a1.dropLast.foldl app m), lvl_mem.mpr ⟨g1, by show a1.dropLast.length = j; rw [List.length_dropLast, h2]; rfl, rfl⟩, List.mem_flatMap.mpr ⟨_, g2, ?_⟩⟩
      rw [List.mem_singleton, h3]
      refine Prod.ext e.symm ?_
      show a1.foldl app m = app (a1.dropLast.foldl app m) (a1.getLast hne)
      conv => lhs; rw [← e]
      rw [List.foldl_append]; rfl
end Mi
/-! K47Math6 -/
set_option Elab.async false
set_option linter.all false
set_option maxRecDepth 100000
set_option maxHeartbeats 1000000
namespace Mi
open PySem PySem.Spec L2 Dh
theorem vd_keys : ∀ {p : List T3} {m : Dt}, Vd m p → ky (p.foldl app m) = ky m
  | [], _, _ => rfl
  | x :: p, m, h => (vd_keys (p := p) (m := app m x) h.2).trans (app_keys (mem_nx h.1).1 (mem_nx h.1).2)
theorem lvl_bal {m : Dt} {j : Nat} {a : List T3 × Dt} (B : Bal m) (h : a ∈ lvl m j) : Bal a.2 ∧ a.2.length = m.length := by
  obtain ⟨h1, _, h3⟩ := lvl_mem.mp h
  rw [h3]
  exact ⟨vd_bal B h1, len_keys (vd_keys h1)⟩
theorem nx_len {m : Dt} (h : m.length ≤ 3) : (nx m).length ≤ 9 := by
  have h1 : (nx m).length ≤ (ky m).length * (ky m).length := tr_len
  have h2 : (ky m).length = m.length := List.length_map ..
  have : (ky m).length * (ky m).length ≤ 3 * 3 := Nat.mul_le_mul (by omega) (by omega)
  omega
theorem lvl_len {m : Dt} (B : Bal m) (h3 : m.length ≤ 3) : ∀ j, j ≤ 4 → (lvl m j).length ≤ 9 ^ j
  | 0, _ => Nat.le_refl _
  | j + 1, hj => by
    have h1 := lvl_len B h3 j (by omega)
    have h2 : (lvl m (j + 1)).length ≤ (lvl m j).length * 9 := len_flat fun a ha => by
      have := len_flat (xs := nx a.2) (f := fun x => [(a.1 ++ [x], app a.2 x)]) (c := 1) fun _ _ => Nat.le_refl 1
      have := nx_len (m := a.2) (by rw [(lvl_bal B ha).2]; exact h3)
      omega
    rw [Nat.pow_succ]; omega
theorem comp_flat {α β : Type} {xs : List α} {f : α → List β} {B : α → List β → (List β → Prop) → Prop} {k : List β → Prop}
    (hB : ∀ a ∈ xs, ∀ (x : List β) (n : List β → Prop), n (x ++ f a) → B a x n) (q : k (xs.flatMap f)) : compP xs B k :=
  (for_flat (x0 := []) (f := f) (fun a ha x n _ h => hB a ha x n h) (by rw [List.nil_append]; exact q) : forP xs [] B k)
theorem wp_best {m : Dt} {j : Nat} {p : List T3} {k : Option (List T3) → Prop} (B : Bal m) (h3 : m.length ≤ 3) (hj : j ≤ 3) (hn : ∀ i, i < j → ∀ q, ¬ End i m q) (hp : End j m p) (hmin : ∀ q, End j m q → ltL q p = false) (hk : k (some p)) : W_l_best m k := by
  have pw : ∀ i, i ≤ 3 → 9 ^ i ≤ 729 := fun i hi => Nat.le_trans (Nat.pow_le_pow_right (by decide) hi) (by decide)
  unfold W_l_best
  refine ⟨by decide, ?_⟩
  refine ⟨fun i x => x = lvl m i ∧ i ≤ j, ⟨rfl, Nat.zero_le _⟩, fun i a x ha h => ?_, fun x h => ?_⟩
  · obtain ⟨rfl, hij⟩ := h
    have ll := lvl_len B h3 i (by omega)
    have pi := pw i (by omega)
    refine ⟨szl (by omega), ?_⟩
    refine comp_flat (f := fun a : List T3 × Dt => if (nx a.2).isEmpty = true then [a.1] else []) (fun a ha acc n hn => wp_next (lvl_bal B ha).1 ⟨fun z => ?_, fun z => ?_⟩) ?_
    · have z : (nx a.2).isEmpty = true := by simpa using z
      rw [if_pos z] at hn; exact hn
    · have z : (nx a.2).isEmpty = false := by simpa using z
      rw [if_neg (by rw [z]; decide), List.append_nil] at hn; exact hn
    · have mem : ∀ q, q ∈ (lvl m i).flatMap (fun a : List T3 × Dt => if (nx a.2).isEmpty = true then [a.1] else []) ↔ End i m q := fun q => by
        rw [List.mem_flatMap]
        constructor
        · rintro ⟨b, hb, h⟩
          split at h
          · rename_i c
            rw [List.mem_singleton.mp h]
            obtain ⟨g1, g2, g3⟩ := lvl_mem.mp hb
            exact ⟨g1, g2, by rw [← g3]; exact List.isEmpty_iff.mp c⟩
          · cases h
        · intro h
          exact ⟨(q, q.foldl app m), lvl_mem.mpr ⟨h.vd, h.ln, rfl⟩, by rw [if_pos (List.isEmpty_iff.mpr h.no)]; exact List.mem_singleton.mpr rfl⟩
      have len : ((lvl m i).flatMap (fun a : List T3 × Dt => if (nx a.2).isEmpty = true then [a.1] else [])).length ≤ (lvl m i).length * 1 := len_flat fun a _ => by split <;> simp
      generalize (lvl m i).flatMap (fun a : List T3 × Dt => if (nx a.2).isEmpty = true then [a.1] else []) = E at mem len
      refine ⟨fun z => ?_, fun z => ?_⟩
      · have : i = j := by
          cases E with
          | nil => cases z
          | cons q E =>
            have := (mem q).mp List.mem_cons_self
            by_cases c : i < j
            · exact absurd this (hn i c q)
            · omega
        subst this
        refine wp_sorted (p := p) (by omega) ((mem p).mpr hp) (fun q hq => hmin q ((mem q).mp hq)) fun ys hy => ⟨p, ?_, hk⟩
        have h0 := (List.getElem?_eq_some_iff.mp hy).1
        obtain ⟨v, hv, ev⟩ := atI_lt (xs := ys) (i := 0) (by decide) (by omega)
        rw [show (0 : Int).toNat = 0 from rfl, hy] at ev
        cases ev; exact hv
      · have hlt : i < j := by
          by_cases c : i < j
          · exact c
          · have : i = j := by omega
            subst this
            have := (mem p).mpr hp
            cases E with
            | nil => cases this
            | cons q E => cases z
        refine for_flat (x0 := []) (f := fun a : List T3 × Dt => (nx a.2).flatMap fun x => [(a.1 ++ [x], app a.2 x)]) (fun a ha x n hx hn2 => wp_next (lvl_bal B ha).1 ?_) ⟨by rw [List.nil_append]; rfl, by omega⟩
        have hx : x.length ≤ 0 + (lvl m (i + 1)).length := hx
        have l2 := lvl_len B h3 (i + 1) (by omega)
        have p2 := pw (i + 1) (by omega)
        obtain ⟨g1, g2, g3⟩ := lvl_mem.mp ha
        have l3 := nx_len (m := a.2) (by rw [(lvl_bal B ha).2]; exact h3)
        refine for_flat (f := fun t => [(a.1 ++ [t], app a.2 t)]) (fun t ht y n2 hy hn3 => ?_) hn2
        have l4 := len_flat (xs := nx a.2) (f := fun t => [(a.1 ++ [t], app a.2 t)]) (c := 1) fun _ _ => Nat.le_refl 1
        exact ⟨szl (by rw [g2, List.length_singleton]; omega), wp_behind (lvl_bal B ha).1 (mem_nx ht).1 (mem_nx ht).2 ⟨sz (by omega), hn3⟩⟩
  · obtain ⟨_, h⟩ := h
    have h : 4 ≤ j := h
    omega
/-! it comes to an end -/
theorem get_put {m : Dt} {k g : Str} {v : Int} (h : k ∈ ky m) : bal (dPut m k v) g = if g = k then v else bal m g := by
  unfold dPut
  have ha : (m.any fun kv => decide (kv.1 = k)) = true := by
    obtain ⟨p, hp, e⟩ := List.mem_map.mp h
    exact List.any_eq_true.mpr ⟨p, hp, decide_eq_true e⟩
  rw [if_pos ha]
  clear ha
  unfold bal dGet
  induction m with
  | nil => cases h
  | cons a m ih =>
    rw [List.map_cons, List.find?_cons, List.find?_cons]
    by_cases e : a.1 = k
    · rw [if_pos e]
      by_cases e2 : g = k
      · rw [if_pos e2, decide_eq_true (show (a.1, v).1 = g by rw [e2]; exact e)]; rfl
      · rw [if_neg e2, decide_eq_false (show ¬ (a.1, v).1 = g by rw [show (a.1, v).1 = a.1 from rfl, e]; exact fun z => e2 z.symm)]
        by_cases hk : k ∈ ky m
        · have := ih hk; rw [if_neg e2] at this; exact this
        · have : m.map (fun kv => if kv.1 = k then (kv.1, v) else kv) = m := by
            refine (List.map_congr_left fun p hp => ?_).trans (List.map_id m)
            rw [if_neg (fun z => hk (by rw [← z]; exact List.mem_map_of_mem hp))]; rfl
          rw [this]
    · rw [if_neg e]
      have hk : k ∈ ky m := by
        rcases List.mem_cons.mp (show k ∈ a.1 :: ky m from h) with z | z
        · exact absurd z.symm e
        · exact z
      by_cases e3 : a.1 = g
      · rw [decide_eq_true e3, if_neg (fun z => e (e3.trans z))]
      · rw [decide_eq_false e3]; exact ih hk
theorem app_bal {m : Dt} {x : T3} {g : Str} (h : x ∈ nx m) : bal (app m x) g = if g = x.2.1 then bal m g + x.2.2 else if g = x.1 then bal m g - x.2.2 else bal m g := by
  obtain ⟨h1, h2, h3, h4, _⟩ := tr_mem.mp h
  have ne : x.2.1 ≠ x.1 := fun z => by rw [z] at h4; omega
  unfold app
  show bal (dPut (dPut m x.1 (bal m x.1 - x.2.2)) x.2.1 (bal (dPut m x.1 (bal m x.1 - x.2.2)) x.2.1 + x.2.2)) g = _
  rw [get_put (by unfold ky; rw [dPut_keys h1]; exact h2), get_put h1, get_put h1, if_neg ne]
  by_cases c : g = x.2.1
  · rw [if_pos c, if_pos c, c]
  · rw [if_neg c, if_neg c]
    by_cases d : g = x.1
    · rw [if_pos d, if_pos d, d]
    · rw [if_neg d, if_neg d]
end Mi
/-! K47Math7 -/
set_option Elab.async false
set_option linter.all false
set_option maxRecDepth 100000
set_option maxHeartbeats 1000000
namespace Mi
open PySem PySem.Spec L2 Dh
theorem filt_le {α : Type} {p q : α → Bool} : ∀ {l : List α}, (∀ a ∈ l, q a = true → p a = true) → (l.filter q).length ≤ (l.filter p).length
  | [], _ => Nat.le_refl _
  | a :: l, h => by
    have ih := filt_le (l := l) fun z hz => h z (List.mem_cons_of_mem _ hz)
    have h1 := h a List.mem_cons_self
    rw [List.filter_cons, List.filter_cons]
    cases e : q a with
    | true => rw [h1 e, if_pos rfl, if_pos rfl, List.length_cons, List.length_cons]; omega
    | false =>
      rw [if_neg (by decide)]
      split
      · rw [List.length_cons]; omega
      · exact ih
theorem filt_lt {α : Type} {p q : α → Bool} : ∀ {l : List α}, (∀ a ∈ l, q a = true → p a = true) → ∀ {z : α}, z ∈ l → p z = true → q z = false → (l.filter q).length < (l.filter p).length
  | a :: l, h, z, hz, h1, h2 => by
    have hl : ∀ b ∈ l, q b = true → p b = true := fun b hb => h b (List.mem_cons_of_mem _ hb)
    rw [List.filter_cons, List.filter_cons]
    rcases List.mem_cons.mp hz with e | e
    · subst e
      rw [if_pos h1, if_neg (by rw [h2]; decide), List.length_cons]
      have := filt_le hl; omega
    · have ih := filt_lt hl e h1 h2
      cases c : q a with
      | true => rw [h a List.mem_cons_self c, if_pos rfl, if_pos rfl, List.length_cons, List.length_cons]; omega
      | false =>
        rw [if_neg (by decide)]
        split
        · rw [List.length_cons]; omega
        · exact ih
def nz (m : Dt) : Nat := ((ky m).filter fun g => decide (bal m g ≠ 0)).length
theorem nz_app {m : Dt} {x : T3} (h : x ∈ nx m) : nz (app m x) < nz m := by
  obtain ⟨h1, h2, h3, h4, h5⟩ := tr_mem.mp h
  have ne : x.1 ≠ x.2.1 := fun z => by rw [← z] at h4; omega
  unfold nz
  rw [show ky (app m x) = ky m from app_keys h1 h2]
  have mono : ∀ g ∈ ky m, decide (bal (app m x) g ≠ 0) = true → decide (bal m g ≠ 0) = true := fun g _ hg => by
    have hg := of_decide_eq_true hg
    rw [app_bal h] at hg
    refine decide_eq_true ?_
    by_cases c : g = x.2.1
    · rw [c]; omega
    · rw [if_neg c] at hg
      by_cases d : g = x.1
      · rw [d]; omega
      · rw [if_neg d] at hg; exact hg
  unfold mn at h5
  by_cases c : bal m x.1 < -bal m x.2.1
  · rw [if_pos c] at h5
    refine filt_lt mono h1 (decide_eq_true (by omega)) ?_
    rw [app_bal h, if_neg ne, if_pos rfl, h5]
    exact decide_eq_false (by omega)
  · rw [if_neg c] at h5
    refine filt_lt mono h2 (decide_eq_true (by omega)) ?_
    rw [app_bal h, if_pos rfl, h5]
    exact decide_eq_false (by omega)
theorem two_le {m : Dt} {x : T3} (h : x ∈ nx m) : 2 ≤ nz m := by
  have := nz_app h
  obtain ⟨h1, h2, h3, h4, h5⟩ := tr_mem.mp h
  have ne : x.1 ≠ x.2.1 := fun z => by rw [← z] at h4; omega
  unfold nz
  have m1 : x.1 ∈ (ky m).filter fun g => decide (bal m g ≠ 0) := List.mem_filter.mpr ⟨h1, decide_eq_true (by omega)⟩
  have m2 : x.2.1 ∈ (ky m).filter fun g => decide (bal m g ≠ 0) := List.mem_filter.mpr ⟨h2, decide_eq_true (by omega)⟩
  cases e : (ky m).filter fun g => decide (bal m g ≠ 0) with
  | nil => rw [e] at m1; cases m1
  | cons a r =>
    cases r with
    | nil =>
      rw [e] at m1 m2
      exact absurd ((List.mem_singleton.mp m1).trans (List.mem_singleton.mp m2).symm) ne
    | cons b r => rw [List.length_cons, List.length_cons]; omega
theorem ends : ∀ (N : Nat) (m : Dt), nz m ≤ N → ∃ j p, j ≤ N - 1 ∧ End j m p
  | 0, m, h => by
    cases e : nx m with
    | nil => exact ⟨0, [], Nat.le_refl _, trivial, rfl, e⟩
    | cons x r => have := two_le (m := m) (x := x) (by rw [e]; exact List.mem_cons_self); omega
  | N + 1, m, h => by
    cases e : nx m with
    | nil => exact ⟨0, [], Nat.zero_le _, trivial, rfl, e⟩
    | cons x r =>
      have hx : x ∈ nx m := by rw [e]; exact List.mem_cons_self
      have h1 := nz_app hx
      have h2 := two_le hx
      obtain ⟨j, p, hj, hp⟩ := ends N (app m x) (by omega)
      exact ⟨j + 1, x :: p, by omega, end_cons.mpr ⟨hx, hp⟩⟩
/-- the answer -/
structure Ans (m : Dt) (p : List T3) : Prop where
  it : ∃ j, j ≤ 2 ∧ End j m p ∧ (∀ i, i < j → ∀ q, ¬ End i m q) ∧ ∀ q, End j m q → ltL q p = false
theorem wp_cleared {m : Dt} {k : List T3 → Prop} (B : Bal m) (h3 : m.length ≤ 3) (hk : ∀ p, Ans m p → k p) : W_cleared m k := by
  obtain ⟨j0, p0, hj0, hp0⟩ := ends 3 m (Nat.le_trans (List.length_filter_le _ _) (by rw [List.length_map]; exact h3))
  have hj0 : j0 ≤ 2 := hj0
  have hw : ∀ (n : Nat) (K : Option (List T3) → Prop), n ≤ 3 → (∀ r, FB n m r → K r) → W_first_list m (n : Int) K := fun n K hn hK => wp_first 5 n m K B (by omega) (by omega) hK
  unfold W_cleared
  have inv : ∀ (n : Nat) (r : Option (List T3)) (KK : Option (Addr × List T3) → Prop), FB n m r → (∀ x : Option (Addr × List T3), FB n m (x.map (·.2)) → KK x) → optP KK r := fun n r KK hr hK => by
    cases r with
    | none => exact hK none hr
    | some y => exact fun a => hK (some (a, y)) hr
  refine hw 0 _ (by omega) fun r hr => inv 0 r _ hr fun x hx => ?_
  refine ⟨fun t s => ∃ n : Nat, s.1 = (n : Int) ∧ n + t = 3 ∧ n ≤ j0 ∧ FB n m (s.2.map (·.2)) ∧ ∀ i, i < n → ∀ q, ¬ End i m q, ⟨3, 0, rfl, rfl, Nat.zero_le _, hx, fun i h => absurd h (Nat.not_lt_zero _)⟩, fun t s ⟨n, h1, h2, h4, h5, h6⟩ => ?_⟩
  obtain ⟨s1, s2⟩ := s
  dsimp only at h1 h5
  subst h1
  cases s2 with
  | none =>
    refine ⟨fun _ => ?_, notf rfl⟩
    have hlt : n < j0 := by
      by_cases c : n < j0
      · exact c
      · have : n = j0 := by omega
        subst this
        exact absurd hp0 (h5 p0)
    show W_first_list m ((n : Int) + 1) _
    rw [show (n : Int) + 1 = ((n + 1 : Nat) : Int) by omega]
    refine hw (n + 1) _ (by omega) fun r hr => inv (n + 1) r _ hr fun x hx => ⟨t - 1, by omega, n + 1, rfl, by omega, by omega, hx, fun i hi q hq => ?_⟩
    by_cases c : i < n
    · exact h6 i c q hq
    · have : i = n := by omega
      subst this
      exact h5 q hq
  | some z =>
    refine ⟨nott rfl, fun _ => ⟨z, rfl, hk z.2 ⟨n, by omega, h5.1, h6, h5.2⟩⟩⟩
end Mi
/-! K47Math8 -/
set_option Elab.async false
set_option linter.all false
set_option maxRecDepth 100000
set_option maxHeartbeats 1000000
namespace Mi
open PySem PySem.Spec L2 Dh
theorem vd_at : ∀ {p : List T3} {m : Dt} {i : Nat} {t : T3}, Vd m p → p[i]? = some t → t ∈ nx ((p.take i).foldl app m) ∧ Vd m (p.take i)
  | [], _, _, _, _, h => by simp at h
  | x :: p, m, 0, t, hv, h => by
    have : x = t := by simpa using h
    subst this
    exact ⟨hv.1, trivial⟩
  | x :: p, m, i + 1, t, hv, h => by
    have := vd_at (p := p) (m := app m x) (i := i) (t := t) hv.2 (by simpa using h)
    exact ⟨this.1, hv.1, this.2⟩
theorem vd_in : ∀ {p : List T3} {m : Dt}, Vd m p → ∀ t ∈ p, t.1 ∈ ky m ∧ t.2.1 ∈ ky m
  | x :: p, m, hv, t, ht => by
    rcases List.mem_cons.mp ht with e | e
    · rw [e]; exact mem_nx hv.1
    · have := vd_in (p := p) (m := app m x) hv.2 t e
      rw [show ky (app m x) = ky m from app_keys (mem_nx hv.1).1 (mem_nx hv.1).2] at this
      exact this
/-! sums -/
theorem sum_upd {f : Str → Int} {k : Str} {c : Int} : ∀ {l : List Str}, l.Nodup → (l.map fun g => if g = k then f g + c else f g).sum = (l.map f).sum + if k ∈ l then c else 0
  | [], _ => rfl
  | a :: l, nd => by
    have nd := List.nodup_cons.mp nd
    have ih := sum_upd (f := f) (k := k) (c := c) nd.2
    rw [List.map_cons, List.map_cons, List.sum_cons, List.sum_cons, ih]
    by_cases e : a = k
    · subst e
      rw [if_pos rfl, if_neg nd.1, if_pos List.mem_cons_self]; omega
    · rw [if_neg e]
      by_cases h : k ∈ l
      · rw [if_pos h, if_pos (List.mem_cons_of_mem _ h)]; omega
      · rw [if_neg h, if_neg (fun z => by rcases List.mem_cons.mp z with q | q; exact e q.symm; exact h q)]; omega
def sm (m : Dt) : Int := ((ky m).map (bal m)).sum
theorem sm_app {m : Dt} {x : T3} (B : Bal m) (h : x ∈ nx m) : sm (app m x) = sm m := by
  obtain ⟨h1, h2, h3, h4, h5⟩ := tr_mem.mp h
  have ne : x.2.1 ≠ x.1 := fun z => by rw [z] at h4; omega
  unfold sm
  rw [show ky (app m x) = ky m from app_keys h1 h2]
  have e : (ky m).map (bal (app m x)) = (ky m).map fun g => if g = x.2.1 then (fun g => if g = x.1 then bal m g + (-x.2.2) else bal m g) g + x.2.2 else (fun g => if g = x.1 then bal m g + (-x.2.2) else bal m g) g := by
    refine List.map_congr_left fun g _ => ?_
    rw [app_bal h]
    by_cases c : g = x.2.1
    · rw [if_pos c, if_pos c]
      show _ = (if g = x.1 then _ else _) + _
      rw [if_neg (by rw [c]; exact ne)]
    · rw [if_neg c, if_neg c]
      show _ = if g = x.1 then _ else _
      by_cases d : g = x.1
      · rw [if_pos d, if_pos d]; omega
      · rw [if_neg d, if_neg d]
  have e2 := sum_upd (f := bal m) (k := x.1) (c := -x.2.2) B.nd
  rw [if_pos h1] at e2
  rw [e, sum_upd B.nd, if_pos h2]
  exact (congrArg (· + x.2.2) e2).trans (by show (List.map (bal m) (ky m)).sum + -x.2.2 + x.2.2 = _; omega)
theorem sm_fold : ∀ {p : List T3} {m : Dt}, Bal m → Vd m p → sm (p.foldl app m) = sm m
  | [], _, _, _ => rfl
  | x :: p, m, B, h => (sm_fold (p := p) (m := app m x) (bal_nx B h.1) h.2).trans (sm_app B h.1)
theorem sum_pick {f : Str → Int} {c : Int → Bool} : ∀ {l : List Str}, (∀ g ∈ l, c (f g) = true ∨ f g = 0) → (l.flatMap fun g => if c (f g) = true then [f g] else []).sum = (l.map f).sum
  | [], _ => rfl
  | a :: l, h => by
    have ih := sum_pick (f := f) (c := c) (l := l) fun g hg => h g (List.mem_cons_of_mem _ hg)
    rw [List.flatMap_cons, List.sum_append, ih, List.map_cons, List.sum_cons]
    by_cases e : c (f a) = true
    · rw [if_pos e]; simp
    · rw [if_neg e]
      rcases h a List.mem_cons_self with q | q
      · exact absurd q e
      · rw [q]; simp
theorem sum_none {f : Str → Int} {c : Int → Bool} : ∀ {l : List Str}, (∀ g ∈ l, c (f g) = false) → (l.flatMap fun g => if c (f g) = true then [f g] else []).sum = 0
  | [], _ => rfl
  | a :: l, h => by
    rw [List.flatMap_cons, if_neg (by rw [h a List.mem_cons_self]; decide)]
    exact sum_none fun g hg => h g (List.mem_cons_of_mem _ hg)
theorem sum_nonpos {f : Str → Int} : ∀ {l : List Str}, (∀ g ∈ l, f g ≤ 0) → (l.map f).sum ≤ 0
  | [], _ => Int.le_refl _
  | a :: l, h => by
    have := sum_nonpos (f := f) (l := l) fun g hg => h g (List.mem_cons_of_mem _ hg)
    have := h a List.mem_cons_self
    rw [List.map_cons, List.sum_cons]; omega
theorem sum_nonneg {f : Str → Int} : ∀ {l : List Str}, (∀ g ∈ l, 0 ≤ f g) → 0 ≤ (l.map f).sum
  | [], _ => Int.le_refl _
  | a :: l, h => by
    have := sum_nonneg (f := f) (l := l) fun g hg => h g (List.mem_cons_of_mem _ hg)
    have := h a List.mem_cons_self
    rw [List.map_cons, List.sum_cons]; omega
/-- below and above at the end -/
theorem both {s : Dt} (h : nx s = []) : ((ky s).flatMap fun g => if decide (bal s g < 0) = true then [bal s g] else []).sum = (if sm s < 0 then sm s else 0) ∧ ((ky s).flatMap fun g => if decide (bal s g > 0) = true then [bal s g] else []).sum = (if sm s > 0 then sm s else 0) := by
  have one : (∀ g ∈ ky s, bal s g ≤ 0) ∨ ∀ g ∈ ky s, 0 ≤ bal s g := by
    by_cases c : ∀ g ∈ ky s, bal s g ≤ 0
    · exact .inl c
    · refine .inr fun t ht => ?_
      by_cases d : 0 ≤ bal s t
      · exact d
      · exfalso
        apply c
        intro g hg
        by_cases e : bal s g ≤ 0
        · exact e
        · have : (g, t, mn (bal s g) (-bal s t)) ∈ nx s := tr_mem.mpr ⟨hg, ht, by show bal s g > 0; omega, by show bal s t < 0; omega, rfl⟩
          rw [h] at this; cases this
  rcases one with c | c
  · have n := sum_nonpos c
    have e1 := sum_pick (f := bal s) (c := fun z => decide (z < 0)) (l := ky s) fun g hg => by
      have := c g hg
      by_cases d : bal s g < 0
      · exact .inl (decide_eq_true d)
      · exact .inr (by omega)
    have e2 := sum_none (f := bal s) (c := fun z => decide (z > 0)) (l := ky s) fun g hg => decide_eq_false (by have := c g hg; omega)
    refine ⟨e1.trans ?_, e2.trans ?_⟩
    · show sm s = _
      have n : sm s ≤ 0 := n
      by_cases d : sm s < 0
      · rw [if_pos d]
      · rw [if_neg d]; omega
    · have n : sm s ≤ 0 := n
      rw [if_neg (by omega)]
  · have n := sum_nonneg c
    have e1 := sum_none (f := bal s) (c := fun z => decide (z < 0)) (l := ky s) fun g hg => decide_eq_false (by have := c g hg; omega)
    have e2 := sum_pick (f := bal s) (c := fun z => decide (z > 0)) (l := ky s) fun g hg => by
      have := c g hg
      by_cases d : bal s g > 0
      · exact .inl (decide_eq_true d)
      · exact .inr (by omega)
    have n : 0 ≤ sm s := n
    refine ⟨e1.trans ?_, e2.trans ?_⟩
    · rw [if_neg (by omega)]
    · show sm s = _
      by_cases d : sm s > 0
      · rw [if_pos d]
      · rw [if_neg d]; omega
theorem str3 {m : Dt} (B : Bal m) {t : T3} (h : t.1 ∈ ky m ∧ t.2.1 ∈ ky m) : (PyData.strOk t.1 = true) ∧ ((PyData.strOk t.2.1 = true) ∧ True) := ⟨nm_strOk (B.nm _ h.1), nm_strOk (B.nm _ h.2), trivial⟩
theorem memX_of {α : Type} [DecidableEq α] {a : α} {l : List α} (h : a ∈ l) : memX a l = true := decide_eq_true h
theorem wp_is_list {p : List T3} {k : Bool → Prop} (q : k true) : W_l_is_list p k := by
  unfold W_l_is_list
  refine ⟨nott rfl, fun _ => ?_⟩
  refine ⟨fun _ _ => True, trivial, fun i x u _ _ => ?_, fun _ _ => q⟩
  refine ⟨nott rfl, fun _ => ⟨fun z => ?_, fun _ => ?_⟩⟩
  · exact absurd z (by decide)
  · exact ⟨nott rfl, fun _ => ⟨nott rfl, fun _ => trivial⟩⟩
theorem wp_clears {m : Dt} {p : List T3} {k : Bool → Prop} (B : Bal m) (A : Ans m p) (q : k true) : W_l_clears m p k := by
  obtain ⟨j, _, E, _, _⟩ := A.it
  have hl := B.hi
  have kl : (ky m).length = m.length := List.length_map ..
  unfold W_l_clears
  refine ⟨fun i x => x = (p.take i).foldl app m, rfl, fun i t x ht hx => ?_, fun x hx => ?_⟩
  · subst hx
    obtain ⟨h1, h2⟩ := vd_at E.vd ht
    have Bs := vd_bal B h2
    have hk := mem_nx h1
    refine wp_next Bs ⟨str3 Bs hk, fun z hz => str3 Bs (mem_nx hz), fun z => ?_, fun _ => wp_behind Bs hk.1 hk.2 (fold_take ht).symm⟩
    have : memX t (nx ((p.take i).foldl app m)) = true := memX_of h1
    rw [this] at z; cases z
  · have hx : x = (p.take p.length).foldl app m := hx
    rw [List.take_length] at hx
    have Bs := vd_bal B E.vd
    have ks := vd_keys E.vd
    have no := E.no
    have sms := sm_fold B E.vd
    rw [← hx] at Bs ks no sms
    have lk : (ky x).length ≤ 100 := by rw [ks, kl]; exact hl
    obtain ⟨b1, b2⟩ := both no
    refine ⟨szl (by show (ky x).length ≤ _; omega), comp_flat (f := fun g => if decide (bal x g < 0) = true then [bal x g] else []) (fun g hg acc n hn => ⟨bal x g, bal_is hg, fun z => ⟨bal x g, bal_is hg, ?_⟩, fun z => ?_⟩) ?_⟩
    · rw [if_pos z] at hn; exact hn
    · rw [if_neg (by rw [z]; decide), List.append_nil] at hn; exact hn
    refine ⟨szl (by show (ky x).length ≤ _; omega), comp_flat (f := fun g => if decide (bal x g > 0) = true then [bal x g] else []) (fun g hg acc n hn => ⟨bal x g, bal_is hg, fun z => ⟨bal x g, bal_is hg, ?_⟩, fun z => ?_⟩) ?_⟩
    · rw [if_pos z] at hn; exact hn
    · rw [if_neg (by rw [z]; decide), List.append_nil] at hn; exact hn
    refine ⟨szl (by rw [kl]; omega), comp_is (f := bal m) (fun i g acc n hg _ hn => ⟨fun _ => ⟨bal m g, bal_is (List.mem_of_getElem? hg), hn⟩, notf rfl⟩) ?_⟩
    have sw : (List.map (bal m) (List.map Prod.fst m)).sum = sm x := sms.symm
    have fin : W_made m p (fun v29 => (true = true → (∀ z27 ∈ (v29.map Prod.fst), PyData.strOk z27 = true) ∧ (∀ z28 ∈ (x.map Prod.fst), PyData.strOk z28 = true) ∧ ((decide ((v29.map Prod.fst) = (x.map Prod.fst))) = true → (v29 = x ∧ (v29.map (·.1)).Nodup) ∧ k true) ∧ ((decide ((v29.map Prod.fst) = (x.map Prod.fst))) = false → k false)) ∧ (true = false → k false)) (fun _ => False) := by
      have bn : bad (ky m) p = none := bad_ok (vd_in E.vd)
      refine wp_made B (fun _ => ?_) (fun e he => by rw [show m.map Prod.fst = ky m from rfl, bn] at he; cases he)
      rw [← hx]
      have sk : ∀ z ∈ ky x, PyData.strOk z = true := fun z hz => nm_strOk (Bs.nm z hz)
      exact ⟨fun _ => ⟨sk, sk, fun _ => ⟨⟨rfl, Bs.nd⟩, q⟩, fun z => absurd rfl (of_decide_eq_false z)⟩, notf rfl⟩
    refine ⟨fun z => ?_, fun _ => ⟨fun z => ?_, fun _ => wp_next Bs ⟨fun z => ?_, fun _ => fin⟩⟩⟩
    · rw [sw] at z
      rw [decide_eq_true b1] at z; cases z
    · rw [sw] at z
      rw [decide_eq_true b2] at z; cases z
    · rw [no] at z; cases z
end Mi
/-! K47Math9 -/
set_option Elab.async false
set_option linter.all false
set_option maxRecDepth 100000
set_option maxHeartbeats 1000000
namespace Mi
open PySem PySem.Spec L2 Dh
theorem wp_balance {k : Int → Prop} (q : ∀ n, k n) : W_l_balance k := by
  unfold W_l_balance
  refine pick (by decide) (by decide) fun w w0 w1 => ⟨fun _ => q _, fun _ => ⟨fun _ => pick (by decide) (by decide) fun r _ _ => q _, fun _ => ⟨fun _ => pick (by decide) (by decide) fun r r0 r1 => ?_, fun _ => pick (by decide) (by decide) fun r _ _ => q _⟩⟩⟩
  obtain ⟨v, hv, _⟩ := atI_lt (xs := ([9999, -9999, 1, -1] : List Int)) (i := r) r0 r1
  exact ⟨v, hv, q v⟩
theorem at_last {α : Type} {xs : List α} (h : 0 < xs.length) : ∃ v, atI xs (-1) = some v ∧ v ∈ xs := by
  have h1 : xs.length - 1 < xs.length := by omega
  refine ⟨xs[xs.length - 1], ?_, List.getElem_mem h1⟩
  unfold atI ixN
  rw [if_neg (by decide), if_pos (by omega)]
  show xs[((-1 : Int) + xs.length).toNat]? = _
  rw [show ((-1 : Int) + xs.length).toNat = xs.length - 1 by omega]
  exact List.getElem?_eq_getElem h1
theorem cut_mem {α : Type} {xs : List α} {a b : Option Int} {x : α} (h : x ∈ cutL xs a b) : x ∈ xs := List.mem_of_mem_drop (List.mem_of_mem_take h)
theorem cut_len {α : Type} {xs : List α} {a b : Option Int} : (cutL xs a b).length ≤ xs.length := by
  unfold cutL; rw [List.length_take, List.length_drop]; omega
theorem bal_put {m : Dt} {k : Str} {v : Int} (B : Bal m) (h : k ∈ ky m) : Bal (dPut m k v) := by
  have e := dPut_keys (v := v) h
  have l := len_keys e
  exact ⟨by rw [e]; exact B.nd, by rw [l]; exact B.hi, by rw [e]; exact B.nm, by rw [l]; exact B.ne⟩
theorem wp_balances {k : Dt × Unit × List Str × Unit → Prop} {kx : Empty → Prop} (q : ∀ D ns, Bal D → D.length ≤ 3 → k (D, ((), ns, ()))) : W_l_balances [] k kx := by
  unfold W_l_balances
  refine pick (by decide) (by decide) fun r r0 r1 => ?_
  obtain ⟨v, hv, ev⟩ := atI_lt (xs := ([1, 2, 3, 3, 3, 3] : List Int)) (i := r) r0 r1
  have hm : v = 1 ∨ v = 2 ∨ v = 3 := by
    have := List.mem_of_getElem? ev
    simpa using this
  have hv3 : v.toNat ≤ 3 ∧ 0 < v.toNat := by omega
  refine ⟨v, hv, by omega, ?_⟩
  refine ⟨fun i x => x.1 = ky x.2 ∧ (ky x.2).Nodup ∧ (∀ z ∈ ky x.2, NameOk z) ∧ x.2.length = i, ⟨rfl, .nil, fun z h => (nomatch h), rfl⟩, fun i a x ha h => ?_, fun x h => ?_⟩
  · obtain ⟨h1, h2, h3, h4⟩ := h
    have hi := (List.getElem?_eq_some_iff.mp ha).1
    rw [rng_len] at hi
    refine wp_balance fun n => ?_
    have kl : (ky x.2).length = x.2.length := List.length_map ..
    refine ⟨by rw [h1, kl]; omega, by rw [h1]; exact h3, fun w hw hn => ⟨sz (by omega), ?_⟩⟩
    rw [h1] at hn
    have e := dPut_new (v := n) hn
    have ek : ky (dPut x.2 w n) = ky x.2 ++ [w] := by unfold ky; rw [e, List.map_append]; rfl
    refine ⟨?_, ?_, ?_, ?_⟩
    · show x.1 ++ [w] = ky (dPut x.2 w n)
      rw [ek, h1]
    · show (ky (dPut x.2 w n)).Nodup
      rw [ek]
      exact List.nodup_append.mpr ⟨h2, List.pairwise_singleton _ _, fun a ha b hb z => hn (by rw [← List.mem_singleton.mp hb, ← z]; exact ha)⟩
    · show ∀ z ∈ ky (dPut x.2 w n), NameOk z
      rw [ek]
      intro z hz
      rcases List.mem_append.mp hz with c | c
      · exact h3 z c
      · rw [List.mem_singleton.mp c]; exact hw
    · show (dPut x.2 w n).length = i + 1
      rw [e, List.length_append, h4]; rfl
  · obtain ⟨h1, h2, h3, h4⟩ := h
    have h4 : x.2.length = (rng 0 v.toNat).length := h4
    rw [rng_len] at h4
    have kl : (ky x.2).length = x.2.length := List.length_map ..
    have B : Bal x.2 := ⟨h2, by omega, h3, by omega⟩
    obtain ⟨last, hlast, hin⟩ := at_last (xs := x.1) (by rw [h1, kl]; omega)
    rw [h1] at hin
    refine ⟨last, hlast, szl (by have := cut_len (xs := x.1) (a := none) (b := some (-1)); rw [h1, kl] at this; rw [h1]; omega), ?_⟩
    refine comp_is (f := fun g => bal x.2 g) (fun i g acc n hg _ hn => ⟨fun _ => ⟨bal x.2 g, bal_is (by rw [← h1]; exact cut_mem (List.mem_of_getElem? hg)), hn⟩, notf rfl⟩) ?_
    have ol : ((cutL x.1 none (some (-1))).map fun g => bal x.2 g).length ≤ 3 := by
      rw [List.length_map]
      have := cut_len (xs := x.1) (a := none) (b := some (-1))
      rw [h1, kl] at this; rw [h1]; omega
    generalize ((cutL x.1 none (some (-1))).map fun g => bal x.2 g) = os at ol
    have put : ∀ z : Int, k (dPut x.2 last z, ((), x.1, ())) := fun z => q _ _ (bal_put B hin) (by rw [put_len hin]; omega)
    refine pick (by decide) (by decide) fun w w0 w1 => ⟨fun z => ?_, fun _ => ⟨fun _ => ⟨sz (by omega), put _⟩, fun _ => q _ _ B (by omega)⟩⟩
    have hne : 0 < os.length := by
      cases os with
      | nil => rw [Bool.and_eq_true] at z; exact absurd z.2 (by decide)
      | cons a r => exact Nat.zero_lt_succ _
    refine pick (by omega) (by omega) fun u u0 u1 => ?_
    obtain ⟨y, hy, _⟩ := atI_lt (xs := os) (i := u) u0 u1
    exact ⟨y, hy, sz (by omega), put _⟩
theorem law_math : W_law (fun r => r = true) := by
  unfold W_law
  refine wp_balances fun D1 n1 B1 L1 => wp_balances fun D2 n2 B2 L2 => ?_
  refine ⟨fun _ _ => True, trivial, fun i a u ha _ => ?_, fun _ _ => rfl⟩
  have hm := List.mem_of_getElem? ha
  have ha2 : a = 0 ∨ a = 1 := by
    simp only [List.mem_cons, List.not_mem_nil, or_false] at hm
    omega
  have W : ∃ w, atI [D1, D2] a = some w ∧ Bal w ∧ w.length ≤ 3 := by
    rcases ha2 with e | e
    · subst e; exact ⟨D1, rfl, B1, L1⟩
    · subst e; exact ⟨D2, rfl, B2, L2⟩
  obtain ⟨w, hw, B, L⟩ := W
  have so : ∀ z ∈ w.map Prod.fst, PyData.strOk z = true := fun z hz => nm_strOk (B.nm z hz)
  refine ⟨w, hw, wp_cleared B L fun p A => ?_⟩
  obtain ⟨j, hj, E, h1, h2⟩ := A.it
  have sp : ∀ z ∈ p, (PyData.strOk z.1 = true) ∧ ((PyData.strOk z.2.1 = true) ∧ True) := fun z hz => str3 B (vd_in E.vd z hz)
  refine wp_is_list ⟨nott rfl, fun _ => ⟨w, hw, wp_best B L (by omega) h1 E h2 ⟨p, rfl, ⟨sp, sp⟩, fun z => ?_, fun _ => ⟨w, hw, wp_clears B A ⟨nott rfl, fun _ => ⟨sz (by rw [E.ln]; omega), ?_⟩⟩⟩⟩⟩⟩
  · rw [decide_eq_true (p := p = p) rfl] at z; cases z
  · refine ⟨w, hw, ⟨rfl, B.nd⟩, nott rfl, fun _ => ⟨w, hw, so, so, fun z => ?_, fun _ => trivial⟩⟩
    rw [decide_eq_true (p := w.map Prod.fst = w.map Prod.fst) rfl] at z; cases z
end Mi
/-! K47Q -/
set_option Elab.async false
set_option linter.all false
set_option maxRecDepth 100000
set_option maxHeartbeats 4000000
namespace Dh
open PySem PySem.Spec L2
open _root_.Evl (Ex)
theorem all_mk {P : Program} {w : World} {K : PySem.W.Frag} {h : Heap} {mg : Str → Option Value} {fa : Addr} (X : K.In h) (G : h.Ns mainGlobals mg) (hfa : mg "law" = some (.ref fa))
  {f_Unknown_XinitX f_ascending f_check_office f_are_opposed f_transfers_of f_first_list f_cleared f_made f_l_mixed f_l_bag f_l_pick f_l_sorted f_l_number f_l_new_name f_l_balance f_l_balances f_l_next f_l_behind f_l_best f_l_is_list f_l_clears f_law C_Unknown : Addr}
  {od_Unknown_XinitX an_Unknown_XinitX : Option Addr} {sl_Unknown_XinitX : Array (Option Value)} {oc_Unknown_XinitX kV_Unknown_XinitX dc_Unknown_XinitX pm_Unknown_XinitX cd_Unknown_XinitX ct_Unknown_XinitX : Value}
  {od_ascending an_ascending : Option Addr} {sl_ascending : Array (Option Value)} {oc_ascending kV_ascending dc_ascending pm_ascending cd_ascending ct_ascending : Value}
  {od_check_office an_check_office : Option Addr} {sl_check_office : Array (Option Value)} {oc_check_office kV_check_office dc_check_office pm_check_office cd_check_office ct_check_office : Value}
  {od_are_opposed an_are_opposed : Option Addr} {sl_are_opposed : Array (Option Value)} {oc_are_opposed kV_are_opposed dc_are_opposed pm_are_opposed cd_are_opposed ct_are_opposed : Value}
  {od_transfers_of an_transfers_of : Option Addr} {sl_transfers_of : Array (Option Value)} {oc_transfers_of kV_transfers_of dc_transfers_of pm_transfers_of cd_transfers_of ct_transfers_of : Value}
  {od_first_list an_first_list : Option Addr} {sl_first_list : Array (Option Value)} {oc_first_list kV_first_list dc_first_list pm_first_list cd_first_list ct_first_list : Value}
  {od_cleared an_cleared : Option Addr} {sl_cleared : Array (Option Value)} {oc_cleared kV_cleared dc_cleared pm_cleared cd_cleared ct_cleared : Value}
  {od_made an_made : Option Addr} {sl_made : Array (Option Value)} {oc_made kV_made dc_made pm_made cd_made ct_made : Value}
  {od_l_mixed an_l_mixed : Option Addr} {sl_l_mixed : Array (Option Value)} {oc_l_mixed kV_l_mixed dc_l_mixed pm_l_mixed cd_l_mixed ct_l_mixed : Value}
  {od_l_bag an_l_bag : Option Addr} {sl_l_bag : Array (Option Value)} {oc_l_bag kV_l_bag dc_l_bag pm_l_bag cd_l_bag ct_l_bag : Value}
  {od_l_pick an_l_pick : Option Addr} {sl_l_pick : Array (Option Value)} {oc_l_pick kV_l_pick dc_l_pick pm_l_pick cd_l_pick ct_l_pick : Value}
  {od_l_sorted an_l_sorted : Option Addr} {sl_l_sorted : Array (Option Value)} {oc_l_sorted kV_l_sorted dc_l_sorted pm_l_sorted cd_l_sorted ct_l_sorted : Value}
  {od_l_number an_l_number : Option Addr} {sl_l_number : Array (Option Value)} {oc_l_number kV_l_number dc_l_number pm_l_number cd_l_number ct_l_number : Value}
  {od_l_new_name an_l_new_name : Option Addr} {sl_l_new_name : Array (Option Value)} {oc_l_new_name kV_l_new_name dc_l_new_name pm_l_new_name cd_l_new_name ct_l_new_name : Value}
  {od_l_balance an_l_balance : Option Addr} {sl_l_balance : Array (Option Value)} {oc_l_balance kV_l_balance dc_l_balance pm_l_balance cd_l_balance ct_l_balance : Value}
  {od_l_balances an_l_balances : Option Addr} {sl_l_balances : Array (Option Value)} {oc_l_balances kV_l_balances dc_l_balances pm_l_balances cd_l_balances ct_l_balances : Value}
  {od_l_next an_l_next : Option Addr} {sl_l_next : Array (Option Value)} {oc_l_next kV_l_next dc_l_next pm_l_next cd_l_next ct_l_next : Value}
  {od_l_behind an_l_behind : Option Addr} {sl_l_behind : Array (Option Value)} {oc_l_behind kV_l_behind dc_l_behind pm_l_behind cd_l_behind ct_l_behind : Value}
  {od_l_best an_l_best : Option Addr} {sl_l_best : Array (Option Value)} {oc_l_best kV_l_best dc_l_best pm_l_best cd_l_best ct_l_best : Value}
  {od_l_is_list an_l_is_list : Option Addr} {sl_l_is_list : Array (Option Value)} {oc_l_is_list kV_l_is_list dc_l_is_list pm_l_is_list cd_l_is_list ct_l_is_list : Value}
  {od_l_clears an_l_clears : Option Addr} {sl_l_clears : Array (Option Value)} {oc_l_clears kV_l_clears dc_l_clears pm_l_clears cd_l_clears ct_l_clears : Value}
  {od_law an_law : Option Addr} {sl_law : Array (Option Value)} {oc_law kV_law dc_law pm_law cd_law ct_law : Value}
  {nm_Unknown q_Unknown : Str} {N_Unknown : Addr} {bs_Unknown bm_Unknown : List Value} {sn_Unknown : List Str} {sub_Unknown : List Value} {ab_Unknown : Bool} {col_Unknown : Option Bool} {dd_Unknown : Option Addr} {m0_Unknown m1_Unknown m2_Unknown m3_Unknown m5_Unknown : Option Value}
  (a_Unknown : PySem.W.nsIn K mainGlobals "Unknown" = some (some (.ref C_Unknown)))
  (ix_Unknown : PySem.W.findIn K (.ref C_Unknown) "__init__" = some (some (.ref f_Unknown_XinitX)))
  (a_ascending : PySem.W.nsIn K mainGlobals "ascending" = some (some (.ref f_ascending)))
  (a_check_office : PySem.W.nsIn K mainGlobals "check_office" = some (some (.ref f_check_office)))
  (a_are_opposed : PySem.W.nsIn K mainGlobals "are_opposed" = some (some (.ref f_are_opposed)))
  (a_transfers_of : PySem.W.nsIn K mainGlobals "transfers_of" = some (some (.ref f_transfers_of)))
  (a_first_list : PySem.W.nsIn K mainGlobals "first_list" = some (some (.ref f_first_list)))
  (a_cleared : PySem.W.nsIn K mainGlobals "cleared" = some (some (.ref f_cleared)))
  (a_made : PySem.W.nsIn K mainGlobals "made" = some (some (.ref f_made)))
  (a_l_mixed : PySem.W.nsIn K mainGlobals "_law_mixed" = some (some (.ref f_l_mixed)))
  (a_l_bag : PySem.W.nsIn K mainGlobals "_law_bag" = some (some (.ref f_l_bag)))
  (a_l_pick : PySem.W.nsIn K mainGlobals "_law_pick" = some (some (.ref f_l_pick)))
  (a_l_sorted : PySem.W.nsIn K mainGlobals "_law_sorted" = some (some (.ref f_l_sorted)))
  (a_l_number : PySem.W.nsIn K mainGlobals "_law_number" = some (some (.ref f_l_number)))
  (a_l_new_name : PySem.W.nsIn K mainGlobals "_law_new_name" = some (some (.ref f_l_new_name)))
  (a_l_balance : PySem.W.nsIn K mainGlobals "_law_balance" = some (some (.ref f_l_balance)))
  (a_l_balances : PySem.W.nsIn K mainGlobals "_law_balances" = some (some (.ref f_l_balances)))
  (a_l_next : PySem.W.nsIn K mainGlobals "_law_next" = some (some (.ref f_l_next)))
  (a_l_behind : PySem.W.nsIn K mainGlobals "_law_behind" = some (some (.ref f_l_behind)))
  (a_l_best : PySem.W.nsIn K mainGlobals "_law_best" = some (some (.ref f_l_best)))
  (a_l_is_list : PySem.W.nsIn K mainGlobals "_law_is_list" = some (some (.ref f_l_is_list)))
  (a_l_clears : PySem.W.nsIn K mainGlobals "_law_clears" = some (some (.ref f_l_clears)))
  (a_law : PySem.W.nsIn K mainGlobals "law" = some (some (.ref f_law)))
  (l_Unknown_XinitX : K.lookup f_Unknown_XinitX = some ⟨oc_Unknown_XinitX, od_Unknown_XinitX, .func (PySem.W.fnOf "__init__" "Unknown.__init__" (defArgs s_Unknown_XinitX) (defBody s_Unknown_XinitX) (defScope s_Unknown_XinitX) .none kV_Unknown_XinitX dc_Unknown_XinitX pm_Unknown_XinitX an_Unknown_XinitX cd_Unknown_XinitX ct_Unknown_XinitX), sl_Unknown_XinitX⟩)
  (cI_Unknown_XinitX : PySem.W.codeIn K cd_Unknown_XinitX "Unknown.__init__" = true)
  (k_Unknown_XinitX : PySem.W.keepIn K (.ref f_Unknown_XinitX) = true)
  (l_ascending : K.lookup f_ascending = some ⟨oc_ascending, od_ascending, .func (PySem.W.fnOf "ascending" "ascending" (defArgs s_ascending) (defBody s_ascending) (defScope s_ascending) .none kV_ascending dc_ascending pm_ascending an_ascending cd_ascending ct_ascending), sl_ascending⟩)
  (cI_ascending : PySem.W.codeIn K cd_ascending "ascending" = true)
  (k_ascending : PySem.W.keepIn K (.ref f_ascending) = true)
  (l_check_office : K.lookup f_check_office = some ⟨oc_check_office, od_check_office, .func (PySem.W.fnOf "check_office" "check_office" (defArgs s_check_office) (defBody s_check_office) (defScope s_check_office) .none kV_check_office dc_check_office pm_check_office an_check_office cd_check_office ct_check_office), sl_check_office⟩)
  (cI_check_office : PySem.W.codeIn K cd_check_office "check_office" = true)
  (k_check_office : PySem.W.keepIn K (.ref f_check_office) = true)
  (l_are_opposed : K.lookup f_are_opposed = some ⟨oc_are_opposed, od_are_opposed, .func (PySem.W.fnOf "are_opposed" "are_opposed" (defArgs s_are_opposed) (defBody s_are_opposed) (defScope s_are_opposed) .none kV_are_opposed dc_are_opposed pm_are_opposed an_are_opposed cd_are_opposed ct_are_opposed), sl_are_opposed⟩)
  (cI_are_opposed : PySem.W.codeIn K cd_are_opposed "are_opposed" = true)
  (k_are_opposed : PySem.W.keepIn K (.ref f_are_opposed) = true)
  (l_transfers_of : K.lookup f_transfers_of = some ⟨oc_transfers_of, od_transfers_of, .func (PySem.W.fnOf "transfers_of" "transfers_of" (defArgs s_transfers_of) (defBody s_transfers_of) (defScope s_transfers_of) .none kV_transfers_of dc_transfers_of pm_transfers_of an_transfers_of cd_transfers_of ct_transfers_of), sl_transfers_of⟩)
  (cI_transfers_of : PySem.W.codeIn K cd_transfers_of "transfers_of" = true)
  (k_transfers_of : PySem.W.keepIn K (.ref f_transfers_of) = true)
  (l_first_list : K.lookup f_first_list = some ⟨oc_first_list, od_first_list, .func (PySem.W.fnOf "first_list" "first_list" (defArgs s_first_list) (defBody s_first_list) (defScope s_first_list) .none kV_first_list dc_first_list pm_first_list an_first_list cd_first_list ct_first_list), sl_first_list⟩)
  (cI_first_list : PySem.W.codeIn K cd_first_list "first_list" = true)
  (k_first_list : PySem.W.keepIn K (.ref f_first_list) = true)
  (l_cleared : K.lookup f_cleared = some ⟨oc_cleared, od_cleared, .func (PySem.W.fnOf "cleared" "cleared" (defArgs s_cleared) (defBody s_cleared) (defScope s_cleared) .none kV_cleared dc_cleared pm_cleared an_cleared cd_cleared ct_cleared), sl_cleared⟩)
  (cI_cleared : PySem.W.codeIn K cd_cleared "cleared" = true)
  (k_cleared : PySem.W.keepIn K (.ref f_cleared) = true)
  (l_made : K.lookup f_made = some ⟨oc_made, od_made, .func (PySem.W.fnOf "made" "made" (defArgs s_made) (defBody s_made) (defScope s_made) .none kV_made dc_made pm_made an_made cd_made ct_made), sl_made⟩)
  (cI_made : PySem.W.codeIn K cd_made "made" = true)
  (k_made : PySem.W.keepIn K (.ref f_made) = true)
  (l_l_mixed : K.lookup f_l_mixed = some ⟨oc_l_mixed, od_l_mixed, .func (PySem.W.fnOf "_law_mixed" "_law_mixed" (defArgs s_l_mixed) (defBody s_l_mixed) (defScope s_l_mixed) .none kV_l_mixed dc_l_mixed pm_l_mixed an_l_mixed cd_l_mixed ct_l_mixed), sl_l_mixed⟩)
  (cI_l_mixed : PySem.W.codeIn K cd_l_mixed "_law_mixed" = true)
  (k_l_mixed : PySem.W.keepIn K (.ref f_l_mixed) = true)
  (l_l_bag : K.lookup f_l_bag = some ⟨oc_l_bag, od_l_bag, .func (PySem.W.fnOf "_law_bag" "_law_bag" (defArgs s_l_bag) (defBody s_l_bag) (defScope s_l_bag) .none kV_l_bag dc_l_bag pm_l_bag an_l_bag cd_l_bag ct_l_bag), sl_l_bag⟩)
  (cI_l_bag : PySem.W.codeIn K cd_l_bag "_law_bag" = true)
  (k_l_bag : PySem.W.keepIn K (.ref f_l_bag) = true)
  (l_l_pick : K.lookup f_l_pick = some ⟨oc_l_pick, od_l_pick, .func (PySem.W.fnOf "_law_pick" "_law_pick" (defArgs s_l_pick) (defBody s_l_pick) (defScope s_l_pick) .none kV_l_pick dc_l_pick pm_l_pick an_l_pick cd_l_pick ct_l_pick), sl_l_pick⟩)
  (cI_l_pick : PySem.W.codeIn K cd_l_pick "_law_pick" = true)
  (k_l_pick : PySem.W.keepIn K (.ref f_l_pick) = true)
  (l_l_sorted : K.lookup f_l_sorted = some ⟨oc_l_sorted, od_l_sorted, .func (PySem.W.fnOf "_law_sorted" "_law_sorted" (defArgs s_l_sorted) (defBody s_l_sorted) (defScope s_l_sorted) .none kV_l_sorted dc_l_sorted pm_l_sorted an_l_sorted cd_l_sorted ct_l_sorted), sl_l_sorted⟩)
  (cI_l_sorted : PySem.W.codeIn K cd_l_sorted "_law_sorted" = true)
  (k_l_sorted : PySem.W.keepIn K (.ref f_l_sorted) = true)
  (l_l_number : K.lookup f_l_number = some ⟨oc_l_number, od_l_number, .func (PySem.W.fnOf "_law_number" "_law_number" (defArgs s_l_number) (defBody s_l_number) (defScope s_l_number) .none kV_l_number dc_l_number pm_l_number an_l_number cd_l_number ct_l_number), sl_l_number⟩)
  (cI_l_number : PySem.W.codeIn K cd_l_number "_law_number" = true)
  (k_l_number : PySem.W.keepIn K (.ref f_l_number) = true)
  (l_l_new_name : K.lookup f_l_new_name = some ⟨oc_l_new_name, od_l_new_name, .func (PySem.W.fnOf "_law_new_name" "_law_new_name" (defArgs s_l_new_name) (defBody s_l_new_name) (defScope s_l_new_name) .none kV_l_new_name dc_l_new_name pm_l_new_name an_l_new_name cd_l_new_name ct_l_new_name), sl_l_new_name⟩)
  (cI_l_new_name : PySem.W.codeIn K cd_l_new_name "_law_new_name" = true)
  (k_l_new_name : PySem.W.keepIn K (.ref f_l_new_name) = true)
  (l_l_balance : K.lookup f_l_balance = some ⟨oc_l_balance, od_l_balance, .func (PySem.W.fnOf "_law_balance" "_law_balance" (defArgs s_l_balance) (defBody s_l_balance) (defScope s_l_balance) .none kV_l_balance dc_l_balance pm_l_balance an_l_balance cd_l_balance ct_l_balance), sl_l_balance⟩)
  (cI_l_balance : PySem.W.codeIn K cd_l_balance "_law_balance" = true)
  (k_l_balance : PySem.W.keepIn K (.ref f_l_balance) = true)
  (l_l_balances : K.lookup f_l_balances = some ⟨oc_l_balances, od_l_balances, .func (PySem.W.fnOf "_law_balances" "_law_balances" (defArgs s_l_balances) (defBody s_l_balances) (defScope s_l_balances) .none kV_l_balances dc_l_balances pm_l_balances an_l_balances cd_l_balances ct_l_balances), sl_l_balances⟩)
  (cI_l_balances : PySem.W.codeIn K cd_l_balances "_law_balances" = true)
  (k_l_balances : PySem.W.keepIn K (.ref f_l_balances) = true)
  (l_l_next : K.lookup f_l_next = some ⟨oc_l_next, od_l_next, .func (PySem.W.fnOf "_law_next" "_law_next" (defArgs s_l_next) (defBody s_l_next) (defScope s_l_next) .none kV_l_next dc_l_next pm_l_next an_l_next cd_l_next ct_l_next), sl_l_next⟩)
  (cI_l_next : PySem.W.codeIn K cd_l_next "_law_next" = true)
  (k_l_next : PySem.W.keepIn K (.ref f_l_next) = true)
  (l_l_behind : K.lookup f_l_behind = some ⟨oc_l_behind, od_l_behind, .func (PySem.W.fnOf "_law_behind" "_law_behind" (defArgs s_l_behind) (defBody s_l_behind) (defScope s_l_behind) .none kV_l_behind dc_l_behind pm_l_behind an_l_behind cd_l_behind ct_l_behind), sl_l_behind⟩)
  (cI_l_behind : PySem.W.codeIn K cd_l_behind "_law_behind" = true)
  (k_l_behind : PySem.W.keepIn K (.ref f_l_behind) = true)
  (l_l_best : K.lookup f_l_best = some ⟨oc_l_best, od_l_best, .func (PySem.W.fnOf "_law_best" "_law_best" (defArgs s_l_best) (defBody s_l_best) (defScope s_l_best) .none kV_l_best dc_l_best pm_l_best an_l_best cd_l_best ct_l_best), sl_l_best⟩)
  (cI_l_best : PySem.W.codeIn K cd_l_best "_law_best" = true)
  (k_l_best : PySem.W.keepIn K (.ref f_l_best) = true)
  (l_l_is_list : K.lookup f_l_is_list = some ⟨oc_l_is_list, od_l_is_list, .func (PySem.W.fnOf "_law_is_list" "_law_is_list" (defArgs s_l_is_list) (defBody s_l_is_list) (defScope s_l_is_list) .none kV_l_is_list dc_l_is_list pm_l_is_list an_l_is_list cd_l_is_list ct_l_is_list), sl_l_is_list⟩)
  (cI_l_is_list : PySem.W.codeIn K cd_l_is_list "_law_is_list" = true)
  (k_l_is_list : PySem.W.keepIn K (.ref f_l_is_list) = true)
  (l_l_clears : K.lookup f_l_clears = some ⟨oc_l_clears, od_l_clears, .func (PySem.W.fnOf "_law_clears" "_law_clears" (defArgs s_l_clears) (defBody s_l_clears) (defScope s_l_clears) .none kV_l_clears dc_l_clears pm_l_clears an_l_clears cd_l_clears ct_l_clears), sl_l_clears⟩)
  (cI_l_clears : PySem.W.codeIn K cd_l_clears "_law_clears" = true)
  (k_l_clears : PySem.W.keepIn K (.ref f_l_clears) = true)
  (l_law : K.lookup f_law = some ⟨oc_law, od_law, .func (PySem.W.fnOf "law" "law" (defArgs s_law) (defBody s_law) (defScope s_law) .none kV_law dc_law pm_law an_law cd_law ct_law), sl_law⟩)
  (cI_law : PySem.W.codeIn K cd_law "law" = true)
  (k_law : PySem.W.keepIn K (.ref f_law) = true)
  (xL_Unknown : K.lookup C_Unknown = some (excClassObj nm_Unknown q_Unknown C_Unknown N_Unknown bs_Unknown bm_Unknown true sn_Unknown sub_Unknown ab_Unknown col_Unknown dd_Unknown m0_Unknown m1_Unknown m2_Unknown m3_Unknown m5_Unknown "ValueError.__new__"))
  (rx_Unknown : PySem.HandSPX.refsVE bm_Unknown = true)
  (sx_Unknown : PySem.W.findIn K (.ref C_Unknown) "__setattr__" = some (some (.builtin "object.__setattr__")))
  (eC_Unknown : PySem.W.subIn K (.ref C_Unknown) (.type "BaseException") = some true)
  (tC_Unknown : PySem.W.typeIn K (.ref C_Unknown) = some (.type "type"))
  (kE_Unknown : PySem.W.keepIn K (.ref C_Unknown) = true)
  (nx_Unknown : PySem.W.findIn K (.ref C_Unknown) "name" = some none)
  (tx_Unknown : PySem.W.typeIn K (.ref f_Unknown_XinitX) = some (.type "function"))
  (z_abs : PySem.W.nsIn K mainGlobals "abs" = some none)
  (z_any : PySem.W.nsIn K mainGlobals "any" = some none)
  (z_bool : PySem.W.nsIn K mainGlobals "bool" = some none)
  (z_dict : PySem.W.nsIn K mainGlobals "dict" = some none)
  (z_enumerate : PySem.W.nsIn K mainGlobals "enumerate" = some none)
  (z_int : PySem.W.nsIn K mainGlobals "int" = some none)
  (z_isinstance : PySem.W.nsIn K mainGlobals "isinstance" = some none)
  (z_len : PySem.W.nsIn K mainGlobals "len" = some none)
  (z_list : PySem.W.nsIn K mainGlobals "list" = some none)
  (z_max : PySem.W.nsIn K mainGlobals "max" = some none)
  (z_min : PySem.W.nsIn K mainGlobals "min" = some none)
  (z_range : PySem.W.nsIn K mainGlobals "range" = some none)
  (z_str : PySem.W.nsIn K mainGlobals "str" = some none)
  (z_sum : PySem.W.nsIn K mainGlobals "sum" = some none)
  (z_tuple : PySem.W.nsIn K mainGlobals "tuple" = some none) :
    ∃ fd : FuncData, (∀ (s : Shared) (v : Value), BindsTo s fd ⟨[v], []⟩ [("_law_script", v)]) ∧ ∀ base : Heap, K.In base → base.Ns mainGlobals mg → FnOk P w K mg base CX0 12 fa fd ["_law_script"] (Mi.spLaw K) := by
  have e := hfa.symm.trans (PySem.W.mg_of X G a_law)
  cases e
  let AA : Ad := { f_Unknown_XinitX := f_Unknown_XinitX, d_Unknown_XinitX := (PySem.W.fnOf "__init__" "Unknown.__init__" (defArgs s_Unknown_XinitX) (defBody s_Unknown_XinitX) (defScope s_Unknown_XinitX) .none kV_Unknown_XinitX dc_Unknown_XinitX pm_Unknown_XinitX an_Unknown_XinitX cd_Unknown_XinitX ct_Unknown_XinitX), f_ascending := f_ascending, d_ascending := (PySem.W.fnOf "ascending" "ascending" (defArgs s_ascending) (defBody s_ascending) (defScope s_ascending) .none kV_ascending dc_ascending pm_ascending an_ascending cd_ascending ct_ascending), f_check_office := f_check_office, d_check_office := (PySem.W.fnOf "check_office" "check_office" (defArgs s_check_office) (defBody s_check_office) (defScope s_check_office) .none kV_check_office dc_check_office pm_check_office an_check_office cd_check_office ct_check_office), f_are_opposed := f_are_opposed, d_are_opposed := (PySem.W.fnOf "are_opposed" "are_opposed" (defArgs s_are_opposed) (defBody s_are_opposed) (defScope s_are_opposed) .none kV_are_opposed dc_are_opposed pm_are_opposed an_are_opposed cd_are_opposed ct_are_opposed), f_transfers_of := f_transfers_of, d_transfers_of := (PySem.W.fnOf "transfers_of" "transfers_of" (defArgs s_transfers_of) (defBody s_transfers_of) (defScope s_transfers_of) .none kV_transfers_of dc_transfers_of pm_transfers_of an_transfers_of cd_transfers_of ct_transfers_of), f_first_list := f_first_list, d_first_list := (PySem.W.fnOf "first_list" "first_list" (defArgs s_first_list) (defBody s_first_list) (defScope s_first_list) .none kV_first_list dc_first_list pm_first_list an_first_list cd_first_list ct_first_list), f_cleared := f_cleared, d_cleared := (PySem.W.fnOf "cleared" "cleared" (defArgs s_cleared) (defBody s_cleared) (defScope s_cleared) .none kV_cleared dc_cleared pm_cleared an_cleared cd_cleared ct_cleared), f_made := f_made, d_made := (PySem.W.fnOf "made" "made" (defArgs s_made) (defBody s_made) (defScope s_made) .none kV_made dc_made pm_made an_made cd_made ct_made), f_l_mixed := f_l_mixed, d_l_mixed := (PySem.W.fnOf "_law_mixed" "_law_mixed" (defArgs s_l_mixed) (defBody s_l_mixed) (defScope s_l_mixed) .none kV_l_mixed dc_l_mixed pm_l_mixed an_l_mixed cd_l_mixed ct_l_mixed), f_l_bag := f_l_bag, d_l_bag := (PySem.W.fnOf "_law_bag" "_law_bag" (defArgs s_l_bag) (defBody s_l_bag) (defScope s_l_bag) .none kV_l_bag dc_l_bag pm_l_bag an_l_bag cd_l_bag ct_l_bag), f_l_pick := f_l_pick, d_l_pick := (PySem.W.fnOf "_law_pick" "_law_pick" (defArgs s_l_pick) (defBody s_l_pick) (defScope s_l_pick) .none kV_l_pick dc_l_pick pm_l_pick an_l_pick cd_l_pick ct_l_pick), f_l_sorted := f_l_sorted, d_l_sorted := (PySem.W.fnOf "_law_sorted" "_law_sorted" (defArgs s_l_sorted) (defBody s_l_sorted) (defScope s_l_sorted) .none kV_l_sorted dc_l_sorted pm_l_sorted an_l_sorted cd_l_sorted ct_l_sorted), f_l_number := f_l_number, d_l_number := (PySem.W.fnOf "_law_number" "_law_number" (defArgs s_l_number) (defBody s_l_number) (defScope s_l_number) .none kV_l_number dc_l_number pm_l_number an_l_number cd_l_number ct_l_number), f_l_new_name := f_l_new_name, d_l_new_name := (PySem.W.fnOf "_law_new_name" "_law_new_name" (defArgs s_l_new_name) (defBody s_l_new_name) (defScope s_l_new_name) .none kV_l_new_name dc_l_new_name pm_l_new_name an_l_new_name cd_l_new_name ct_l_new_name), f_l_balance := f_l_balance, d_l_balance := (PySem.W.fnOf "_law_balance" "_law_balance" (defArgs s_l_balance) (defBody s_l_balance) (defScope s_l_balance) .none kV_l_balance dc_l_balance pm_l_balance an_l_balance cd_l_balance ct_l_balance), f_l_balances := f_l_balances, d_l_balances := (PySem.W.fnOf "_law_balances" "_law_balances" (defArgs s_l_balances) (defBody s_l_balances) (defScope s_l_balances) .none kV_l_balances dc_l_balances pm_l_balances an_l_balances cd_l_balances ct_l_balances), f_l_next := f_l_next, d_l_next := (PySem.W.fnOf "_law_next" "_law_next" (defArgs s_l_next) (defBody s_l_next) (defScope s_l_next) .none kV_l_next dc_l_next pm_l_next an_l_next cd_l_next ct_l_next), f_l_behind := f_l_behind, d_l_behind := (PySem.W.fnOf "_law_behind" "_law_behind" (defArgs s_l_behind) (defBody s_l_behind) (defScope s_l_behind) .none kV_l_behind dc_l_behind pm_l_behind an_l_behind cd_l_behind ct_l_behind), f_l_best := f_l_best, d_l_best := (PySem.W.fnOf "_law_best" "_law_best" (defArgs s_l_best) (defBody s_l_best) (defScope s_l_best) .none kV_l_best dc_l_best pm_l_best an_l_best cd_l_best ct_l_best), f_l_is_list := f_l_is_list, d_l_is_list := (PySem.W.fnOf "_law_is_list" "_law_is_list" (defArgs s_l_is_list) (defBody s_l_is_list) (defScope s_l_is_list) .none kV_l_is_list dc_l_is_list pm_l_is_list an_l_is_list cd_l_is_list ct_l_is_list), f_l_clears := f_l_clears, d_l_clears := (PySem.W.fnOf "_law_clears" "_law_clears" (defArgs s_l_clears) (defBody s_l_clears) (defScope s_l_clears) .none kV_l_clears dc_l_clears pm_l_clears an_l_clears cd_l_clears ct_l_clears), f_law := fa, d_law := (PySem.W.fnOf "law" "law" (defArgs s_law) (defBody s_law) (defScope s_law) .none kV_law dc_law pm_law an_law cd_law ct_law), C_Unknown := C_Unknown }
  have T : Txt K mg AA :=
    { F_Unknown_XinitX := fun_mk (st := s_Unknown_XinitX) l_Unknown_XinitX cI_Unknown_XinitX k_Unknown_XinitX,
      bi_Unknown_XinitX := (fun_mk (st := s_Unknown_XinitX) l_Unknown_XinitX cI_Unknown_XinitX k_Unknown_XinitX).binds (ps := ["self", "name"]) fun _ _ _ _ _ _ us hl => match us, hl with | [_, _], _ => rfl,
      F_ascending := fun_mk (st := s_ascending) l_ascending cI_ascending k_ascending,
      bi_ascending := (fun_mk (st := s_ascending) l_ascending cI_ascending k_ascending).binds (ps := ["things"]) fun _ _ _ _ _ _ us hl => match us, hl with | [_], _ => rfl,
      g_ascending := PySem.W.mg_of X G a_ascending,
      F_check_office := fun_mk (st := s_check_office) l_check_office cI_check_office k_check_office,
      bi_check_office := (fun_mk (st := s_check_office) l_check_office cI_check_office k_check_office).binds (ps := ["offices", "office"]) fun _ _ _ _ _ _ us hl => match us, hl with | [_, _], _ => rfl,
      g_check_office := PySem.W.mg_of X G a_check_office,
      F_are_opposed := fun_mk (st := s_are_opposed) l_are_opposed cI_are_opposed k_are_opposed,
      bi_are_opposed := (fun_mk (st := s_are_opposed) l_are_opposed cI_are_opposed k_are_opposed).binds (ps := ["balances"]) fun _ _ _ _ _ _ us hl => match us, hl with | [_], _ => rfl,
      g_are_opposed := PySem.W.mg_of X G a_are_opposed,
      F_transfers_of := fun_mk (st := s_transfers_of) l_transfers_of cI_transfers_of k_transfers_of,
      bi_transfers_of := (fun_mk (st := s_transfers_of) l_transfers_of cI_transfers_of k_transfers_of).binds (ps := ["balances"]) fun _ _ _ _ _ _ us hl => match us, hl with | [_], _ => rfl,
      g_transfers_of := PySem.W.mg_of X G a_transfers_of,
      F_first_list := fun_mk (st := s_first_list) l_first_list cI_first_list k_first_list,
      bi_first_list := (fun_mk (st := s_first_list) l_first_list cI_first_list k_first_list).binds (ps := ["balances", "many"]) fun _ _ _ _ _ _ us hl => match us, hl with | [_, _], _ => rfl,
      g_first_list := PySem.W.mg_of X G a_first_list,
      F_cleared := fun_mk (st := s_cleared) l_cleared cI_cleared k_cleared,
      bi_cleared := (fun_mk (st := s_cleared) l_cleared cI_cleared k_cleared).binds (ps := ["balances"]) fun _ _ _ _ _ _ us hl => match us, hl with | [_], _ => rfl,
      g_cleared := PySem.W.mg_of X G a_cleared,
      F_made := fun_mk (st := s_made) l_made cI_made k_made,
      bi_made := (fun_mk (st := s_made) l_made cI_made k_made).binds (ps := ["balances", "transfers"]) fun _ _ _ _ _ _ us hl => match us, hl with | [_, _], _ => rfl,
      g_made := PySem.W.mg_of X G a_made,
      F_l_mixed := fun_mk (st := s_l_mixed) l_l_mixed cI_l_mixed k_l_mixed,
      bi_l_mixed := (fun_mk (st := s_l_mixed) l_l_mixed cI_l_mixed k_l_mixed).binds (ps := ["_law_number_here", "_law_turn"]) fun _ _ _ _ _ _ us hl => match us, hl with | [_, _], _ => rfl,
      g_l_mixed := PySem.W.mg_of X G a_l_mixed,
      F_l_bag := fun_mk (st := s_l_bag) l_l_bag cI_l_bag k_l_bag,
      bi_l_bag := (fun_mk (st := s_l_bag) l_l_bag cI_l_bag k_l_bag).binds (ps := ["_law_script"]) fun _ _ _ _ _ _ us hl => match us, hl with | [_], _ => rfl,
      g_l_bag := PySem.W.mg_of X G a_l_bag,
      F_l_pick := fun_mk (st := s_l_pick) l_l_pick cI_l_pick k_l_pick,
      bi_l_pick := (fun_mk (st := s_l_pick) l_l_pick cI_l_pick k_l_pick).binds (ps := ["_law_bag_here", "_law_many"]) fun _ _ _ _ _ _ us hl => match us, hl with | [_, _], _ => rfl,
      g_l_pick := PySem.W.mg_of X G a_l_pick,
      F_l_sorted := fun_mk (st := s_l_sorted) l_l_sorted cI_l_sorted k_l_sorted,
      bi_l_sorted := (fun_mk (st := s_l_sorted) l_l_sorted cI_l_sorted k_l_sorted).binds (ps := ["_law_things"]) fun _ _ _ _ _ _ us hl => match us, hl with | [_], _ => rfl,
      g_l_sorted := PySem.W.mg_of X G a_l_sorted,
      F_l_number := fun_mk (st := s_l_number) l_l_number cI_l_number k_l_number,
      bi_l_number := (fun_mk (st := s_l_number) l_l_number cI_l_number k_l_number).binds (ps := ["_law_thing"]) fun _ _ _ _ _ _ us hl => match us, hl with | [_], _ => rfl,
      g_l_number := PySem.W.mg_of X G a_l_number,
      F_l_new_name := fun_mk (st := s_l_new_name) l_l_new_name cI_l_new_name k_l_new_name,
      bi_l_new_name := (fun_mk (st := s_l_new_name) l_l_new_name cI_l_new_name k_l_new_name).binds (ps := ["_law_bag_here", "_law_used"]) fun _ _ _ _ _ _ us hl => match us, hl with | [_, _], _ => rfl,
      g_l_new_name := PySem.W.mg_of X G a_l_new_name,
      F_l_balance := fun_mk (st := s_l_balance) l_l_balance cI_l_balance k_l_balance,
      bi_l_balance := (fun_mk (st := s_l_balance) l_l_balance cI_l_balance k_l_balance).binds (ps := ["_law_bag_here"]) fun _ _ _ _ _ _ us hl => match us, hl with | [_], _ => rfl,
      g_l_balance := PySem.W.mg_of X G a_l_balance,
      F_l_balances := fun_mk (st := s_l_balances) l_l_balances cI_l_balances k_l_balances,
      bi_l_balances := (fun_mk (st := s_l_balances) l_l_balances cI_l_balances k_l_balances).binds (ps := ["_law_bag_here", "_law_names"]) fun _ _ _ _ _ _ us hl => match us, hl with | [_, _], _ => rfl,
      g_l_balances := PySem.W.mg_of X G a_l_balances,
      F_l_next := fun_mk (st := s_l_next) l_l_next cI_l_next k_l_next,
      bi_l_next := (fun_mk (st := s_l_next) l_l_next cI_l_next k_l_next).binds (ps := ["_law_balances_here"]) fun _ _ _ _ _ _ us hl => match us, hl with | [_], _ => rfl,
      g_l_next := PySem.W.mg_of X G a_l_next,
      F_l_behind := fun_mk (st := s_l_behind) l_l_behind cI_l_behind k_l_behind,
      bi_l_behind := (fun_mk (st := s_l_behind) l_l_behind cI_l_behind k_l_behind).binds (ps := ["_law_balances_here", "_law_transfer"]) fun _ _ _ _ _ _ us hl => match us, hl with | [_, _], _ => rfl,
      g_l_behind := PySem.W.mg_of X G a_l_behind,
      F_l_best := fun_mk (st := s_l_best) l_l_best cI_l_best k_l_best,
      bi_l_best := (fun_mk (st := s_l_best) l_l_best cI_l_best k_l_best).binds (ps := ["_law_balances_here"]) fun _ _ _ _ _ _ us hl => match us, hl with | [_], _ => rfl,
      g_l_best := PySem.W.mg_of X G a_l_best,
      F_l_is_list := fun_mk (st := s_l_is_list) l_l_is_list cI_l_is_list k_l_is_list,
      bi_l_is_list := (fun_mk (st := s_l_is_list) l_l_is_list cI_l_is_list k_l_is_list).binds (ps := ["_law_told"]) fun _ _ _ _ _ _ us hl => match us, hl with | [_], _ => rfl,
      g_l_is_list := PySem.W.mg_of X G a_l_is_list,
      F_l_clears := fun_mk (st := s_l_clears) l_l_clears cI_l_clears k_l_clears,
      bi_l_clears := (fun_mk (st := s_l_clears) l_l_clears cI_l_clears k_l_clears).binds (ps := ["_law_balances_here", "_law_told"]) fun _ _ _ _ _ _ us hl => match us, hl with | [_, _], _ => rfl,
      g_l_clears := PySem.W.mg_of X G a_l_clears,
      F_law := fun_mk (st := s_law) l_law cI_law k_law,
      bi_law := (fun_mk (st := s_law) l_law cI_law k_law).binds (ps := ["_law_script"]) fun _ _ _ _ _ _ us hl => match us, hl with | [_], _ => rfl,
      g_law := PySem.W.mg_of X G a_law,
      g_Unknown := PySem.W.mg_of X G a_Unknown,
      ox_Unknown := ⟨⟨nm_Unknown, q_Unknown, N_Unknown, bs_Unknown, bm_Unknown, sn_Unknown, sub_Unknown, ab_Unknown, col_Unknown, dd_Unknown, m0_Unknown, m1_Unknown, m2_Unknown, m3_Unknown, m5_Unknown, xL_Unknown, rx_Unknown⟩, sx_Unknown, eC_Unknown, tC_Unknown, kE_Unknown⟩,
      nx_Unknown := nx_Unknown,
      ix_Unknown := ix_Unknown,
      tx_Unknown := tx_Unknown,
      b_abs := PySem.W.mg_none_of X G z_abs,
      b_any := PySem.W.mg_none_of X G z_any,
      b_bool := PySem.W.mg_none_of X G z_bool,
      b_dict := PySem.W.mg_none_of X G z_dict,
      b_enumerate := PySem.W.mg_none_of X G z_enumerate,
      b_int := PySem.W.mg_none_of X G z_int,
      b_isinstance := PySem.W.mg_none_of X G z_isinstance,
      b_len := PySem.W.mg_none_of X G z_len,
      b_list := PySem.W.mg_none_of X G z_list,
      b_max := PySem.W.mg_none_of X G z_max,
      b_min := PySem.W.mg_none_of X G z_min,
      b_range := PySem.W.mg_none_of X G z_range,
      b_str := PySem.W.mg_none_of X G z_str,
      b_sum := PySem.W.mg_none_of X G z_sum,
      b_tuple := PySem.W.mg_none_of X G z_tuple }
  exact ⟨(PySem.W.fnOf "law" "law" (defArgs s_law) (defBody s_law) (defScope s_law) .none kV_law dc_law pm_law an_law cd_law ct_law), fun s v => .of_eq rfl, fun base _ _ => Mi.okM_law T Mi.law_math⟩
theorem walk {l : PySem.W.OpenLaw} {q : Program} {loose : List Str} {XP : (Str → Option Value) → Heap → Prop} {YP : World → Heap → Prop} {d : DefRec} {K : Params → PySem.W.Frag} (hn : l.most = some 63) (hdf : d.params.defaults = [])
    (hY : ∀ (w : World) (h : Heap), YP w h → (K w.params).In h)
    (F : ∀ (w : World) (mg : Str → Option Value) (fa : Addr) (h : Heap), (K w.params).In h → h.Ns mainGlobals mg → mg d.name = some (.ref fa) →
      ∃ fd : FuncData, (∀ (s : Shared) (u : Value), BindsTo s fd ⟨[u], []⟩ [("_law_script", u)]) ∧ ∀ base : Heap, (K w.params).In base → base.Ns mainGlobals mg → FnOk l.prog w (K w.params) mg base CX0 12 fa fd ["_law_script"] (Mi.spLaw (K w.params))) :
    PySem.W.WalkO q loose XP YP l.row.toRowW d [] (fun f vs => PySem.call f vs) :=
  L2.walk_of (n := 63) (k := 12) (x := "_law_script") (CX := fun _ => CX0) (sp := fun w => Mi.spLaw (K w.params)) hn (by decide) hdf ⟨rfl, by decide, by decide⟩ hY F (fun _ _ a ns hl _ hS => ⟨a, ns, rfl, hS, hl, fun _ => rfl⟩) fun _ _ _ _ _ z => z
end Dh
/-! K47Fin -/
open PySem PySem.W PyProof.Rows
set_option Elab.async false
set_option maxRecDepth 100000 in
set_option maxHeartbeats 0 in
theorem PySem.Challenge.cw_duehouse_k47_whole_cleared_holds : PySem.Challenge.rw_duehouse_k47_whole_cleared.Holds := by
  w_on; o_law; k_head; (case hw => w_witness2)
  k_fill
  refine Dh.walk (l := PySem.Challenge.rw_duehouse_k47_whole_cleared) rfl rfl (fun w h Y => PySem.W.kIn_of Y) ?F
  case F =>
    intro w mg fa h KX G hmg
    refine' Dh.all_mk KX G hmg ?a_Unknown ?ix_Unknown ?a_ascending ?a_check_office ?a_are_opposed ?a_transfers_of ?a_first_list ?a_cleared ?a_made ?a_l_mixed ?a_l_bag ?a_l_pick ?a_l_sorted ?a_l_number ?a_l_new_name ?a_l_balance ?a_l_balances ?a_l_next ?a_l_behind ?a_l_best ?a_l_is_list ?a_l_clears ?a_law ?l_Unknown_XinitX ?cI_Unknown_XinitX ?k_Unknown_XinitX ?l_ascending ?cI_ascending ?k_ascending ?l_check_office ?cI_check_office ?k_check_office ?l_are_opposed ?cI_are_opposed ?k_are_opposed ?l_transfers_of ?cI_transfers_of ?k_transfers_of ?l_first_list ?cI_first_list ?k_first_list ?l_cleared ?cI_cleared ?k_cleared ?l_made ?cI_made ?k_made ?l_l_mixed ?cI_l_mixed ?k_l_mixed ?l_l_bag ?cI_l_bag ?k_l_bag ?l_l_pick ?cI_l_pick ?k_l_pick ?l_l_sorted ?cI_l_sorted ?k_l_sorted ?l_l_number ?cI_l_number ?k_l_number ?l_l_new_name ?cI_l_new_name ?k_l_new_name ?l_l_balance ?cI_l_balance ?k_l_balance ?l_l_balances ?cI_l_balances ?k_l_balances ?l_l_next ?cI_l_next ?k_l_next ?l_l_behind ?cI_l_behind ?k_l_behind ?l_l_best ?cI_l_best ?k_l_best ?l_l_is_list ?cI_l_is_list ?k_l_is_list ?l_l_clears ?cI_l_clears ?k_l_clears ?l_law ?cI_law ?k_law ?xL_Unknown ?rx_Unknown ?sx_Unknown ?eC_Unknown ?tC_Unknown ?kE_Unknown ?nx_Unknown ?tx_Unknown ?z_abs ?z_any ?z_bool ?z_dict ?z_enumerate ?z_int ?z_isinstance ?z_len ?z_list ?z_max ?z_min ?z_range ?z_str ?z_sum ?z_tuple
    (case a_Unknown => (k_is))
    (case ix_Unknown => (k_is))
    (case a_ascending => (k_is))
    (case a_check_office => (k_is))
    (case a_are_opposed => (k_is))
    (case a_transfers_of => (k_is))
    (case a_first_list => (k_is))
    (case a_cleared => (k_is))
    (case a_made => (k_is))
    (case a_l_mixed => (k_is))
    (case a_l_bag => (k_is))
    (case a_l_pick => (k_is))
    (case a_l_sorted => (k_is))
    (case a_l_number => (k_is))
    (case a_l_new_name => (k_is))
    (case a_l_balance => (k_is))
    (case a_l_balances => (k_is))
    (case a_l_next => (k_is))
    (case a_l_behind => (k_is))
    (case a_l_best => (k_is))
    (case a_l_is_list => (k_is))
    (case a_l_clears => (k_is))
    (case a_law => (k_is))
    (case l_Unknown_XinitX => (k_is))
    (case cI_Unknown_XinitX => (k_is))
    (case k_Unknown_XinitX => (k_is))
    (case l_ascending => (k_is))
    (case cI_ascending => (k_is))
    (case k_ascending => (k_is))
    (case l_check_office => (k_is))
    (case cI_check_office => (k_is))
    (case k_check_office => (k_is))
    (case l_are_opposed => (k_is))
    (case cI_are_opposed => (k_is))
    (case k_are_opposed => (k_is))
    (case l_transfers_of => (k_is))
    (case cI_transfers_of => (k_is))
    (case k_transfers_of => (k_is))
    (case l_first_list => (k_is))
    (case cI_first_list => (k_is))
    (case k_first_list => (k_is))
    (case l_cleared => (k_is))
    (case cI_cleared => (k_is))
    (case k_cleared => (k_is))
    (case l_made => (k_is))
    (case cI_made => (k_is))
    (case k_made => (k_is))
    (case l_l_mixed => (k_is))
    (case cI_l_mixed => (k_is))
    (case k_l_mixed => (k_is))
    (case l_l_bag => (k_is))
    (case cI_l_bag => (k_is))
    (case k_l_bag => (k_is))
    (case l_l_pick => (k_is))
    (case cI_l_pick => (k_is))
    (case k_l_pick => (k_is))
    (case l_l_sorted => (k_is))
    (case cI_l_sorted => (k_is))
    (case k_l_sorted => (k_is))
    (case l_l_number => (k_is))
    (case cI_l_number => (k_is))
    (case k_l_number => (k_is))
    (case l_l_new_name => (k_is))
    (case cI_l_new_name => (k_is))
    (case k_l_new_name => (k_is))
    (case l_l_balance => (k_is))
    (case cI_l_balance => (k_is))
    (case k_l_balance => (k_is))
    (case l_l_balances => (k_is))
    (case cI_l_balances => (k_is))
    (case k_l_balances => (k_is))
    (case l_l_next => (k_is))
    (case cI_l_next => (k_is))
    (case k_l_next => (k_is))
    (case l_l_behind => (k_is))
    (case cI_l_behind => (k_is))
    (case k_l_behind => (k_is))
    (case l_l_best => (k_is))
    (case cI_l_best => (k_is))
    (case k_l_best => (k_is))
    (case l_l_is_list => (k_is))
    (case cI_l_is_list => (k_is))
    (case k_l_is_list => (k_is))
    (case l_l_clears => (k_is))
    (case cI_l_clears => (k_is))
    (case k_l_clears => (k_is))
    (case l_law => (k_is))
    (case cI_law => (k_is))
    (case k_law => (k_is))
    (case xL_Unknown => (k_is))
    (case rx_Unknown => (decide +kernel))
    (case sx_Unknown => (k_is))
    (case eC_Unknown => (k_is))
    (case tC_Unknown => (k_is))
    (case kE_Unknown => (k_is))
    (case nx_Unknown => (k_is))
    (case tx_Unknown => (k_is))
    (case z_abs => (k_is))
    (case z_any => (k_is))
    (case z_bool => (k_is))
    (case z_dict => (k_is))
    (case z_enumerate => (k_is))
    (case z_int => (k_is))
    (case z_isinstance => (k_is))
    (case z_len => (k_is))
    (case z_list => (k_is))
    (case z_max => (k_is))
    (case z_min => (k_is))
    (case z_range => (k_is))
    (case z_str => (k_is))
    (case z_sum => (k_is))
    (case z_tuple => (k_is))
